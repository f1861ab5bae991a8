import PyProof.Rows.All
import Wide.All
import OpenK.AllK
import Wide.FinOn
import HandS.ForMost
import HandS.ForExc
import HandS.Flow
import HandS.Wide
import HandS.NoneIn
import HandS.Conv
import HandS.Star
import HandS.IsInst
import KE.KDictKeyed
import HandS.TupAny
import HandS.TupMul
import HandS.Deep
import HandS.Text
import HandS.CallSlots
import HandS.Walk
import HandS.Flt
import HandS.More
import HandS.Iter
import HandS.ExcOwn
import HandS.TryOnly
import HandS.ExcCtx
import HandS.SuiteRaise
import HandS.RaiseFrom
import HandS.ExcIs
import KE.GoesEnum
import KE.KDictZip
import HandS.Zip
import HandS.SetFor
import HandS.EndBits
import HandS.Words
import HandS.Style
import HandS.DictComp
import HandS.NestedK
import HandS.ClsMeth
import HandS.EndTab
import HandS.Comp
import PyProof.NeKinds
import HandS.Property
import HandS.Strs
import HandS.ExcInit
import HandS.ExcField
import HandS.FStr
import PySem.Challenge.RW_keptops_k32_open_answers
set_option Elab.async false
set_option linter.all false
set_option maxRecDepth 100000
namespace MI
open PySem L2
/-- the code objects that a run makes: what each place's is called, by line and column; the tables that stand at the start -/
class Nms where
  nm : Nat → Nat → Str
  tb : PySem.W.Frag → List Addr
  wd : World := ⟨fun _ _ => 0, { strHash := fun _ => 0, shareClass := fun _ => 0, mergeTok := fun t => t, idOf := fun _ => 0, idOfShared := fun _ _ => 0, followText := fun _ => false, idOfImm := fun _ => 0 }⟩
/-- values: tuples are told by what they hold, mutable objects by their number -/
inductive MV where
  | non | bl (b : Bool) | int (i : Int) | str (s : Str) | tup (l : List MV) | ref (n : Nat) | kl (l : List MV) | clo (c : Addr) (β : List Addr)
/-- an exception: its class's name -/
structure Exn where
  cls : Str
  /-- its own values -/
  fs : List (Str × MV) := []
/-- objects -/
inductive MO where
  | lst (l : List MV) | frz (l : List MV) | dct (l : List (Key × MV)) | exn (x : Exn) | own (c : Str) (l : List (Str × MV)) | dN (l : List (MV × MV))
abbrev Mem := List MO
abbrev Env := List (Option MV)
inductive Re (α : Type) where
  | ok (a : α) (m : Mem) | ex (x : Exn) (m : Mem) | stuck
/-- how a statement ends -/
inductive Fl where
  | nx (ρ : Env) | rt (d : MV) | bk (ρ : Env) | ct (ρ : Env) | ex (x : Exn) (ρ : Env)
abbrev ME := Env → Mem → Re MV
abbrev MT := Env → Mem → Re Bool
abbrev MA := Env → Mem → Re (List MV)
abbrev MS := Env → Mem → Re Fl
abbrev MF := List MV → Mem → Re MV
def Re.bind {α γ : Type} : Re α → (α → Mem → Re γ) → Re γ
  | .ok a m, f => f a m
  | .ex x m, _ => .ex x m
  | .stuck, _ => .stuck
/-- a list that nobody writes: the script, or one of the module -/
def KL (K : PySem.W.Frag) (β : List Addr) (H : Hp) (a : Addr) (vs : List V) : Prop :=
  (a ∉ β ∧ ∃ ob, H a = some (.frz ob (.lst vs))) ∨ ∃ (o : Obj) (its : Array Value) (n : Nat), K.lookup a = some o ∧ o.cls = .type "list" ∧ o.dict = none ∧ o.data = .seq its n ∧ its.size ≤ sizeLine ∧ Vals vs its.toList
mutual
inductive RV (K : PySem.W.Frag) (β : List Addr) (H : Hp) : MV → V → Prop
  | non : RV K β H .non .non
  | bl (b : Bool) : RV K β H (.bl b) (.bl b)
  | int (i : Int) : RV K β H (.int i) (.int i)
  | str (x : Str) : RV K β H (.str x) (.str x)
  | tup {a : Addr} {ds : List MV} {vs : List V} : SqT K H a vs → RVs K β H ds vs → RV K β H (.tup ds) (.ref a)
  | ref {n : Nat} {a : Addr} : β[n]? = some a → RV K β H (.ref n) (.ref a)
  | kl {a : Addr} {ds : List MV} {vs : List V} : KL K β H a vs → RVs K β H ds vs → RV K β H (.kl ds) (.ref a)
  | clo {c : Addr} {β0 : List Addr} : (∀ (n : Nat) (a : Addr), β0[n]? = some a → β[n]? = some a) → RV K β H (.clo c β0) (.ref c)
inductive RVs (K : PySem.W.Frag) (β : List Addr) (H : Hp) : List MV → List V → Prop
  | nil : RVs K β H [] []
  | cons {d : MV} {v : V} {ds : List MV} {vs : List V} : RV K β H d v → RVs K β H ds vs → RVs K β H (d :: ds) (v :: vs)
end
/-- pairs of a dict -/
inductive RKs (K : PySem.W.Frag) (β : List Addr) (H : Hp) : List (Key × MV) → List (Key × V) → Prop
  | nil : RKs K β H [] []
  | cons {k : Key} {d : MV} {v : V} {ds : List (Key × MV)} {vs : List (Key × V)} : RV K β H d v → RKs K β H ds vs → RKs K β H ((k, d) :: ds) ((k, v) :: vs)
mutual
def nkOf : MV → Option NestedKey
  | .non => some .none
  | .int i => some (.num i)
  | .str x => some (.text x)
  | .tup l => match nksOf l with
    | some ks => some (.tup ks)
    | none => none
  | _ => none
def nksOf : List MV → Option (List NestedKey)
  | [] => some []
  | d :: ds => match nkOf d, nksOf ds with
    | some k, some ks => some (k :: ks)
    | _, _ => none
end
/-- pairs of a dict whose keys are tuples -/
inductive RNs (K : PySem.W.Frag) (β : List Addr) (H : Hp) : List (MV × MV) → List (NestedKey × Addr × Value) → Prop
  | nil : RNs K β H [] []
  | cons {d e : MV} {q : NestedKey} {a : Addr} {u : Value} {v : V} {ds : List (MV × MV)} {xs : List (NestedKey × Addr × Value)} : nkOf d = some q → q.depth ≤ 8 → RV K β H d (.ref a) → RelV v u → RV K β H e v → RNs K β H ds xs → RNs K β H ((d, e) :: ds) ((q, a, u) :: xs)
/-- the dict's one object, its keys' hashes as the world has them -/
def NDx [Nms] (a : Addr) (xs : List (NestedKey × Addr × Value)) : HO := .ext fun h => ∃ (o : Obj) (es : Array DictEntry) (ep : Nat), h.get? a = some o ∧ o.ExactDict ∧ o.data = .dict es ep ∧ es.toList = xs.map (fun x => (⟨x.1.hash Nms.wd, .ref x.2.1, x.2.2⟩ : DictEntry)) ∧ (xs.map (·.1)).Nodup
/-- values of an object -/
inductive RFs (K : PySem.W.Frag) (β : List Addr) (H : Hp) : List (Str × MV) → List (Str × V) → Prop
  | nil : RFs K β H [] []
  | cons {k : Str} {d : MV} {v : V} {ds : List (Str × MV)} {vs : List (Str × V)} : RV K β H d v → RFs K β H ds vs → RFs K β H ((k, d) :: ds) ((k, v) :: vs)
/-- the class of that name -/
def ClsN (K : PySem.W.Frag) (x : Str) (C : Addr) : Prop := PySem.W.nsIn K mainGlobals x = some (some (.ref C))
/-- an exception object that is kept -/
def ExH (cls : Value) (a : Addr) (d : Option Addr) : HO := .ext fun h => ∃ (oe : Obj) (vs : Array Value), h.get? a = some oe ∧ oe.cls = cls ∧ oe.dict = d ∧ oe.data = .fields vs
/-- its own values in its dict -/
def FsR (K : PySem.W.Frag) (β : List Addr) (H : Hp) (fs : List (Str × MV)) (d : Option Addr) : Prop := (fs = [] ∧ d = none) ∨ ∃ (dd : Addr) (vs : List (Str × V)), d = some dd ∧ H dd = some (.xd vs) ∧ dd ∉ β ∧ RFs K β H fs vs
def RO [Nms] (K : PySem.W.Frag) (β : List Addr) (H : Hp) (o : MO) (a : Addr) : Prop :=
  match o with
  | .lst l => ∃ vs, H a = some (.lst vs) ∧ RVs K β H l vs
  | .frz l => ∃ vs ob, H a = some (.frz ob (.lst vs)) ∧ RVs K β H l vs
  | .dct l => ∃ vs, H a = some (.dK vs) ∧ RKs K β H l vs
  | .exn x => ∃ C d, ClsN K x.cls C ∧ H a = some (ExH (.ref C) a d) ∧ FsR K β H x.fs d
  | .own c l => ∃ C dx vs, ClsN K c C ∧ H a = some (.ins C dx vs) ∧ RFs K β H l vs
  | .dN l => ∃ xs, H a = some (NDx a xs) ∧ (a == sysModules) = false ∧ RNs K β H l xs
/-- a code object that a run made: it is known, and stays -/
def CodeF (o : Obj) : HO := .frz o (.own 0)
/-- the object o, at c, is a code object of the name q with its table at P -/
def CodeIs (o : Obj) (q : Str) (c P : Addr) : Prop := ∀ h : Heap, h.get? c = some o → PySem.W.CodeHd h c P ∧ h.CodeRec (.ref c) q
/-- a table of code objects that can be come to -/
inductive Rch (tb : List Addr) (H : Hp) : Addr → Prop
  | st {P : Addr} : P ∈ tb → Rch tb H P
  | en {P c P' : Addr} {ps : Array Value} {pos : Pos} {o : Obj} {q : Str} : Rch tb H P → H P = some (.tbl ps) → codeAmong pos ps.toList = some (.ref c) → H c = some (CodeF o) → CodeIs o q c P' → Rch tb H P'
section
variable [Nms]
/-- every table that can be come to is one, and tells code objects of the right names -/
def GoodT (K : PySem.W.Frag) (H : Hp) : Prop := ∀ P, Rch (Nms.tb K) H P → ∃ ps, H P = some (.tbl ps) ∧ TriplesOk ps.toList ∧
  ∀ (pos : Pos) (cv : Value), codeAmong pos ps.toList = some cv → ∃ c o P', cv = .ref c ∧ H c = some (CodeF o) ∧ CodeIs o (Nms.nm pos.line pos.col) c P'
structure RM (K : PySem.W.Frag) (β : List Addr) (H : Hp) (m : Mem) : Prop where
  tabs : GoodT K H
  len : β.length = m.length
  nd : β.Nodup
  ob : ∀ (n : Nat) (o : MO) (a : Addr), m[n]? = some o → β[n]? = some a → RO K β H o a
structure RE (K : PySem.W.Frag) (β : List Addr) (H : Hp) (ρ : Env) (σ : L2.St) : Prop where
  len : ρ.length = σ.length
  at_ : ∀ (i : Nat) (d : MV), ρ[i]? = some (some d) → ∃ v, σ[i]? = some (some v) ∧ RV K β H d v
end
structure Ext (β : List Addr) (H : Hp) (β' : List Addr) (H' : Hp) : Prop where
  pre : ∃ r, β' = β ++ r
  old : ∀ a o, H a = some o → a ∉ β → (∀ ps, o ≠ .tbl ps) → H' a = some o
  tab : ∀ a ps, H a = some (.tbl ps) → a ∉ β → ∃ more, H' a = some (.tbl (ps ++ more))
  new : ∀ a, a ∈ β' → a ∈ β ∨ H a = none
section
variable [Nms] {K : PySem.W.Frag} {β β' β'' : List Addr} {H H' H'' : Hp} {m m' : Mem}
theorem Ext.refl : Ext β H β H := ⟨⟨[], by simp⟩, fun _ _ h _ _ => h, fun _ ps h _ => ⟨#[], by rw [h]; simp⟩, fun _ h => .inl h⟩
theorem Ext.get (e : Ext β H β' H') {n : Nat} {a : Addr} (h : β[n]? = some a) : β'[n]? = some a := by
  obtain ⟨r, rfl⟩ := e.pre
  have hl : n < β.length := (List.getElem?_eq_some_iff.mp h).1
  rw [List.getElem?_append_left hl]; exact h
theorem Ext.mem (e : Ext β H β' H') {a : Addr} (h : a ∈ β) : a ∈ β' := by
  obtain ⟨r, rfl⟩ := e.pre
  exact List.mem_append_left _ h
theorem Ext.trans (e : Ext β H β' H') (f : Ext β' H' β'' H'') : Ext β H β'' H'' := by
  refine ⟨?_, fun a o h n t => ?_, fun a ps h n => ?_, fun a h => ?_⟩
  · obtain ⟨r, rfl⟩ := e.pre
    obtain ⟨q, rfl⟩ := f.pre
    exact ⟨r ++ q, by simp⟩
  · refine f.old a o (e.old a o h n t) (fun z => ?_) t
    rcases e.new a z with z | z
    · exact n z
    · rw [h] at z; cases z
  · obtain ⟨m1, h1⟩ := e.tab a ps h n
    obtain ⟨m2, h2⟩ := f.tab a _ h1 fun z => by
      rcases e.new a z with z | z
      · exact n z
      · rw [h] at z; cases z
    exact ⟨m1 ++ m2, by rw [h2, Array.append_assoc]⟩
  · rcases f.new a h with z | z
    · exact e.new a z
    · by_cases q : a ∈ β
      · exact .inl q
      · refine .inr ?_
        cases w : H a with
        | none => rfl
        | some o =>
          by_cases t : ∃ ps, o = .tbl ps
          · obtain ⟨ps, rfl⟩ := t
            obtain ⟨ps', h'⟩ := e.tab a ps w q
            rw [h'] at z; cases z
          · rw [e.old a o w q fun ps z => t ⟨ps, z⟩] at z; cases z
theorem RM.at_ (R : RM K β H m) {a : Addr} (h : a ∈ β) : ∃ (n : Nat) (o : MO), m[n]? = some o ∧ β[n]? = some a ∧ RO K β H o a := by
  obtain ⟨n, hn⟩ := List.mem_iff_getElem?.mp h
  have hl : n < m.length := by rw [← R.len]; exact (List.getElem?_eq_some_iff.mp hn).1
  exact ⟨n, m[n], by simp [hl], hn, R.ob n _ a (by simp [hl]) hn⟩
theorem RM.notup (R : RM K β H m) {a : Addr} {xs : List V} (h : Rd H a (.tup xs)) : a ∉ β := fun z => by
  obtain ⟨n, o, _, _, r⟩ := R.at_ z
  rcases h with h | ⟨ob, h⟩
  · cases o with
    | lst l => obtain ⟨vs, e, _⟩ := r; rw [h] at e; cases e
    | frz l => obtain ⟨vs, ob, e, _⟩ := r; rw [h] at e; cases e
    | dct l => obtain ⟨vs, e, _⟩ := r; rw [h] at e; cases e
    | exn x => obtain ⟨C, _, _, e, _⟩ := r; rw [h] at e; unfold ExH at e; cases e
    | own c l => obtain ⟨C, dx, vs, _, e, _⟩ := r; rw [h] at e; cases e
    | dN l => obtain ⟨xs, e, _⟩ := r; rw [h] at e; unfold NDx at e; cases e
  · cases o with
    | lst l => obtain ⟨vs, e, _⟩ := r; rw [h] at e; cases e
    | frz l => obtain ⟨vs, ob, e, _⟩ := r; rw [h] at e; cases e
    | dct l => obtain ⟨vs, e, _⟩ := r; rw [h] at e; cases e
    | exn x => obtain ⟨C, _, _, e, _⟩ := r; rw [h] at e; unfold ExH at e; cases e
    | own c l => obtain ⟨C, dx, vs, _, e, _⟩ := r; rw [h] at e; cases e
    | dN l => obtain ⟨xs, e, _⟩ := r; rw [h] at e; unfold NDx at e; cases e
theorem RM.sqt (R : RM K β H m) (e : Ext β H β' H') {a : Addr} {xs : List V} (h : SqT K H a xs) : SqT K H' a xs := by
  rcases h with h | h
  · have n := R.notup h
    rcases h with h | ⟨o, h⟩
    · exact .inl (.inl (e.old _ _ h n fun _ z => by cases z))
    · exact .inl (.inr ⟨o, e.old _ _ h n fun _ z => by cases z⟩)
  · exact .inr h
theorem KL.ext (e : Ext β H β' H') {a : Addr} {vs : List V} (h : KL K β H a vs) : KL K β' H' a vs := by
  rcases h with ⟨n, ob, h⟩ | h
  · refine .inl ⟨fun z => ?_, ob, e.old _ _ h n fun _ z => by cases z⟩
    rcases e.new a z with z | z
    · exact n z
    · rw [h] at z; cases z
  · exact .inr h
mutual
theorem RV.ext (R : RM K β H m) (e : Ext β H β' H') : ∀ {d : MV} {v : V}, RV K β H d v → RV K β' H' d v
  | _, _, .non => .non
  | _, _, .bl b => .bl b
  | _, _, .int i => .int i
  | _, _, .str x => .str x
  | _, _, .tup h r => .tup (R.sqt e h) (RVs.ext R e r)
  | _, _, .ref h => .ref (e.get h)
  | _, _, .kl h r => .kl (KL.ext e h) (RVs.ext R e r)
  | _, _, .clo h => .clo fun n a q => e.get (h n a q)
theorem RVs.ext (R : RM K β H m) (e : Ext β H β' H') : ∀ {d : List MV} {v : List V}, RVs K β H d v → RVs K β' H' d v
  | _, _, .nil => .nil
  | _, _, .cons h r => .cons (RV.ext R e h) (RVs.ext R e r)
end
theorem RKs.ext (R : RM K β H m) (e : Ext β H β' H') : ∀ {d : List (Key × MV)} {v : List (Key × V)}, RKs K β H d v → RKs K β' H' d v
  | _, _, .nil => .nil
  | _, _, .cons h r => .cons (RV.ext R e h) (RKs.ext R e r)
theorem RFs.ext (R : RM K β H m) (e : Ext β H β' H') : ∀ {d : List (Str × MV)} {v : List (Str × V)}, RFs K β H d v → RFs K β' H' d v
  | _, _, .nil => .nil
  | _, _, .cons h r => .cons (RV.ext R e h) (RFs.ext R e r)
theorem RNs.ext (R : RM K β H m) (e : Ext β H β' H') : ∀ {d : List (MV × MV)} {v : List (NestedKey × Addr × Value)}, RNs K β H d v → RNs K β' H' d v
  | _, _, .nil => .nil
  | _, _, .cons h1 h2 h3 h4 h5 r => .cons h1 h2 (RV.ext R e h3) h4 (RV.ext R e h5) (RNs.ext R e r)
theorem RE.ext {ρ : Env} {σ : L2.St} (R : RM K β H m) (e : Ext β H β' H') (r : RE K β H ρ σ) : RE K β' H' ρ σ :=
  ⟨r.len, fun i d h => let ⟨v, h1, h2⟩ := r.at_ i d h; ⟨v, h1, h2.ext R e⟩⟩
theorem RE.set {ρ : Env} {σ : L2.St} {i : Nat} {d : MV} {v : V} (r : RE K β H ρ σ) (h : RV K β H d v) : RE K β H (ρ.set i (some d)) (σ.set i (some v)) := by
  refine ⟨by simp [r.len], fun j e q => ?_⟩
  by_cases hj : i = j
  · subst hj
    by_cases hl : i < ρ.length
    · rw [List.getElem?_set_self hl] at q
      cases q
      exact ⟨v, List.getElem?_set_self (by rw [← r.len]; exact hl), h⟩
    · rw [List.getElem?_eq_none (by simp; omega)] at q; cases q
  · rw [List.getElem?_set_ne hj] at q
    obtain ⟨u, h1, h2⟩ := r.at_ j e q
    exact ⟨u, by rw [List.getElem?_set_ne hj]; exact h1, h2⟩
theorem RVs.length : ∀ {ds : List MV} {vs : List V}, RVs K β H ds vs → ds.length = vs.length
  | _, _, .nil => rfl
  | _, _, .cons _ r => by simp [RVs.length r]
theorem RVs.get : ∀ {ds : List MV} {vs : List V} {i : Nat} {d : MV}, RVs K β H ds vs → ds[i]? = some d → ∃ v, vs[i]? = some v ∧ RV K β H d v
  | _, _, _, _, .nil, e => by simp at e
  | _, _, 0, _, .cons h r, e => by simp at e; subst e; exact ⟨_, rfl, h⟩
  | _, _, i + 1, d, .cons h r, e => by
    obtain ⟨v, h1, h2⟩ := RVs.get (i := i) r (by simpa using e)
    exact ⟨v, by simpa using h1, h2⟩
theorem RVs.app : ∀ {ds es : List MV} {vs us : List V}, RVs K β H ds vs → RVs K β H es us → RVs K β H (ds ++ es) (vs ++ us)
  | _, _, _, _, .nil, q => q
  | _, _, _, _, .cons h r, q => .cons h (RVs.app r q)
theorem RVs.take : ∀ {ds : List MV} {vs : List V} (n : Nat), RVs K β H ds vs → RVs K β H (ds.take n) (vs.take n)
  | _, _, 0, _ => by simp; exact .nil
  | _, _, n + 1, .nil => by simp; exact .nil
  | _, _, n + 1, .cons h r => .cons h (RVs.take n r)
theorem RVs.drop : ∀ {ds : List MV} {vs : List V} (n : Nat), RVs K β H ds vs → RVs K β H (ds.drop n) (vs.drop n)
  | _, _, 0, r => r
  | _, _, n + 1, .nil => .nil
  | _, _, n + 1, .cons h r => RVs.drop n r
theorem RVs.set : ∀ {ds : List MV} {vs : List V} {d : MV} {v : V} (n : Nat), RVs K β H ds vs → RV K β H d v → RVs K β H (ds.set n d) (vs.set n v)
  | _, _, _, _, _, .nil, _ => .nil
  | _, _, _, _, 0, .cons h r, q => .cons q r
  | _, _, _, _, n + 1, .cons h r, q => .cons h (RVs.set n r q)
/-- a new object is laid -/
theorem RM.fresh (R : RM K β H m) {p : Addr} (hp : H p = none) : p ∉ β := fun z => by
  obtain ⟨n, o, _, _, r⟩ := R.at_ z
  cases o with
  | lst l => obtain ⟨vs, e, _⟩ := r; rw [hp] at e; cases e
  | frz l => obtain ⟨vs, ob, e, _⟩ := r; rw [hp] at e; cases e
  | dct l => obtain ⟨vs, e, _⟩ := r; rw [hp] at e; cases e
  | exn x => obtain ⟨C, _, _, e, _⟩ := r; rw [hp] at e; cases e
  | own c l => obtain ⟨C, dx, vs, _, e, _⟩ := r; rw [hp] at e; cases e
  | dN l => obtain ⟨xs, e, _⟩ := r; rw [hp] at e; cases e
theorem Ext.tup {p : Addr} {o : HO} (hp : H p = none) : Ext β H β (upd H p o) :=
  ⟨⟨[], by simp⟩, fun a u h _ _ => by rw [upd_ne (ne_of_none h hp)]; exact h, fun a ps h _ => ⟨#[], by rw [upd_ne (ne_of_none h hp), h]; simp⟩, fun _ h => .inl h⟩
theorem Ext.push {p : Addr} {o : HO} (hp : H p = none) : Ext β H (β ++ [p]) (upd H p o) :=
  ⟨⟨[p], rfl⟩, fun a u h _ _ => by rw [upd_ne (ne_of_none h hp)]; exact h, fun a ps h _ => ⟨#[], by rw [upd_ne (ne_of_none h hp), h]; simp⟩, fun a h => by
    rcases List.mem_append.mp h with z | z
    · exact .inl z
    · simp at z; subst z; exact .inr hp⟩
theorem FsR.ext (R : RM K β H m) (e : Ext β H β' H') {fs : List (Str × MV)} {d : Option Addr} (h : FsR K β H fs d) : FsR K β' H' fs d := by
  rcases h with h | ⟨dd, vs, h1, h2, h3, h4⟩
  · exact .inl h
  · refine .inr ⟨dd, vs, h1, e.old dd _ h2 h3 (fun _ z => by cases z), fun z => ?_, h4.ext R e⟩
    rcases e.new dd z with z | z
    · exact h3 z
    · rw [h2] at z; cases z
theorem RO.ext (R : RM K β H m) (e : Ext β H β' H') {o : MO} {a : Addr} (ha : H' a = H a) (r : RO K β H o a) : RO K β' H' o a := by
  cases o with
  | lst l => obtain ⟨vs, h, q⟩ := r; exact ⟨vs, by rw [ha]; exact h, q.ext R e⟩
  | frz l => obtain ⟨vs, ob, h, q⟩ := r; exact ⟨vs, ob, by rw [ha]; exact h, q.ext R e⟩
  | dct l => obtain ⟨vs, h, q⟩ := r; exact ⟨vs, by rw [ha]; exact h, q.ext R e⟩
  | exn x => obtain ⟨C, d, h1, h2, h3⟩ := r; exact ⟨C, d, h1, by rw [ha]; exact h2, h3.ext R e⟩
  | own c l => obtain ⟨C, dx, vs, h1, h2, h3⟩ := r; exact ⟨C, dx, vs, h1, by rw [ha]; exact h2, h3.ext R e⟩
  | dN l => obtain ⟨xs, h, h2, q⟩ := r; exact ⟨xs, by rw [ha]; exact h, h2, q.ext R e⟩
/-- tables and code objects the same -/
theorem Rch.same {tb : List Addr} (hT : ∀ a ps, H' a = some (.tbl ps) → H a = some (.tbl ps)) (hF : ∀ a o, H' a = some (CodeF o) → H a = some (CodeF o)) {P : Addr} (r : Rch tb H' P) : Rch tb H P := by
  induction r with
  | st h => exact .st h
  | en _ h1 h2 h3 h4 ih => exact .en ih (hT _ _ h1) h2 (hF _ _ h3) h4
theorem GoodT.same (G : GoodT K H) (hT : ∀ a ps, H' a = some (.tbl ps) ↔ H a = some (.tbl ps)) (hF : ∀ a o, H' a = some (CodeF o) ↔ H a = some (CodeF o)) : GoodT K H' := fun P r => by
  obtain ⟨ps, h1, h2, h3⟩ := G P (r.same (fun a ps => (hT a ps).mp) fun a o => (hF a o).mp)
  refine ⟨ps, (hT _ _).mpr h1, h2, fun pos cv hc => ?_⟩
  obtain ⟨c, o, P', e1, e2, e3⟩ := h3 pos cv hc
  exact ⟨c, o, P', e1, (hF _ _).mpr e2, e3⟩
/-- neither a table nor a code object of a run -/
def NoTab (o : HO) : Prop := (∀ ps, o ≠ .tbl ps) ∧ ∀ b, o ≠ CodeF b
theorem GoodT.upd (G : GoodT K H) {p : Addr} {o : HO} (n : NoTab o) (h : ∀ u, H p = some u → NoTab u) : GoodT K (upd H p o) := by
  refine G.same (fun a ps => ?_) fun a b => ?_
  · by_cases e : a = p
    · subst e
      rw [upd_same]
      exact ⟨fun z => absurd (Option.some.inj z) (n.1 ps), fun z => absurd rfl ((h _ z).1 ps)⟩
    · rw [upd_ne e]
  · by_cases e : a = p
    · subst e
      rw [upd_same]
      exact ⟨fun z => absurd (Option.some.inj z) (n.2 b), fun z => absurd rfl ((h _ z).2 b)⟩
    · rw [upd_ne e]
theorem RO.noTab {o : MO} {a : Addr} (r : RO K β H o a) : ∀ u, H a = some u → NoTab u := fun u e => by
  cases o with
  | lst l => obtain ⟨vs, z, _⟩ := r; rw [z] at e; cases e; exact ⟨fun _ z => (by cases z), fun _ z => (by unfold CodeF at z; cases z)⟩
  | frz l => obtain ⟨vs, ob, z, _⟩ := r; rw [z] at e; cases e; exact ⟨fun _ z => (by cases z), fun _ z => (by unfold CodeF at z; cases z)⟩
  | dct l => obtain ⟨vs, z, _⟩ := r; rw [z] at e; cases e; exact ⟨fun _ z => (by cases z), fun _ z => (by unfold CodeF at z; cases z)⟩
  | exn x => obtain ⟨C, _, _, z, _⟩ := r; rw [z] at e; cases e; exact ⟨fun _ z => (by unfold ExH at z; cases z), fun _ z => (by unfold ExH CodeF at z; cases z)⟩
  | own c l => obtain ⟨C, dx, vs, _, z, _⟩ := r; rw [z] at e; cases e; exact ⟨fun _ z => (by cases z), fun _ z => (by unfold CodeF at z; cases z)⟩
  | dN l => obtain ⟨xs, z, _⟩ := r; rw [z] at e; cases e; exact ⟨fun _ z => (by unfold NDx at z; cases z), fun _ z => (by unfold NDx CodeF at z; cases z)⟩
theorem RM.noTab (R : RM K β H m) {a : Addr} (h : a ∈ β) : ∀ u, H a = some u → NoTab u := by
  obtain ⟨n, o, _, _, r⟩ := R.at_ h
  exact r.noTab
/-- a thing that the small world does not number: the objects stay -/
theorem RM.tup (R : RM K β H m) {p : Addr} {o : HO} (hp : H p = none) (nt : NoTab o := by exact ⟨fun _ z => (by cases z), fun _ z => (by unfold CodeF at z; cases z)⟩) : RM K β (upd H p o) m :=
  ⟨R.tabs.upd nt fun u e => (by rw [hp] at e; cases e), R.len, R.nd, fun n ob a h1 h2 => (R.ob n ob a h1 h2).ext R (Ext.tup hp) (upd_ne fun z => R.fresh hp (z ▸ List.mem_of_getElem? h2))⟩
theorem RM.push (R : RM K β H m) {p : Addr} {o : HO} {mo : MO} (hp : H p = none) (h : RO K (β ++ [p]) (upd H p o) mo p) : RM K (β ++ [p]) (upd H p o) (m ++ [mo]) := by
  refine ⟨R.tabs.upd (h.noTab _ upd_same) fun u e => (by rw [hp] at e; cases e), by simp [R.len], ?_, fun n ob a h1 h2 => ?_⟩
  · have := R.fresh hp
    have nd := R.nd
    rw [List.nodup_append]
    refine ⟨nd, by simp, fun a ha b hb => ?_⟩
    simp at hb
    subst hb
    intro z
    subst z
    exact this ha
  · by_cases hn : n < m.length
    · rw [List.getElem?_append_left hn] at h1
      rw [List.getElem?_append_left (by rw [R.len]; exact hn)] at h2
      exact (R.ob n ob a h1 h2).ext R (Ext.push hp) (upd_ne fun z => R.fresh hp (z ▸ List.mem_of_getElem? h2))
    · rw [List.getElem?_append_right (by omega)] at h1
      rw [List.getElem?_append_right (by rw [R.len]; omega), R.len] at h2
      cases hk : n - m.length with
      | zero =>
        rw [hk] at h1 h2
        simp at h1 h2
        subst h1; subst h2
        exact h
      | succ k => rw [hk] at h1; simp at h1
/-- an object is written -/
theorem Ext.wr {p : Addr} {o : HO} (hp : p ∈ β) : Ext β H β (upd H p o) :=
  ⟨⟨[], by simp⟩, fun a u h n _ => by rw [upd_ne (show a ≠ p from fun z => n (by rw [z]; exact hp))]; exact h, fun a ps h n => ⟨#[], by rw [upd_ne (show a ≠ p from fun z => n (by rw [z]; exact hp)), h]; simp⟩, fun _ h => .inl h⟩
theorem RM.wr (R : RM K β H m) {n : Nat} {p : Addr} {o : HO} {mo : MO} (hb : β[n]? = some p) (h : RO K β (upd H p o) mo p) : RM K β (upd H p o) (m.set n mo) := by
  refine ⟨R.tabs.upd (h.noTab _ upd_same) (R.noTab (List.mem_of_getElem? hb)), by simp [R.len], R.nd, fun i ob a h1 h2 => ?_⟩
  have hp : p ∈ β := List.mem_of_getElem? hb
  by_cases hi : n = i
  · subst hi
    rw [hb] at h2; cases h2
    have hl : n < m.length := by rw [← R.len]; exact (List.getElem?_eq_some_iff.mp hb).1
    rw [List.getElem?_set_self hl] at h1
    cases h1
    exact h
  · rw [List.getElem?_set_ne hi] at h1
    refine (R.ob i ob a h1 h2).ext R (Ext.wr hp) (upd_ne fun z => hi ?_)
    subst z
    obtain ⟨l1, e1⟩ := List.getElem?_eq_some_iff.mp hb
    obtain ⟨l2, e2⟩ := List.getElem?_eq_some_iff.mp h2
    exact (List.getElem_inj R.nd).mp (e1.trans e2.symm)
end
/-- an exception's class and own values, as the machine has them -/
def XR (K : PySem.W.Frag) (β : List Addr) (H : Hp) (x : Exn) (cls : Value) (d : Option Addr) : Prop := ∃ C : Addr, cls = .ref C ∧ ClsN K x.cls C ∧ FsR K β H x.fs d
section
variable [Nms] (X : Cx) (W : WX)
def Post {α γ : Type} (r : Re α) (β : List Addr) (H : Hp) (σ : L2.St) (R : List Addr → Hp → α → γ → Prop) (Q : γ → Hp → Prop) : Prop :=
  match r with
  | .ok d m' => ∀ v H' β', Ext β H β' H' → RM X.K β' H' m' → R β' H' d v → Q v H'
  | .ex x m' => ∀ cls dd H' β', Ext β H β' H' → RM X.K β' H' m' → XR X.K β' H' x cls dd → W cls dd σ H'
  | .stuck => False
def tE (f : ME) : TE := fun σ H Q => ∃ ρ m β, RE X.K β H ρ σ ∧ RM X.K β H m ∧ Post X W (f ρ m) β H σ (fun β' H' d v => RV X.K β' H' d v) Q
def tT (f : MT) : TT := fun σ H Q => ∃ ρ m β, RE X.K β H ρ σ ∧ RM X.K β H m ∧ Post X W (f ρ m) β H σ (fun _ _ d v => d = v) Q
def tA (f : MA) : TA := fun σ H Q => ∃ ρ m β, RE X.K β H ρ σ ∧ RM X.K β H m ∧ Post X W (f ρ m) β H σ (fun β' H' d v => RVs X.K β' H' d v) Q
def tS (f : MS) : TS := fun D σ H => ∃ ρ m β, RE X.K β H ρ σ ∧ RM X.K β H m ∧
  match f ρ m with
  | .ok (.nx ρ') m' => ∀ σ' H' β', Ext β H β' H' → RM X.K β' H' m' → RE X.K β' H' ρ' σ' → D.nx σ' H'
  | .ok (.bk ρ') m' => ∀ σ' H' β', Ext β H β' H' → RM X.K β' H' m' → RE X.K β' H' ρ' σ' → D.bk σ' H'
  | .ok (.ct ρ') m' => ∀ σ' H' β', Ext β H β' H' → RM X.K β' H' m' → RE X.K β' H' ρ' σ' → D.ct σ' H'
  | .ok (.rt d) m' => ∀ v H' β', Ext β H β' H' → RM X.K β' H' m' → RV X.K β' H' d v → D.rt v H'
  | .ok (.ex x ρ') m' => ∀ cls dd σ' H' β', Ext β H β' H' → RM X.K β' H' m' → RE X.K β' H' ρ' σ' → XR X.K β' H' x cls dd → W cls dd σ' H'
  | .ex _ _ => False
  | .stuck => False
end
section
variable [Nms]
structure JE (X : Cx) (W : WX) (e : Expr) (f : ME) : Prop where
  run : PE X e (tE X W f)
structure JT (X : Cx) (W : WX) (e : Expr) (f : MT) : Prop where
  run : PT X e (tT X W f)
structure JA (X : Cx) (W : WX) (es : List Expr) (f : MA) : Prop where
  run : PA X es (tA X W f)
structure JS (X : Cx) (W : WX) (st : Stmt) (f : MS) : Prop where
  run : PS X st (tS X W f)
structure JB (X : Cx) (W : WX) (st : List Stmt) (f : MS) : Prop where
  run : PSs X st (tS X W f)
end
/-- a stronger reading does -/
theorem pe_imp {X : Cx} {e : Expr} {t t' : TE} (h : PE X e t) (i : ∀ σ H Q, t' σ H Q → t σ H Q) : PE X e t' := ⟨fun pins s σ H Q I q => h.run pins s σ H Q I (i σ H Q q)⟩
theorem pt_imp {X : Cx} {e : Expr} {t t' : TT} (h : PT X e t) (i : ∀ σ H Q, t' σ H Q → t σ H Q) : PT X e t' := ⟨fun pins s σ H Q I q => h.run pins s σ H Q I (i σ H Q q)⟩
theorem pa_imp {X : Cx} {e : List Expr} {t t' : TA} (h : PA X e t) (i : ∀ σ H Q, t' σ H Q → t σ H Q) : PA X e t' := ⟨fun p pins s σ H Q I q => h.run p pins s σ H Q I (i σ H Q q)⟩
theorem ps_imp {X : Cx} {e : Stmt} {t t' : TS} (h : PS X e t) (i : ∀ D σ H, t' D σ H → t D σ H) : PS X e t' := ⟨fun pins s σ H D I q => h.run pins s σ H D I (i D σ H q)⟩
theorem pss_imp {X : Cx} {e : List Stmt} {t t' : TS} (h : PSs X e t) (i : ∀ D σ H, t' D σ H → t D σ H) : PSs X e t' := ⟨fun pins s σ H D I q => h.run pins s σ H D I (i D σ H q)⟩
section
variable [Nms] {X : Cx} {W : WX} {α γ δ ε : Type} {r : Re α} {β β1 : List Addr} {H H1 : Hp} {σ : L2.St}
theorem Post.later {R : List Addr → Hp → α → γ → Prop} {Q : γ → Hp → Prop} (p : Post X W r β H σ R Q) (e : Ext β H β1 H1) : Post X W r β1 H1 σ R Q := by
  cases r with
  | ok d m => exact fun v H' β' e' => p v H' β' (e.trans e')
  | ex x m => exact fun c d H' β' e' => p c d H' β' (e.trans e')
  | stuck => exact p
theorem Post.bind {k : α → Mem → Re δ} {R : List Addr → Hp → δ → ε → Prop} {R1 : List Addr → Hp → α → γ → Prop} {Q : ε → Hp → Prop} {Q1 : γ → Hp → Prop} (p : Post X W (r.bind k) β H σ R Q)
    (h : ∀ d m1 v H1 β1, r = .ok d m1 → Ext β H β1 H1 → RM X.K β1 H1 m1 → R1 β1 H1 d v → Post X W (k d m1) β1 H1 σ R Q → Q1 v H1) : Post X W r β H σ R1 Q1 := by
  cases r with
  | ok d m => exact fun v H' β' e M V => h d m v H' β' rfl e M V (Post.later (r := k d m) p e)
  | ex x m => exact p
  | stuck => exact p
theorem Post.ok {d : α} {m : Mem} {R : List Addr → Hp → α → γ → Prop} {Q : γ → Hp → Prop} (p : Post X W (.ok d m) β H σ R Q) {v : γ} (M : RM X.K β H m) (h : R β H d v) : Q v H := p v H β Ext.refl M h
theorem Post.not_stuck {R : List Addr → Hp → α → γ → Prop} {Q : γ → Hp → Prop} {Z : Prop} (p : Post X W (.stuck : Re α) β H σ R Q) : Z := p.elim
end
section
variable [Nms] {X : Cx} {W : WX} {pos : Pos}
def mVar (i : Nat) : ME := fun ρ m => match ρ[i]? with
  | some (some d) => .ok d m
  | _ => .stuck
theorem j_var (i : Nat) {x : Str} (hN : X.N[i]? = some x := by rfl) (hv : Vis X.env.scope x := by first | exact Or.inl rfl | exact Or.inr (Or.inl rfl) | exact Or.inr (Or.inr rfl)) (hd : (x == ("__debug__" : Str)) = false := by decide)
    (hcd : (x == ("__classdict__" : Str)) = false := by decide) : JE X W (.Name x pos) (mVar i) := by
  refine ⟨pe_imp (pe_var hN hv hd hcd) fun σ H Q ⟨ρ, m, β, hE, hM, p⟩ => ?_⟩
  unfold mVar at p
  split at p
  · rename_i d e
    obtain ⟨v, h1, h2⟩ := hE.at_ i d e
    exact ⟨v, h1, p.ok hM h2⟩
  · exact p.not_stuck
def mC (d : MV) : ME := fun _ m => .ok d m
theorem j_int {i : Int} {j : Nat} : JE X W (.Constant (.int i) j pos) (mC (.int i)) := ⟨pe_imp pe_int fun _ _ _ ⟨_, _, _, _, hM, p⟩ => p.ok hM (.int i)⟩
theorem j_bl {b : Bool} {j : Nat} : JE X W (.Constant (.bool b) j pos) (mC (.bl b)) := ⟨pe_imp pe_bl fun _ _ _ ⟨_, _, _, _, hM, p⟩ => p.ok hM (.bl b)⟩
theorem j_non {j : Nat} : JE X W (.Constant .none j pos) (mC .non) := ⟨pe_imp pe_non fun _ _ _ ⟨_, _, _, _, hM, p⟩ => p.ok hM .non⟩
theorem j_str {x : Str} {j : Nat} : JE X W (.Constant (.str x) j pos) (mC (.str x)) := ⟨pe_imp pe_str fun _ _ _ ⟨_, _, _, _, hM, p⟩ => p.ok hM (.str x)⟩
/-- a constant of the module -/
structure Con (K : PySem.W.Frag) (mg : Str → Option Value) (x : Str) (d : MV) : Prop where
  ex : ∃ (u : Value) (v : V), mg x = some u ∧ RelV v u ∧ ∀ β H, RV K β H d v
theorem j_con {x : Str} {d : MV} (c : Con X.K X.mg x d) (hg : Gl X x := by rfl) (hd : (x == ("__debug__" : Str)) = false := by decide) : JE X W (.Name x pos) (mC d) := by
  obtain ⟨u, v, h1, h2, h3⟩ := c.ex
  exact ⟨pe_imp (pe_glob hg h1 h2 hd) fun _ H _ ⟨_, _, β, _, hM, p⟩ => p.ok hM (h3 β H)⟩
def mBin (g : MV → MV → Mem → Re MV) (fa fb : ME) : ME := fun ρ m => (fa ρ m).bind fun a m1 => (fb ρ m1).bind fun b m2 => g a b m2
/-- an operator's rule does what g says -/
def OpM (X : Cx) (r : R2) (g : MV → MV → Mem → Re MV) : Prop := ∀ (W : WX) (σ : L2.St) (d e : MV) (m : Mem) (β : List Addr) (H : Hp) (x y : V) (Q : VK), RM X.K β H m → RV X.K β H d x → RV X.K β H e y →
  Post X W (g d e m) β H σ (fun β' H' d v => RV X.K β' H' d v) Q → r x y H Q
theorem j_op {op : Operator} {r : R2} {g : MV → MV → Mem → Re MV} {a b : Expr} {fa fb : ME} (ho : OpR X (binaryOp op) r) (hm : OpM X r g) (ha : JE X W a fa) (hb : JE X W b fb) : JE X W (.BinOp a op b pos) (mBin g fa fb) :=
  ⟨pe_imp (pe_op ho ha.run hb.run) fun σ H Q ⟨ρ, m, β, hE, hM, p⟩ => ⟨ρ, m, β, hE, hM, p.bind fun d m1 x H1 β1 _ e1 M1 V1 p1 => ⟨ρ, m1, β1, hE.ext hM e1, M1, p1.bind fun d2 m2 y H2 β2 _ e2 M2 V2 p2 =>
    hm W σ d d2 m2 β2 H2 x y Q M2 (V1.ext M1 e2) V2 p2⟩⟩⟩
theorem j_cmp {op : CmpOp} {r : R2} {g : MV → MV → Mem → Re MV} {a b : Expr} {fa fb : ME} (ho : OpR X (compareOp op) r) (hm : OpM X r g) (ha : JE X W a fa) (hb : JE X W b fb) (hk : behindInMarks op b = false := by first | exact nobehind _ (by decide) (by decide) | rfl) :
    JE X W (.Compare a [op] [b] pos) (mBin g fa fb) :=
  ⟨pe_imp (pe_cmpR ho ha.run hb.run hk) fun σ H Q ⟨ρ, m, β, hE, hM, p⟩ => ⟨ρ, m, β, hE, hM, p.bind fun d m1 x H1 β1 _ e1 M1 V1 p1 => ⟨ρ, m1, β1, hE.ext hM e1, M1, p1.bind fun d2 m2 y H2 β2 _ e2 M2 V2 p2 =>
    hm W σ d d2 m2 β2 H2 x y Q M2 (V1.ext M1 e2) V2 p2⟩⟩⟩
/-- a new object -/
def alloc (o : MO) (m : Mem) : Re MV := .ok (.ref m.length) (m ++ [o])
theorem Post.alloc {β : List Addr} {H : Hp} {σ : L2.St} {o : MO} {m : Mem} {Q : VK} (M : RM X.K β H m) (p : Post X W (alloc o m) β H σ (fun β' H' d v => RV X.K β' H' d v) Q) {a : Addr} {ho : HO} (na : H a = none) (h : RO X.K (β ++ [a]) (upd H a ho) o a) : Q (.ref a) (upd H a ho) :=
  p (.ref a) _ (β ++ [a]) (Ext.push na) (M.push na h) (.ref (by rw [← M.len]; simp))
theorem Post.newtup {β : List Addr} {H : Hp} {σ : L2.St} {ds : List MV} {m : Mem} {vs : List V} {Q : VK} (M : RM X.K β H m) (p : Post X W (.ok (.tup ds) m) β H σ (fun β' H' d v => RV X.K β' H' d v) Q) {a : Addr} (na : H a = none) (h : RVs X.K β H ds vs) : Q (.ref a) (upd H a (.tup vs)) :=
  p (.ref a) _ β (Ext.tup na) (M.tup na) (.tup (SqT.of upd_same) (h.ext M (Ext.tup na)))
/-- ints alone -/
def gII (C : Int → Int → Prop) [∀ i j, Decidable (C i j)] (f : Int → Int → MV) : MV → MV → Mem → Re MV
  | .int i, .int j, m => if C i j then .ok (f i j) m else .stuck
  | _, _, _ => .stuck
theorem om_I {C : Int → Int → Prop} [∀ i j, Decidable (C i j)] {f : Int → Int → MV} {g : Int → Int → V} (h : ∀ K β H i j, RV K β H (f i j) (g i j)) : OpM X (rI C g) (gII C f) := by
  intro W σ d e m β H x y Q M rx ry p
  unfold gII at p
  split at p
  · cases rx; cases ry
    split at p
    · rename_i i j hc
      exact ⟨i, j, rfl, rfl, hc, p.ok M (h _ _ _ i j)⟩
    · exact p.not_stuck
  · exact p.not_stuck
def gI0 (f : Int → Int → MV) : MV → MV → Mem → Re MV
  | .int i, .int j, m => .ok (f i j) m
  | _, _, _ => .stuck
theorem om_I0 {f : Int → Int → MV} {g : Int → Int → V} (h : ∀ K β H i j, RV K β H (f i j) (g i j)) : OpM X (rI0 g) (gI0 f) := by
  intro W σ d e m β H x y Q M rx ry p
  unfold gI0 at p
  split at p
  · cases rx; cases ry
    exact ⟨_, _, rfl, rfl, p.ok M (h _ _ _ _ _)⟩
  · exact p.not_stuck
end
end MI
namespace MI
open PySem L2
variable [Nms]
section
variable {X : Cx} {W : WX} {pos : Pos} {K : PySem.W.Frag} {β : List Addr} {H : Hp} {m : Mem}
def lstOf (m : Mem) (d : MV) : Option (List MV) := match d with
  | .ref n => match m[n]? with
    | some (.lst l) => some l
    | some (.frz l) => some l
    | _ => none
  | .kl l => some l
  | _ => none
/-- a list or a tuple -/
def seqOf (m : Mem) (d : MV) : Option (List MV) := match d with
  | .tup l => some l
  | d => lstOf m d
theorem RM.lst (R : RM K β H m) {d : MV} {v : V} {l : List MV} (r : RV K β H d v) (h : lstOf m d = some l) : ∃ a vs, v = .ref a ∧ SqL K H a vs ∧ RVs K β H l vs := by
  unfold lstOf at h
  split at h
  · rename_i n
    cases r with
    | ref hb =>
      split at h
      · rename_i l' e
        cases h
        obtain ⟨vs, q1, q2⟩ := R.ob n _ _ e hb
        exact ⟨_, vs, rfl, SqL.of q1, q2⟩
      · rename_i l' e
        cases h
        obtain ⟨vs, ob, q1, q2⟩ := R.ob n _ _ e hb
        exact ⟨_, vs, rfl, .inl (.inr ⟨ob, q1⟩), q2⟩
      · cases h
  · cases h
    cases r with
    | kl h1 h2 =>
      refine ⟨_, _, rfl, ?_, h2⟩
      rcases h1 with ⟨_, ob, h1⟩ | h1
      · exact .inl (.inr ⟨ob, h1⟩)
      · exact .inr h1
  · cases h
theorem RM.seq (R : RM K β H m) {d : MV} {v : V} {l : List MV} (r : RV K β H d v) (h : seqOf m d = some l) : ∃ a vs, v = .ref a ∧ (SqL K H a vs ∨ SqT K H a vs) ∧ RVs K β H l vs := by
  unfold seqOf at h
  split at h
  · rename_i l'
    cases h
    cases r with
    | tup h1 h2 => exact ⟨_, _, rfl, .inr h1, h2⟩
  · obtain ⟨a, vs, h1, h2, h3⟩ := R.lst r h
    exact ⟨a, vs, h1, .inl h2, h3⟩
/-- a list that may be written -/
def mutOf (m : Mem) (d : MV) : Option (Nat × List MV) := match d with
  | .ref n => match m[n]? with
    | some (.lst l) => some (n, l)
    | _ => none
  | _ => none
theorem mutOf_some {d : MV} {n : Nat} {l : List MV} (h : mutOf m d = some (n, l)) : d = .ref n ∧ m[n]? = some (.lst l) := by
  unfold mutOf at h
  split at h
  · split at h
    · rename_i e
      cases h
      exact ⟨rfl, e⟩
    · cases h
  · cases h
theorem RM.mut (R : RM K β H m) {d : MV} {v : V} {n : Nat} {l : List MV} (r : RV K β H d v) (h : mutOf m d = some (n, l)) : ∃ a vs, v = .ref a ∧ β[n]? = some a ∧ H a = some (.lst vs) ∧ RVs K β H l vs := by
  obtain ⟨rfl, e⟩ := mutOf_some h
  cases r with
  | ref hb =>
    obtain ⟨vs, q1, q2⟩ := R.ob n _ _ e hb
    exact ⟨_, vs, rfl, hb, q1, q2⟩
def gAdd : MV → MV → Mem → Re MV
  | .int i, .int j, m => .ok (.int (i + j)) m
  | .str a, .str b, m => if a.length + b.length ≤ sizeLine then .ok (.str (a ++ b)) m else .stuck
  | .tup a, .tup b, m => if a.length + b.length ≤ sizeLine then .ok (.tup (a ++ b)) m else .stuck
  | .ref a, .ref b, m => match mutOf m (.ref a), mutOf m (.ref b) with
    | some (_, xs), some (_, ys) => if xs.length + ys.length ≤ sizeLine then alloc (.lst (xs ++ ys)) m else .stuck
    | _, _ => .stuck
  | _, _, _ => .stuck
abbrev rAddA (K : PySem.W.Frag) : R2 := fun x y H Q => (rI0 (fun i j => V.int (i + j))) x y H Q ∨ (∃ i j, x = V.str i ∧ y = V.str j ∧ i.length + j.length ≤ sizeLine ∧ Q (V.str (i ++ j)) H) ∨ rCatA K x y H Q ∨ rCat x y H Q
theorem op_addA : OpR X (binaryOp .Add) (rAddA X.K) := OpR.or op_add (OpR.or op_add_str (OpR.or op_catA op_cat))
theorem om_add : OpM X (rAddA X.K) gAdd := by
  intro W σ d e m β H x y Q M rx ry p
  unfold gAdd at p
  split at p
  · cases rx; cases ry
    exact .inl ⟨_, _, rfl, rfl, p.ok M (.int _)⟩
  · cases rx; cases ry
    split at p
    · rename_i h
      exact .inr (.inl ⟨_, _, rfl, rfl, h, p.ok M (.str _)⟩)
    · exact p.not_stuck
  · cases rx with
    | tup h1 r1 =>
      cases ry with
      | tup h2 r2 =>
        split at p
        · rename_i h
          refine .inr (.inr (.inl ⟨_, _, _, _, rfl, rfl, h1, h2, by rw [← r1.length, ← r2.length]; exact h, fun z => ?_, fun _ z => ?_, fun _ _ q hq => ?_⟩))
          · subst z
            cases r1
            exact p.ok M (.tup h2 r2)
          · subst z
            cases r2
            rw [List.append_nil] at p
            exact p.ok M (.tup h1 r1)
          · exact p.newtup M hq (r1.app r2)
        · exact p.not_stuck
  · split at p
    · rename_i n1 xs n2 ys e1 e2
      split at p
      · rename_i h
        obtain ⟨a1, vs1, rfl, hb1, q1, r1⟩ := M.mut rx e1
        obtain ⟨a2, vs2, rfl, hb2, q2, r2⟩ := M.mut ry e2
        exact .inr (.inr (.inr ⟨_, _, _, _, rfl, rfl, q1, q2, by rw [← r1.length, ← r2.length]; exact h, fun q hq => p.alloc M hq ⟨_, upd_same, (r1.app r2).ext M (Ext.push hq)⟩⟩))
      · exact p.not_stuck
    · exact p.not_stuck
  · exact p.not_stuck
def gMul : MV → MV → Mem → Re MV
  | .int i, .int j, m => if (-(2 ^ 64) < i ∧ i < 2 ^ 64) ∨ (-(2 ^ 64) < j ∧ j < 2 ^ 64) then .ok (.int (i * j)) m else .stuck
  | .ref a, .int k, m => match mutOf m (.ref a) with
    | some (_, xs) => if 0 ≤ k ∧ k ≤ 1000 ∧ xs.length ≤ 1000 then alloc (.lst (List.replicate k.toNat xs).flatten) m else .stuck
    | _ => .stuck
  | .tup xs, .int k, m => if 0 < xs.length ∧ 2 ≤ k ∧ k ≤ 1000 ∧ xs.length ≤ 1000 then .ok (.tup (List.replicate k.toNat xs).flatten) m else .stuck
  | _, _, _ => .stuck
theorem RVs.rep {ds : List MV} {vs : List V} (h : RVs K β H ds vs) : ∀ k : Nat, RVs K β H (List.replicate k ds).flatten (List.replicate k vs).flatten
  | 0 => .nil
  | k + 1 => by rw [List.replicate_succ, List.replicate_succ, List.flatten_cons, List.flatten_cons]; exact h.app (RVs.rep h k)
abbrev rMulA (K : PySem.W.Frag) : R2 := fun x y H Q => (rI CMul (fun i j => V.int (i * j))) x y H Q ∨ rRep x y H Q ∨ rRepT K x y H Q
theorem op_mulA : OpR X (binaryOp .Mult) (rMulA X.K) := OpR.or op_mul (OpR.or op_rep op_repT)
theorem om_mul : OpM X (rMulA X.K) gMul := by
  intro W σ d e m β H x y Q M rx ry p
  unfold gMul at p
  split at p
  · cases rx; cases ry
    split at p
    · rename_i h
      exact .inl ⟨_, _, rfl, rfl, h, p.ok M (.int _)⟩
    · exact p.not_stuck
  · cases ry
    split at p
    · rename_i n1 xs e1
      split at p
      · rename_i h
        obtain ⟨a1, vs1, rfl, hb1, q1, r1⟩ := M.mut rx e1
        have hl := r1.length
        have hb : xs.length * (Int.toNat ‹Int›) ≤ 1000 * 1000 := Nat.mul_le_mul h.2.2 (by omega)
        exact .inr (.inl ⟨_, _, _, rfl, rfl, q1, by omega, by omega, by rw [← hl]; exact Nat.le_trans hb (by decide), fun q hq => p.alloc M hq ⟨_, upd_same, (r1.rep _).ext M (Ext.push hq)⟩⟩)
      · exact p.not_stuck
    · exact p.not_stuck
  · cases ry
    cases rx with
    | tup h1 r1 =>
      split at p
      · rename_i h
        have hl := r1.length
        exact .inr (.inr ⟨_, _, _, rfl, rfl, h1, fun z => by rw [z] at hl; simp at hl; rw [hl] at h; simp at h, h.2.1, h.2.2.1, by rw [← hl]; exact h.2.2.2, fun q hq => p.newtup M hq (r1.rep _)⟩)
      · exact p.not_stuck
  · exact p.not_stuck
theorem om_sub : OpM X (rI0 fun i j => V.int (i - j)) (gI0 fun i j => .int (i - j)) := om_I0 fun _ _ _ _ _ => .int _
theorem om_mod : OpM X (rI (fun _ j => 0 < j) fun i j => V.int (i % j)) (gII (fun _ j => 0 < j) fun i j => .int (i % j)) := om_I fun _ _ _ _ _ => .int _
instance (i j : Int) : Decidable (CDivW i j) := by unfold CDivW; exact inferInstance
theorem om_div : OpM X (rI CDivW fun i j => V.int (i / j)) (gII CDivW fun i j => .int (i / j)) := om_I fun _ _ _ _ _ => .int _
/-- a power, by its size in bits -/
def CPowW (i j : Int) : Prop := 0 ≤ j ∧ (Builtin.Int.intBits i : Int) * j ≤ 2 ^ 27
instance (i j : Int) : Decidable (CPowW i j) := by unfold CPowW; exact inferInstance
theorem op_powW : OpR X (binaryOp .Pow) (rI CPowW fun i j => V.int (i ^ j.toNat)) := by
  intro pins s σ H x y v u Q I rx ry h
  obtain ⟨i, j, rfl, rfl, ⟨h1, h2⟩, q⟩ := h
  obtain ⟨t, rfl⟩ := rx
  obtain ⟨t', rfl⟩ := ry
  exact PyProof.Rows.pow_int h1 h2 ⟨.int _, H, I.tok _, ⟨_, rfl⟩, q⟩
theorem om_pow : OpM X (rI CPowW fun i j => V.int (i ^ j.toNat)) (gII CPowW fun i j => .int (i ^ j.toNat)) := om_I fun _ _ _ _ _ => .int _
theorem om_lt : OpM X (rI0 fun i j => V.bl (decide (i < j))) (gI0 fun i j => .bl (decide (i < j))) := om_I0 fun _ _ _ _ _ => .bl _
theorem om_gt : OpM X (rI0 fun i j => V.bl (decide (j < i))) (gI0 fun i j => .bl (decide (j < i))) := om_I0 fun _ _ _ _ _ => .bl _
theorem om_ge : OpM X (rI0 fun i j => V.bl (decide (j ≤ i))) (gI0 fun i j => .bl (decide (j ≤ i))) := om_I0 fun _ _ _ _ _ => .bl _
/-- texts in their order -/
def gLeS : MV → MV → Mem → Re MV
  | .str a, .str b, m => .ok (.bl (!decide (b.cps.toList < a.cps.toList))) m
  | .int i, .int j, m => .ok (.bl (decide (i ≤ j))) m
  | _, _, _ => .stuck
abbrev rLeA : R2 := fun x y H Q => (rI0 (fun i j => V.bl (decide (i ≤ j)))) x y H Q ∨ (∃ i j, x = V.str i ∧ y = V.str j ∧ Q (V.bl (!decide (j.cps.toList < i.cps.toList))) H)
theorem op_leA : OpR X (compareOp .LtE) rLeA := OpR.or op_le op_le_str
theorem om_leA : OpM X rLeA gLeS := by
  intro W σ d e m β H x y Q M rx ry p
  unfold gLeS at p
  split at p
  · cases rx; cases ry
    exact .inr ⟨_, _, rfl, rfl, p.ok M (.bl _)⟩
  · cases rx; cases ry
    exact .inl ⟨_, _, rfl, rfl, p.ok M (.bl _)⟩
  · exact p.not_stuck
/-- is None -/
def gIsN : MV → MV → Mem → Re MV
  | d, .non, m => .ok (.bl (match d with | .non => true | _ => false)) m
  | _, _, _ => .stuck
def gNotN : MV → MV → Mem → Re MV
  | d, .non, m => .ok (.bl (match d with | .non => false | _ => true)) m
  | _, _, _ => .stuck
theorem om_isN : OpM X (fun x y H Q => y = V.non ∧ Q (V.bl (decide (x = V.non))) H) gIsN := by
  intro W σ d e m β H x y Q M rx ry p
  unfold gIsN at p
  split at p
  · cases ry
    refine ⟨rfl, p.ok M ?_⟩
    cases rx <;> exact .bl _
  · exact p.not_stuck
theorem om_notN : OpM X (fun x y H Q => y = V.non ∧ Q (V.bl (!decide (x = V.non))) H) gNotN := by
  intro W σ d e m β H x y Q M rx ry p
  unfold gNotN at p
  split at p
  · cases ry
    refine ⟨rfl, p.ok M ?_⟩
    cases rx <;> exact .bl _
  · exact p.not_stuck
mutual
def dat (m : Mem) : Nat → MV → Option PyData
  | _, .non => some .none
  | _, .bl b => some (.bool b)
  | _, .int i => some (.int i)
  | _, .str s => some (.str s)
  | _, .kl _ => none
  | _, .clo _ _ => none
  | 0, _ => none
  | n + 1, .tup l => (dats m n l).map .tuple
  | n + 1, .ref r => match lstOf m (.ref r) with
    | some l => (dats m n l).map .list
    | none => none
def dats (m : Mem) : Nat → List MV → Option (List PyData)
  | _, [] => some []
  | 0, _ :: _ => none
  | n + 1, d :: ds => match dat m n d, dats m n ds with
    | some a, some b => some (a :: b)
    | _, _ => none
end
mutual
theorem RM.dat1 (R : RM K β H m) : ∀ {n : Nat} {d : MV} {v : V} {e : PyData}, RV K β H d v → dat m n d = some e → Dp K H v e
  | _, .non, _, _, .non, h => by unfold MI.dat at h; cases h; exact .non
  | _, .bl b, _, _, .bl _, h => by unfold MI.dat at h; cases h; exact .bl b
  | _, .int i, _, _, .int _, h => by unfold MI.dat at h; cases h; exact .int i
  | _, .str s, _, _, .str _, h => by unfold MI.dat at h; cases h; exact .str s
  | 0, .tup l, _, _, _, h => by unfold MI.dat at h; cases h
  | 0, .ref l, _, _, _, h => by unfold MI.dat at h; cases h
  | _, .kl l, _, _, _, h => by unfold MI.dat at h; cases h
  | _, .clo _ _, _, _, _, h => by unfold MI.dat at h; cases h
  | n + 1, .tup l, _, _, .tup h1 h2, h => by
    unfold MI.dat at h
    cases e : dats m n l with
    | none => rw [e] at h; cases h
    | some es => rw [e] at h; cases h; exact .tup h1 (RM.dats1 R h2 e)
  | n + 1, .ref r, v, _, hr, h => by
    unfold MI.dat at h
    split at h
    · rename_i l e
      obtain ⟨a, vs, rfl, h1, h2⟩ := R.lst hr e
      cases e : dats m n l with
      | none => rw [e] at h; cases h
      | some es => rw [e] at h; cases h; exact .lst h1 (RM.dats1 R h2 e)
    · cases h
theorem RM.dats1 (R : RM K β H m) : ∀ {n : Nat} {d : List MV} {v : List V} {e : List PyData}, RVs K β H d v → dats m n d = some e → DpAll K H v e
  | _, [], _, _, .nil, h => by unfold MI.dats at h; cases h; exact .nil
  | 0, _ :: _, _, _, _, h => by unfold MI.dats at h; cases h
  | n + 1, d :: ds, _, _, .cons h1 h2, h => by
    unfold MI.dats at h
    split at h
    · rename_i a b e1 e2
      cases h
      exact .cons (RM.dat1 R h1 e1) (RM.dats1 R h2 e2)
    · cases h
end
def fuel : Nat := 2000
def gEq (neg : Bool) (d e : MV) (m : Mem) : Re MV := match dat m fuel d, dat m fuel e with
  | some a, some b => if SeqAt.shaped a = true ∧ SeqAt.shaped b = true then .ok (.bl (if neg then !a.eqv b else a.eqv b)) m else .stuck
  | _, _ => .stuck
theorem om_eq : OpM X (rEqD X.K) (gEq false) := by
  intro W σ d e m β H x y Q M rx ry p
  unfold gEq at p
  split at p
  · rename_i a b e1 e2
    split at p
    · rename_i h
      exact ⟨a, b, M.dat1 rx e1, M.dat1 ry e2, h.1, h.2, p.ok M (.bl _)⟩
    · exact p.not_stuck
  · exact p.not_stuck
theorem om_ne : OpM X (rNeD X.K) (gEq true) := by
  intro W σ d e m β H x y Q M rx ry p
  unfold gEq at p
  split at p
  · rename_i a b e1 e2
    split at p
    · rename_i h
      exact ⟨a, b, M.dat1 rx e1, M.dat1 ry e2, h.1, h.2, p.ok M (.bl _)⟩
    · exact p.not_stuck
  · exact p.not_stuck
end
end MI
namespace MI
open PySem L2
variable [Nms]
section
variable {X : Cx} {W : WX} {pos : Pos} {K : PySem.W.Frag} {β : List Addr} {H : Hp} {m : Mem}
def truO : Option MO → Option Bool
  | some (.lst l) => some (!l.isEmpty)
  | some (.frz l) => some (!l.isEmpty)
  | some (.dct l) => some (!l.isEmpty)
  | _ => none
def tru (m : Mem) : MV → Option Bool
  | .non => some false
  | .bl b => some b
  | .int i => some (i != 0)
  | .str y => if y.length ≤ sizeLine then some ((y.length : Int) != 0) else none
  | .tup l => some (!l.isEmpty)
  | .ref n => truO m[n]?
  | .kl _ => none
  | .clo _ _ => none
theorem RVs.isEmpty {ds : List MV} {vs : List V} (h : RVs K β H ds vs) : ds.isEmpty = vs.isEmpty := by
  cases h <;> rfl
theorem RKs.isEmpty {ds : List (Key × MV)} {vs : List (Key × V)} (h : RKs K β H ds vs) : ds.isEmpty = vs.isEmpty := by
  cases h <;> rfl
theorem RM.tru (R : RM K β H m) {d : MV} {v : V} {b : Bool} (r : RV K β H d v) (h : tru m d = some b) : TruV K v H b := by
  cases r with
  | non => cases h; rfl
  | bl k => cases h; rfl
  | int i => cases h; rfl
  | str x =>
    have h' : (if x.length ≤ sizeLine then some ((x.length : Int) != 0) else none) = some b := h
    by_cases q : x.length ≤ sizeLine
    · rw [if_pos q] at h'; cases h'; exact ⟨q, rfl⟩
    · rw [if_neg q] at h'; cases h'
  | tup h1 h2 => cases h; exact .inr (.inl ⟨_, h1, by rw [h2.isEmpty]⟩)
  | @ref n a hb =>
    have h' : truO m[n]? = some b := h
    cases e : m[n]? with
    | none => rw [e] at h'; cases h'
    | some o =>
      rw [e] at h'
      have q := R.ob n o a e hb
      cases o with
      | lst l => cases h'; obtain ⟨vs, q1, q2⟩ := q; exact .inl ⟨_, SqL.of q1, by rw [q2.isEmpty]⟩
      | frz l => cases h'; obtain ⟨vs, ob, q1, q2⟩ := q; exact .inl ⟨_, .inl (.inr ⟨ob, q1⟩), by rw [q2.isEmpty]⟩
      | dct l => cases h'; obtain ⟨vs, q1, q2⟩ := q; exact .inr (.inr ⟨_, q1, by rw [q2.isEmpty]⟩)
      | exn x => cases h'
      | own c l => cases h'
      | dN l => cases h'
  | kl h1 h2 => cases h
  | clo h1 => cases h
def mTru (f : ME) : MT := fun ρ m => (f ρ m).bind fun d m1 => match tru m1 d with
  | some b => .ok b m1
  | none => .stuck
theorem jt_tru {a : Expr} {f : ME} (h : JE X W a f) (he : ∀ whole, PySem.isTrue a X.env whole = (do let v ← whole; standAt a.pos; holding [v] (truthy v)) := by intro _; rfl) : JT X W a (mTru f) :=
  ⟨pt_imp (pt_truth h.run he) fun σ H Q ⟨ρ, m, β, hE, hM, p⟩ => ⟨ρ, m, β, hE, hM, p.bind fun d m1 x H1 β1 _ e1 M1 V1 p1 => by
    split at p1
    · rename_i b e; exact ⟨b, M1.tru V1 e, p1.ok M1 rfl⟩
    · exact p1.not_stuck⟩⟩
/-- a value that is a bool, as a test -/
def mB (f : ME) : MT := fun ρ m => (f ρ m).bind fun d m1 => match d with
  | .bl b => .ok b m1
  | _ => .stuck
theorem jt_cmp {op : CmpOp} {r : R2} {g : MV → MV → Mem → Re MV} {a b : Expr} {fa fb : ME} (ho : OpR X (compareOp op) r) (hm : OpM X r g) (ha : JE X W a fa) (hb : JE X W b fb) (hk : behindInMarks op b = false := by first | exact nobehind _ (by decide) (by decide) | rfl) :
    JT X W (.Compare a [op] [b] pos) (mB (mBin g fa fb)) := by
  refine ⟨pt_imp (pt_cmpR ho ha.run hb.run hk) fun σ H Q ⟨ρ, m, β, hE, hM, p⟩ => ⟨ρ, m, β, hE, hM, ?_⟩⟩
  unfold mB mBin at p
  have p' : Post X W ((fa ρ m).bind fun a m1 => ((fb ρ m1).bind fun b m2 => g a b m2).bind fun d m1 => match d with | .bl b => .ok b m1 | _ => .stuck) β H σ (fun _ _ d v => d = v) Q := by
    cases hh : fa ρ m with
    | ok d m1 => rw [hh] at p; exact p
    | ex x m1 => rw [hh] at p; exact p
    | stuck => rw [hh] at p; exact p
  refine p'.bind fun d m1 x H1 β1 _ e1 M1 V1 p1 => ⟨ρ, m1, β1, hE.ext hM e1, M1, ?_⟩
  have p1' : Post X W ((fb ρ m1).bind fun b m2 => (g d b m2).bind fun d m1 => match d with | .bl b => .ok b m1 | _ => .stuck) β1 H1 σ (fun _ _ d v => d = v) Q := by
    cases hh : fb ρ m1 with
    | ok d m1 => rw [hh] at p1; exact p1
    | ex x m1 => rw [hh] at p1; exact p1
    | stuck => rw [hh] at p1; exact p1
  refine p1'.bind fun d2 m2 y H2 β2 _ e2 M2 V2 p2 => hm W σ d d2 m2 β2 H2 x y _ M2 (V1.ext M1 e2) V2 (p2.bind fun d3 m3 z H3 β3 _ e3 M3 V3 p3 => ?_)
  split at p3
  · cases V3; exact ⟨_, rfl, p3.ok M3 rfl⟩
  · exact p3.not_stuck
structure JW (X : Cx) (W : WX) (e : Expr) (f : MT) : Prop where
  run : PW X e (tT X W f)
theorem pw_imp {X : Cx} {e : Expr} {t t' : TT} (h : PW X e t) (i : ∀ σ H Q, t' σ H Q → t σ H Q) : PW X e t' := ⟨fun wh pins s σ H Q I q => h.run wh pins s σ H Q I (i σ H Q q)⟩
def mNotT (f : MT) : MT := fun ρ m => (f ρ m).bind fun b m1 => .ok (!b) m1
def mAndT (f g : MT) : MT := fun ρ m => (f ρ m).bind fun b m1 => if b = true then g ρ m1 else .ok false m1
def mOrT (f g : MT) : MT := fun ρ m => (f ρ m).bind fun b m1 => if b = true then .ok true m1 else g ρ m1
theorem jt_not {a : Expr} {f : MT} (h : JT X W a f) : JT X W (.UnaryOp .Not a pos) (mNotT f) :=
  ⟨pt_imp (pt_not h.run) fun σ H Q ⟨ρ, m, β, hE, hM, p⟩ => ⟨ρ, m, β, hE, hM, p.bind fun d m1 x H1 β1 _ e1 M1 V1 p1 => by cases V1; exact p1.ok M1 rfl⟩⟩
theorem jw_and1 {a : Expr} {f : MT} (h : JT X W a f) : JW X W (.BoolOp .And [a] pos) f := ⟨pw_and1 h.run⟩
theorem jw_or1 {a : Expr} {f : MT} (h : JT X W a f) : JW X W (.BoolOp .Or [a] pos) f := ⟨pw_or1 h.run⟩
theorem jw_and {a b : Expr} {rest : List Expr} {f g : MT} (h : JT X W a f) (h2 : JW X W (.BoolOp .And (b :: rest) pos) g) : JW X W (.BoolOp .And (a :: b :: rest) pos) (mAndT f g) :=
  ⟨pw_imp (pw_and h.run h2.run) fun σ H Q ⟨ρ, m, β, hE, hM, p⟩ => ⟨ρ, m, β, hE, hM, p.bind fun d m1 x H1 β1 _ e1 M1 V1 p1 => by
    cases V1
    cases d with
    | true => exact ⟨ρ, m1, β1, hE.ext hM e1, M1, p1⟩
    | false => exact p1.ok M1 rfl⟩⟩
theorem jw_or {a b : Expr} {rest : List Expr} {f g : MT} (h : JT X W a f) (h2 : JW X W (.BoolOp .Or (b :: rest) pos) g) : JW X W (.BoolOp .Or (a :: b :: rest) pos) (mOrT f g) :=
  ⟨pw_imp (pw_or h.run h2.run) fun σ H Q ⟨ρ, m, β, hE, hM, p⟩ => ⟨ρ, m, β, hE, hM, p.bind fun d m1 x H1 β1 _ e1 M1 V1 p1 => by
    cases V1
    cases d with
    | false => exact ⟨ρ, m1, β1, hE.ext hM e1, M1, p1⟩
    | true => exact p1.ok M1 rfl⟩⟩
theorem JW.jt {e : Expr} {f : MT} (h : JW X W e f) : JT X W e f := ⟨h.run.pt⟩
/-- .. as values -/
def mAnd (f g : ME) : ME := fun ρ m => (f ρ m).bind fun d m1 => match tru m1 d with
  | some true => g ρ m1
  | some false => .ok d m1
  | none => .stuck
def mOr (f g : ME) : ME := fun ρ m => (f ρ m).bind fun d m1 => match tru m1 d with
  | some true => .ok d m1
  | some false => g ρ m1
  | none => .stuck
def mNot (f : ME) : ME := fun ρ m => (f ρ m).bind fun d m1 => match tru m1 d with
  | some b => .ok (.bl (!b)) m1
  | none => .stuck
theorem je_one {op : BoolOp} {a : Expr} {f : ME} (h : JE X W a f) : JE X W (.BoolOp op [a] pos) f := ⟨pe_one h.run⟩
theorem je_and {a b : Expr} {rest : List Expr} {f g : ME} (h : JE X W a f) (h2 : JE X W (.BoolOp .And (b :: rest) pos) g) : JE X W (.BoolOp .And (a :: b :: rest) pos) (mAnd f g) :=
  ⟨pe_imp (pe_andT h.run h2.run) fun σ H Q ⟨ρ, m, β, hE, hM, p⟩ => ⟨ρ, m, β, hE, hM, p.bind fun d m1 x H1 β1 _ e1 M1 V1 p1 => by
    split at p1
    · rename_i e; exact ⟨true, M1.tru V1 e, ⟨ρ, m1, β1, hE.ext hM e1, M1, p1⟩⟩
    · rename_i e; exact ⟨false, M1.tru V1 e, p1.ok M1 V1⟩
    · exact p1.not_stuck⟩⟩
theorem je_or {a b : Expr} {rest : List Expr} {f g : ME} (h : JE X W a f) (h2 : JE X W (.BoolOp .Or (b :: rest) pos) g) : JE X W (.BoolOp .Or (a :: b :: rest) pos) (mOr f g) :=
  ⟨pe_imp (pe_orT h.run h2.run) fun σ H Q ⟨ρ, m, β, hE, hM, p⟩ => ⟨ρ, m, β, hE, hM, p.bind fun d m1 x H1 β1 _ e1 M1 V1 p1 => by
    split at p1
    · rename_i e; exact ⟨true, M1.tru V1 e, p1.ok M1 V1⟩
    · rename_i e; exact ⟨false, M1.tru V1 e, ⟨ρ, m1, β1, hE.ext hM e1, M1, p1⟩⟩
    · exact p1.not_stuck⟩⟩
theorem je_not {a : Expr} {f : ME} (h : JE X W a f) : JE X W (.UnaryOp .Not a pos) (mNot f) :=
  ⟨pe_imp (pe_notT h.run) fun σ H Q ⟨ρ, m, β, hE, hM, p⟩ => ⟨ρ, m, β, hE, hM, p.bind fun d m1 x H1 β1 _ e1 M1 V1 p1 => by
    split at p1
    · rename_i b e; exact ⟨b, M1.tru V1 e, p1.ok M1 (.bl _)⟩
    · exact p1.not_stuck⟩⟩
def mIf (c : MT) (f g : ME) : ME := fun ρ m => (c ρ m).bind fun b m1 => if b = true then f ρ m1 else g ρ m1
theorem je_if {c a b : Expr} {fc : MT} {f g : ME} (hc : JT X W c fc) (ha : JE X W a f) (hb : JE X W b g) : JE X W (.IfExp c a b pos) (mIf fc f g) :=
  ⟨pe_imp (pe_ifExp hc.run ha.run hb.run) fun σ H Q ⟨ρ, m, β, hE, hM, p⟩ => ⟨ρ, m, β, hE, hM, p.bind fun d m1 x H1 β1 _ e1 M1 V1 p1 => by
    cases V1
    cases d with
    | true => exact ⟨ρ, m1, β1, hE.ext hM e1, M1, p1⟩
    | false => exact ⟨ρ, m1, β1, hE.ext hM e1, M1, p1⟩⟩⟩
def mNil : MA := fun _ m => .ok [] m
def mCons (f : ME) (g : MA) : MA := fun ρ m => (f ρ m).bind fun d m1 => (g ρ m1).bind fun ds m2 => .ok (d :: ds) m2
theorem ja_nil : JA X W [] mNil := ⟨pa_imp pa_nil fun _ _ _ ⟨_, _, _, _, hM, p⟩ => p.ok hM .nil⟩
theorem ja_cons {e : Expr} {es : List Expr} {f : ME} {g : MA} (h : JE X W e f) (h2 : JA X W es g) (he : starEach (e :: es) X.env = (false, eval e X.env) :: starEach es X.env := by rfl) : JA X W (e :: es) (mCons f g) :=
  ⟨pa_imp (pa_cons h.run h2.run he) fun σ H Q ⟨ρ, m, β, hE, hM, p⟩ => ⟨ρ, m, β, hE, hM, p.bind fun d m1 x H1 β1 _ e1 M1 V1 p1 => ⟨ρ, m1, β1, hE.ext hM e1, M1, p1.bind fun d2 m2 y H2 β2 _ e2 M2 V2 p2 =>
    p2.ok M2 (.cons (V1.ext M1 e2) V2)⟩⟩⟩
/-- *e within a display or a call -/
def mStar (f : ME) (g : MA) : MA := fun ρ m => (f ρ m).bind fun d m1 => match seqOf m1 d with
  | some l => (g ρ m1).bind fun ds m2 => .ok (l ++ ds) m2
  | none => .stuck
def mTup (g : MA) : ME := fun ρ m => (g ρ m).bind fun ds m1 => if ds.length ≤ sizeLine then .ok (.tup ds) m1 else .stuck
def mLst (g : MA) : ME := fun ρ m => (g ρ m).bind fun ds m1 => if ds.length ≤ sizeLine then alloc (.lst ds) m1 else .stuck
theorem je_tup {es : List Expr} {k : Nat} {g : MA} (h : JA X W es g) : JE X W (.Tuple es k pos) (mTup g) :=
  ⟨pe_imp (pe_tup h.run) fun σ H Q ⟨ρ, m, β, hE, hM, p⟩ => ⟨ρ, m, β, hE, hM, p.bind fun d m1 x H1 β1 _ e1 M1 V1 p1 => by
    split at p1
    · rename_i q; exact ⟨by rw [← V1.length]; exact q, fun a ha => p1.newtup M1 ha V1⟩
    · exact p1.not_stuck⟩⟩
theorem je_lst {es : List Expr} {g : MA} (h : JA X W es g) : JE X W (.List es pos) (mLst g) :=
  ⟨pe_imp (pe_lst h.run) fun σ H Q ⟨ρ, m, β, hE, hM, p⟩ => ⟨ρ, m, β, hE, hM, p.bind fun d m1 x H1 β1 _ e1 M1 V1 p1 => by
    split at p1
    · rename_i q; exact ⟨by rw [← V1.length]; exact q, fun a ha => p1.alloc M1 ha ⟨_, upd_same, V1.ext M1 (Ext.push ha)⟩⟩
    · exact p1.not_stuck⟩⟩
end
end MI
namespace MI
open PySem L2
variable [Nms]
section
variable {X : Cx} {W : WX} {pos : Pos} {K : PySem.W.Frag} {β : List Addr} {H : Hp} {m : Mem}
theorem ja_star {e : Expr} {es : List Expr} {f : ME} {g : MA} {p : Pos} (h : JE X W e f) (h2 : JA X W es g) (hs : starEach (.Starred e p :: es) X.env = (true, eval e X.env) :: starEach es X.env := by rfl) : JA X W (.Starred e p :: es) (mStar f g) :=
  ⟨pa_imp (StX.pa_star h.run h2.run hs) fun σ H Q ⟨ρ, m, β, hE, hM, p⟩ => ⟨ρ, m, β, hE, hM, p.bind fun d m1 x H1 β1 _ e1 M1 V1 p1 => by
    split at p1
    · rename_i l q
      obtain ⟨a, vs, rfl, hs, hr⟩ := M1.seq V1 q
      refine ⟨a, vs, rfl, hs.symm, ⟨ρ, m1, β1, hE.ext hM e1, M1, p1.bind fun d2 m2 y H2 β2 _ e2 M2 V2 p2 => p2.ok M2 ((hr.ext M1 e2).app V2)⟩⟩
    · exact p1.not_stuck⟩⟩
def atM (l : List MV) (i : Int) : Option MV := (ixN l.length i).bind fun j => l[j]?
theorem RVs.at_ {ds : List MV} {vs : List V} {i : Int} {d : MV} (h : RVs K β H ds vs) (e : atM ds i = some d) : ∃ v, atI vs i = some v ∧ RV K β H d v := by
  unfold atM at e
  unfold atI
  rw [← h.length]
  cases q : ixN ds.length i with
  | none => rw [q] at e; cases e
  | some j =>
    rw [q] at e
    obtain ⟨v, h1, h2⟩ := h.get (show ds[j]? = some d from e)
    exact ⟨v, h1, h2⟩
/-- x[i] by values: a list, a tuple, a text -/
def gIx : MV → MV → Mem → Re MV
  | .str z, .int i, m => if z.length ≤ sizeLine then match atI z.cps.toList i with
      | some c => .ok (.str ⟨#[c]⟩) m
      | none => .stuck
    else .stuck
  | d, .int i, m => match seqOf m d with
    | some l => match atM l i with
      | some e => .ok e m
      | none => .stuck
    | none => .stuck
  | _, _, _ => .stuck
theorem om_ix : OpM X (rIx X.K) gIx := by
  intro W σ d e m β H x y Q M rx ry p
  unfold gIx at p
  split at p
  · cases rx; cases ry
    split at p
    · rename_i h
      split at p
      · rename_i c hc
        exact .inr (.inr ⟨_, _, c, rfl, rfl, h, hc, p.ok M (.str _)⟩)
      · exact p.not_stuck
    · exact p.not_stuck
  · cases ry
    split at p
    · rename_i l hl
      split at p
      · rename_i e he
        obtain ⟨a, vs, rfl, hs, hr⟩ := M.seq rx hl
        obtain ⟨v, h1, h2⟩ := hr.at_ he
        rcases hs with hs | hs
        · exact .inl ⟨a, vs, _, v, rfl, rfl, hs, h1, p.ok M h2⟩
        · exact .inr (.inl ⟨a, vs, _, v, rfl, rfl, hs, h1, p.ok M h2⟩)
      · exact p.not_stuck
    · exact p.not_stuck
  · exact p.not_stuck
theorem je_ix {a b : Expr} {fa fb : ME} (ha : JE X W a fa) (hb : JE X W b fb) (hs : PlainIx b := by intro _ _; rfl) : JE X W (.Subscript a b pos) (mBin gIx fa fb) :=
  ⟨pe_imp (pe_ix ix_seq ha.run hb.run hs) fun σ H Q ⟨ρ, m, β, hE, hM, p⟩ => ⟨ρ, m, β, hE, hM, p.bind fun d m1 x H1 β1 _ e1 M1 V1 p1 => ⟨ρ, m1, β1, hE.ext hM e1, M1, p1.bind fun d2 m2 y H2 β2 _ e2 M2 V2 p2 =>
    om_ix W σ d d2 m2 β2 H2 x y Q M2 (V1.ext M1 e2) V2 p2⟩⟩⟩
/-- d[k], d a dict with ints and texts for keys -/
def keyOf : MV → Option Key
  | .int i => some (.inl i)
  | .str x => some (.inr x)
  | _ => none
def dctOf (m : Mem) : MV → Option (Nat × List (Key × MV))
  | .ref n => match m[n]? with
    | some (.dct l) => some (n, l)
    | _ => none
  | _ => none
def valM (l : List (Key × MV)) (k : Key) : Option MV := Option.map (fun x => x.snd) (List.find? (fun kv => decide (kv.fst = k)) l)
def putM (l : List (Key × MV)) (k : Key) (d : MV) : List (Key × MV) :=
  if (l.any fun kv => decide (kv.fst = k)) = true then List.map (fun kv => if kv.fst = k then (kv.fst, d) else kv) l else l ++ [(k, d)]
theorem dctOf_some {d : MV} {n : Nat} {l : List (Key × MV)} (h : dctOf m d = some (n, l)) : d = .ref n ∧ m[n]? = some (.dct l) := by
  unfold dctOf at h
  split at h
  · split at h
    · rename_i e
      cases h
      exact ⟨rfl, e⟩
    · cases h
  · cases h
theorem RM.dct (R : RM K β H m) {d : MV} {v : V} {n : Nat} {l : List (Key × MV)} (r : RV K β H d v) (h : dctOf m d = some (n, l)) : ∃ a vs, v = .ref a ∧ β[n]? = some a ∧ H a = some (.dK vs) ∧ RKs K β H l vs := by
  obtain ⟨rfl, e⟩ := dctOf_some h
  cases r with
  | ref hb =>
    obtain ⟨vs, q1, q2⟩ := R.ob n _ _ e hb
    exact ⟨_, vs, rfl, hb, q1, q2⟩
theorem keyOf_some {d : MV} {v : V} {k : Key} (r : RV K β H d v) (h : keyOf d = some k) : v = kV k := by
  cases r <;> cases h <;> rfl
theorem RKs.val : ∀ {l : List (Key × MV)} {vs : List (Key × V)} {k : Key}, RKs K β H l vs → (∀ d, valM l k = some d → ∃ v, valV vs k = some v ∧ RV K β H d v) ∧ (valM l k = none → valV vs k = none)
  | _, _, k, .nil => ⟨fun d h => (by cases h), fun _ => rfl⟩
  | _, _, k, .cons (k := q) (ds := ds) (vs := vs) h r => by
    obtain ⟨i1, i2⟩ := RKs.val (k := k) r
    unfold valM valV at *
    rw [List.find?_cons, List.find?_cons]
    by_cases e : q = k
    · simp only [e, decide_true]
      exact ⟨fun d z => (by cases z; exact ⟨_, rfl, h⟩), fun z => (by cases z)⟩
    · simp only [e, decide_false]
      exact ⟨i1, i2⟩
theorem RKs.length : ∀ {l : List (Key × MV)} {vs : List (Key × V)}, RKs K β H l vs → l.length = vs.length
  | _, _, .nil => rfl
  | _, _, .cons _ r => by simp [RKs.length r]
theorem RKs.any : ∀ {l : List (Key × MV)} {vs : List (Key × V)} {k : Key}, RKs K β H l vs → (l.any fun kv => decide (kv.fst = k)) = (vs.any fun kv => decide (kv.fst = k))
  | _, _, _, .nil => rfl
  | _, _, k, .cons _ r => by simp only [List.any_cons, RKs.any (k := k) r]
theorem RKs.map : ∀ {l : List (Key × MV)} {vs : List (Key × V)} {k : Key} {d : MV} {v : V}, RKs K β H l vs → RV K β H d v →
    RKs K β H (l.map fun kv => if kv.fst = k then (kv.fst, d) else kv) (vs.map fun kv => if kv.fst = k then (kv.fst, v) else kv)
  | _, _, _, _, _, .nil, _ => .nil
  | _, _, k, _, _, .cons (k := q) h r, z => by
    simp only [List.map_cons]
    by_cases e : q = k
    · simp only [e, if_true]; exact .cons z (RKs.map r z)
    · simp only [e, if_false]; exact .cons h (RKs.map r z)
theorem RKs.app : ∀ {l l2 : List (Key × MV)} {vs v2 : List (Key × V)}, RKs K β H l vs → RKs K β H l2 v2 → RKs K β H (l ++ l2) (vs ++ v2)
  | _, _, _, _, .nil, q => q
  | _, _, _, _, .cons h r, q => .cons h (RKs.app r q)
theorem RKs.put {l : List (Key × MV)} {vs : List (Key × V)} {k : Key} {d : MV} {v : V} (r : RKs K β H l vs) (h : RV K β H d v) : RKs K β H (putM l k d) (putK vs k v) := by
  unfold putM putK
  rw [r.any (k := k)]
  split
  · exact r.map h
  · exact r.app (.cons h .nil)
/-- d[k] -/
def gDGet (d k : MV) (m : Mem) : Re MV := match dctOf m d, keyOf k with
  | some (_, l), some q => match valM l q with
    | some e => .ok e m
    | none => .stuck
  | _, _ => .stuck
theorem je_dget {a b : Expr} {fa fb : ME} (hu : X.A.units + 1 < cLine) (ha : JE X W a fa) (hb : JE X W b fb) (hs : NoSl b := by intro _ _; rfl) : JE X W (.Subscript a b pos) (mBin gDGet fa fb) :=
  ⟨pe_imp (pe_dget hu ha.run hb.run hs) fun σ H Q ⟨ρ, m, β, hE, hM, p⟩ => ⟨ρ, m, β, hE, hM, p.bind fun d m1 x H1 β1 _ e1 M1 V1 p1 => ⟨ρ, m1, β1, hE.ext hM e1, M1, p1.bind fun d2 m2 y H2 β2 _ e2 M2 V2 p2 => by
    unfold gDGet at p2
    split at p2
    · rename_i n l q h1 h2
      split at p2
      · rename_i e he
        obtain ⟨a, vs, rfl, hb, hH, hr⟩ := M2.dct (V1.ext M1 e2) h1
        have hy := keyOf_some V2 h2
        subst hy
        obtain ⟨v, z1, z2⟩ := hr.val.1 e he
        exact ⟨a, v, rfl, .inl ⟨vs, q, .inl hH, rfl, z1.symm⟩, p2.ok M2 z2⟩
      · exact p2.not_stuck
    · exact p2.not_stuck⟩⟩⟩
/-- k in d, k not in d -/
def gDIn (neg : Bool) (k d : MV) (m : Mem) : Re MV := match dctOf m d, keyOf k with
  | some (_, l), some q => .ok (.bl (if neg then !(valM l q).isSome else (valM l q).isSome)) m
  | _, _ => .stuck
theorem RKs.isSome {l : List (Key × MV)} {vs : List (Key × V)} {k : Key} (r : RKs K β H l vs) : (valV vs k).isSome = (valM l k).isSome := by
  obtain ⟨h1, h2⟩ := r.val (k := k)
  cases e : valM l k with
  | none => rw [h2 e] <;> rfl
  | some d => obtain ⟨v, z, _⟩ := h1 d e; rw [z] <;> rfl
theorem je_din {a b : Expr} {fa fb : ME} (hu : X.A.units + 1 < cLine) (ha : JE X W a fa) (hb : JE X W b fb) (hk : behindInMarks .In b = false := by rfl) : JE X W (.Compare a [.In] [b] pos) (mBin (gDIn false) fa fb) :=
  ⟨pe_imp (pe_cmp (pc_din hu ha.run hb.run) hk) fun σ H Q ⟨ρ, m, β, hE, hM, p⟩ => ⟨ρ, m, β, hE, hM, p.bind fun d m1 x H1 β1 _ e1 M1 V1 p1 => ⟨ρ, m1, β1, hE.ext hM e1, M1, p1.bind fun d2 m2 y H2 β2 _ e2 M2 V2 p2 => by
    unfold gDIn at p2
    split at p2
    · rename_i n l q h1 h2
      obtain ⟨a, vs, rfl, hb, hH, hr⟩ := M2.dct V2 h1
      have hy := keyOf_some (V1.ext M1 e2) h2
      subst hy
      exact ⟨a, valV vs q, rfl, .inl ⟨vs, q, .inl hH, rfl, rfl⟩, p2.ok M2 (by rw [hr.isSome]; exact .bl _)⟩
    · exact p2.not_stuck⟩⟩⟩
theorem je_dnotin {a b : Expr} {fa fb : ME} (hu : X.A.units + 1 < cLine) (ha : JE X W a fa) (hb : JE X W b fb) (hk : behindInMarks .NotIn b = false := by rfl) : JE X W (.Compare a [.NotIn] [b] pos) (mBin (gDIn true) fa fb) :=
  ⟨pe_imp (pe_cmp (pc_dnotin hu ha.run hb.run) hk) fun σ H Q ⟨ρ, m, β, hE, hM, p⟩ => ⟨ρ, m, β, hE, hM, p.bind fun d m1 x H1 β1 _ e1 M1 V1 p1 => ⟨ρ, m1, β1, hE.ext hM e1, M1, p1.bind fun d2 m2 y H2 β2 _ e2 M2 V2 p2 => by
    unfold gDIn at p2
    split at p2
    · rename_i n l q h1 h2
      obtain ⟨a, vs, rfl, hb, hH, hr⟩ := M2.dct V2 h1
      have hy := keyOf_some (V1.ext M1 e2) h2
      subst hy
      exact ⟨a, valV vs q, rfl, .inl ⟨vs, q, .inl hH, rfl, rfl⟩, p2.ok M2 (by rw [hr.isSome]; exact .bl _)⟩
    · exact p2.not_stuck⟩⟩⟩
def mDNew : ME := fun _ m => alloc (.dct []) m
theorem je_dnew : JE X W (.Dict [] [] pos) mDNew :=
  ⟨pe_imp pe_dnewK fun σ H Q ⟨ρ, m, β, hE, hM, p⟩ => fun a ha => p.alloc hM ha ⟨[], upd_same, .nil⟩⟩
def cutM {α : Type} (xs : List α) (lo hi : Option Int) : List α := (xs.drop (HT.sIx xs.length 0 lo)).take (HT.sIx xs.length xs.length hi - HT.sIx xs.length 0 lo)
theorem RVs.cut {ds : List MV} {vs : List V} (h : RVs K β H ds vs) (lo hi : Option Int) : RVs K β H (cutM ds lo hi) (cutV vs lo hi) := by
  unfold cutM cutV
  rw [h.length]
  exact (h.drop _).take _
def gSl (d : MV) (lo hi : Option Int) (m : Mem) : Re MV := match d with
  | .str z => if z.length ≤ sizeLine then .ok (.str ⟨(cutM z.cps.toList lo hi).toArray⟩) m else .stuck
  | .tup l => .ok (.tup (cutM l lo hi)) m
  | d => match lstOf m d with
    | some l => alloc (.lst (cutM l lo hi)) m
    | none => .stuck
abbrev rSlAll (K : PySem.W.Frag) : V → Option Int → Option Int → Hp → VK → Prop := fun x lo hi H Q => rSlL K x lo hi H Q ∨ rSlA K x lo hi H Q ∨ rSlS x lo hi H Q
theorem sl_all : SlR X (rSlAll X.K) := SlR.or sl_list (SlR.or sl_tupA sl_str)
theorem cut_all {α : Type} {xs : List α} {lo hi : Option Int} (h : HT.sIx xs.length 0 lo = 0 ∧ HT.sIx xs.length xs.length hi = xs.length) : cutM xs lo hi = xs := by
  unfold cutM
  rw [h.1, h.2]; simp
theorem om_sl {σ : L2.St} {d : MV} {lo hi : Option Int} {m : Mem} {β : List Addr} {H : Hp} {x : V} {Q : VK} (M : RM X.K β H m) (rx : RV X.K β H d x) (p : Post X W (gSl d lo hi m) β H σ (fun β' H' d v => RV X.K β' H' d v) Q) : rSlAll X.K x lo hi H Q := by
  unfold gSl at p
  split at p
  · rename_i z
    cases rx
    split at p
    · rename_i h
      refine .inr (.inr ⟨_, rfl, h, ?_⟩)
      have e : cutS z lo hi = ⟨(cutM z.cps.toList lo hi).toArray⟩ := by
        unfold cutS cutM
        rw [show z.cps.toList.length = z.length from by simp [Str.length]]
      rw [e]
      exact p.ok M (.str _)
    · exact p.not_stuck
  · cases rx with
    | tup h1 r1 =>
      refine .inr (.inl ⟨_, _, rfl, h1, fun q => ?_, fun q a ha => p.newtup M ha (r1.cut lo hi)⟩)
      rw [← r1.length] at q
      rw [cut_all q] at p
      exact p.ok M (.tup h1 r1)
  · split at p
    · rename_i l hl
      obtain ⟨a, vs, rfl, hs, hr⟩ := M.lst rx hl
      exact .inl ⟨a, vs, rfl, hs, fun q hq => p.alloc M hq ⟨_, upd_same, (hr.cut lo hi).ext M (Ext.push hq)⟩⟩
    · exact p.not_stuck
/-- an end of a slice -/
abbrev MO' := Env → Mem → Re (Option Int)
structure JO (X : Cx) (W : WX) (e : Option Expr) (f : MO') : Prop where
  run : PO X e (fun σ H Q => ∃ ρ m β, RE X.K β H ρ σ ∧ RM X.K β H m ∧ Post X W (f ρ m) β H σ (fun _ _ d v => d = v) Q)
def mNo : MO' := fun _ m => .ok none m
def mEnd (f : ME) : MO' := fun ρ m => (f ρ m).bind fun d m1 => match d with
  | .int i => .ok (some i) m1
  | _ => .stuck
theorem po_imp {e : Option Expr} {t t' : TO} (h : PO X e t) (i : ∀ σ H Q, t' σ H Q → t σ H Q) : PO X e t' := ⟨fun pins s σ H Q I q => h.run pins s σ H Q I (i σ H Q q)⟩
theorem jo_no : JO X W none mNo := ⟨po_imp po_none fun σ H Q ⟨ρ, m, β, hE, hM, p⟩ => p.ok hM rfl⟩
theorem jo_end {e : Expr} {f : ME} (h : JE X W e f) : JO X W (some e) (mEnd f) :=
  ⟨po_imp (po_some h.run) fun σ H Q ⟨ρ, m, β, hE, hM, p⟩ => ⟨ρ, m, β, hE, hM, p.bind fun d m1 x H1 β1 _ e1 M1 V1 p1 => by
    split at p1
    · cases V1; exact ⟨_, rfl, p1.ok M1 rfl⟩
    · exact p1.not_stuck⟩⟩
def mSl (f : ME) (l h : MO') : ME := fun ρ m => (f ρ m).bind fun d m1 => (l ρ m1).bind fun lo m2 => (h ρ m2).bind fun hi m3 => gSl d lo hi m3
theorem je_sl {e : Expr} {lo hi : Option Expr} {p2 : Pos} {f : ME} {l h : MO'} (he : JE X W e f) (hl : JO X W lo l) (hh : JO X W hi h) : JE X W (.Subscript e (.Slice lo hi none p2) pos) (mSl f l h) :=
  ⟨pe_imp (pe_slice sl_all he.run hl.run hh.run) fun σ H Q ⟨ρ, m, β, hE, hM, p⟩ => ⟨ρ, m, β, hE, hM, p.bind fun d m1 x H1 β1 _ e1 M1 V1 p1 => ⟨ρ, m1, β1, hE.ext hM e1, M1, p1.bind fun o m2 o' H2 β2 _ e2 M2 V2 p2 => by
    subst V2
    exact ⟨ρ, m2, β2, (hE.ext hM e1).ext M1 e2, M2, p2.bind fun u m3 u' H3 β3 _ e3 M3 V3 p3 => by
      subst V3
      exact om_sl M3 ((V1.ext M1 e2).ext M2 e3) p3⟩⟩⟩⟩
end
end MI
namespace MI
open PySem L2
variable [Nms]
section
variable {X : Cx} {W : WX} {pos : Pos} {K : PySem.W.Frag} {β : List Addr} {H : Hp} {m : Mem}
def PostS (X : Cx) (W : WX) (r : Re Fl) (β : List Addr) (H : Hp) (D : Ends) : Prop :=
  match r with
  | .ok (.nx ρ') m' => ∀ σ' H' β', Ext β H β' H' → RM X.K β' H' m' → RE X.K β' H' ρ' σ' → D.nx σ' H'
  | .ok (.bk ρ') m' => ∀ σ' H' β', Ext β H β' H' → RM X.K β' H' m' → RE X.K β' H' ρ' σ' → D.bk σ' H'
  | .ok (.ct ρ') m' => ∀ σ' H' β', Ext β H β' H' → RM X.K β' H' m' → RE X.K β' H' ρ' σ' → D.ct σ' H'
  | .ok (.rt d) m' => ∀ v H' β', Ext β H β' H' → RM X.K β' H' m' → RV X.K β' H' d v → D.rt v H'
  | .ok (.ex x ρ') m' => ∀ cls dd σ' H' β', Ext β H β' H' → RM X.K β' H' m' → RE X.K β' H' ρ' σ' → XR X.K β' H' x cls dd → W cls dd σ' H'
  | .ex _ _ => False
  | .stuck => False
theorem tS_of {f : MS} {D : Ends} {σ : L2.St} {H : Hp} (h : tS X W f D σ H) : ∃ ρ m β, RE X.K β H ρ σ ∧ RM X.K β H m ∧ PostS X W (f ρ m) β H D := h
theorem PostS.later {r : Re Fl} {β β1 : List Addr} {H H1 : Hp} {D : Ends} (p : PostS X W r β H D) (e : Ext β H β1 H1) : PostS X W r β1 H1 D := by
  cases r with
  | ok a m =>
    cases a with
    | nx ρ => exact fun σ' H' β' e' => p σ' H' β' (e.trans e')
    | bk ρ => exact fun σ' H' β' e' => p σ' H' β' (e.trans e')
    | ct ρ => exact fun σ' H' β' e' => p σ' H' β' (e.trans e')
    | rt d => exact fun σ' H' β' e' => p σ' H' β' (e.trans e')
    | ex x ρ => exact fun c d σ' H' β' e' => p c d σ' H' β' (e.trans e')
  | ex x m => exact p
  | stuck => exact p
/-- an expression within a statement -/
def onE {α : Type} (ρ : Env) (r : Re α) (k : α → Mem → Re Fl) : Re Fl := match r with
  | .ok a m => k a m
  | .ex x m => .ok (.ex x ρ) m
  | .stuck => .stuck
theorem PostS.on {α γ : Type} {r : Re α} {k : α → Mem → Re Fl} {β : List Addr} {H : Hp} {σ : L2.St} {ρ : Env} {D : Ends} {R : List Addr → Hp → α → γ → Prop} {Q : γ → Hp → Prop} (hE : RE X.K β H ρ σ) (hM : RM X.K β H m) (p : PostS X W (onE ρ r k) β H D)
    (h : ∀ d m1 v H1 β1, r = .ok d m1 → Ext β H β1 H1 → RM X.K β1 H1 m1 → R β1 H1 d v → PostS X W (k d m1) β1 H1 D → Q v H1) : Post X W r β H σ R Q := by
  cases r with
  | ok d m => exact fun v H' β' e M V => h d m v H' β' rfl e M V (PostS.later (r := k d m) p e)
  | ex x m => exact fun c d H' β' e M z => p c d σ H' β' e M (hE.ext hM e) z
  | stuck => exact p
/-- another end for what follows: the same but nx -/
theorem PostS.seq {r : Re Fl} {k : Env → Mem → Re Fl} {β : List Addr} {H : Hp} {D : Ends} {N : L2.St → Hp → Prop} (p : PostS X W (match r with | .ok (.nx ρ) m => k ρ m | r => r) β H D)
    (h : ∀ ρ' m' σ' H' β', r = .ok (.nx ρ') m' → Ext β H β' H' → RM X.K β' H' m' → RE X.K β' H' ρ' σ' → PostS X W (k ρ' m') β' H' D → N σ' H') : PostS X W r β H { D with nx := N } := by
  cases r with
  | ok a m =>
    cases a with
    | nx ρ => exact fun σ' H' β' e M E => h ρ m σ' H' β' rfl e M E (PostS.later (r := k ρ m) p e)
    | bk ρ => exact p
    | ct ρ => exact p
    | rt d => exact p
    | ex x ρ => exact p
  | ex x m => exact p
  | stuck => exact p
def mSkip : MS := fun ρ m => .ok (.nx ρ) m
def mSeq (f g : MS) : MS := fun ρ m => match f ρ m with
  | .ok (.nx ρ') m' => g ρ' m'
  | r => r
theorem jb_nil : JB X W [] mSkip := ⟨pss_imp pss_nil fun D σ H ⟨ρ, m, β, hE, hM, p⟩ => p σ H β Ext.refl hM hE⟩
theorem jb_cons {st : Stmt} {rest : List Stmt} {f g : MS} (h : JS X W st f) (h2 : JB X W rest g) : JB X W (st :: rest) (mSeq f g) :=
  ⟨pss_imp (pss_cons h.run h2.run) fun D σ H ⟨ρ, m, β, hE, hM, p⟩ => ⟨ρ, m, β, hE, hM, PostS.seq (k := g) (r := f ρ m) (D := D) p fun ρ' m' σ' H' β' _ e M E q => ⟨ρ', m', β', E, M, q⟩⟩⟩
theorem jb_one {st : Stmt} {f : MS} (h : JS X W st f) : JB X W [st] f := ⟨pss_one h.run⟩
theorem js_break : JS X W (.Break pos) (fun ρ m => .ok (.bk ρ) m) := ⟨ps_imp ps_break fun D σ H ⟨ρ, m, β, hE, hM, p⟩ => p σ H β Ext.refl hM hE⟩
def mRet (f : ME) : MS := fun ρ m => onE ρ (f ρ m) fun d m1 => .ok (.rt d) m1
theorem js_ret {e : Expr} {f : ME} (h : JE X W e f) : JS X W (.Return (some e) pos) (mRet f) :=
  ⟨ps_imp (ps_ret h.run) fun D σ H ⟨ρ, m, β, hE, hM, p⟩ => ⟨ρ, m, β, hE, hM, PostS.on (D := D) (k := fun d m1 => .ok (.rt d) m1) hE hM p fun d m1 v H1 β1 _ e M V q => q v H1 β1 Ext.refl M V⟩⟩
def mDrop (f : ME) : MS := fun ρ m => onE ρ (f ρ m) fun _ m1 => .ok (.nx ρ) m1
theorem js_expr {e : Expr} {f : ME} (h : JE X W e f) (hs : swapsWith e none pos.line X.env = pure false := by rfl) : JS X W (.Expr e pos) (mDrop f) :=
  ⟨ps_imp (ps_expr h.run hs) fun D σ H ⟨ρ, m, β, hE, hM, p⟩ => ⟨ρ, m, β, hE, hM, PostS.on (D := D) (k := fun _ m1 => .ok (.nx ρ) m1) (R := fun β' H' d v => RV X.K β' H' d v) hE hM p fun d m1 v H1 β1 _ e M V q => q σ H1 β1 Ext.refl M (hE.ext hM e)⟩⟩
def mIfS (c : MT) (f g : MS) : MS := fun ρ m => onE ρ (c ρ m) fun b m1 => if b = true then f ρ m1 else g ρ m1
theorem js_if {c : Expr} {a b : List Stmt} {fc : MT} {f g : MS} (hc : JT X W c fc) (ha : JB X W a f) (hb : JB X W b g) : JS X W (.If c a b pos) (mIfS fc f g) :=
  ⟨ps_imp (ps_if hc.run ha.run hb.run) fun D σ H ⟨ρ, m, β, hE, hM, p⟩ => ⟨ρ, m, β, hE, hM, PostS.on (D := D) (k := fun b m1 => if b = true then f ρ m1 else g ρ m1) (R := fun _ _ d v => d = v) hE hM p fun d m1 v H1 β1 _ e M V q => by
    subst V
    cases d with
    | true => exact ⟨ρ, m1, β1, hE.ext hM e, M, q⟩
    | false => exact ⟨ρ, m1, β1, hE.ext hM e, M, q⟩⟩⟩
abbrev MG := MV → Env → Mem → Re Env
def tG (X : Cx) (g : MG) : TG := fun v σ H Q => ∃ d ρ m β, RV X.K β H d v ∧ RE X.K β H ρ σ ∧ RM X.K β H m ∧
  match g d ρ m with
  | .ok ρ' m' => ∀ σ' H' β', Ext β H β' H' → RM X.K β' H' m' → RE X.K β' H' ρ' σ' → Q σ' H'
  | _ => False
abbrev MGs := List MV → Env → Mem → Re Env
def tGs (X : Cx) (g : MGs) : TGs := fun vs σ H Q => ∃ ds ρ m β, RVs X.K β H ds vs ∧ RE X.K β H ρ σ ∧ RM X.K β H m ∧
  match g ds ρ m with
  | .ok ρ' m' => ∀ σ' H' β', Ext β H β' H' → RM X.K β' H' m' → RE X.K β' H' ρ' σ' → Q σ' H'
  | _ => False
structure JG (X : Cx) (tg : Expr) (g : MG) : Prop where
  run : PG X tg (tG X g)
structure JGs (X : Cx) (tg : List Expr) (g : MGs) : Prop where
  run : PGs X tg (tGs X g)
theorem pg_imp {e : Expr} {t t' : TG} (h : PG X e t) (i : ∀ v σ H Q, t' v σ H Q → t v σ H Q) : PG X e t' := ⟨fun pins s σ H v u Q I r q => h.run pins s σ H v u Q I r (i v σ H Q q)⟩
theorem pgs_imp {e : List Expr} {t t' : TGs} (h : PGs X e t) (i : ∀ v σ H Q, t' v σ H Q → t v σ H Q) : PGs X e t' := ⟨fun pins s σ H v u Q I r q => h.run pins s σ H v u Q I r (i v σ H Q q)⟩
def nName (i : Nat) : MG := fun d ρ m => .ok (ρ.set i (some d)) m
theorem jg_name (i : Nat) {x : Str} (hN : X.N.Nodup) (hi : X.N[i]? = some x := by rfl) (hx : Loc X.env.scope x := by first | exact Or.inl rfl | exact Or.inr rfl) (hf : X.fn x = true ∨ X.env.scope.names.lookup x = some .local := by first | exact .inl rfl | exact .inr rfl | assumption) : JG X (.Name x pos) (nName i) :=
  ⟨pg_imp (pg_name hN hi hx hf) fun v σ H Q ⟨d, ρ, m, β, V, hE, hM, p⟩ => p _ H β Ext.refl hM (hE.set V)⟩
def nNil : MGs := fun ds ρ m => match ds with
  | [] => .ok ρ m
  | _ => .stuck
def nCons (g : MG) (k : MGs) : MGs := fun ds ρ m => match ds with
  | d :: r => match g d ρ m with
    | .ok ρ' m' => k r ρ' m'
    | _ => .stuck
  | _ => .stuck
theorem jgs_nil : JGs X [] nNil := ⟨pgs_imp pgs_nil fun v σ H Q ⟨ds, ρ, m, β, V, hE, hM, p⟩ => by
  cases V with
  | nil => exact ⟨rfl, p σ H β Ext.refl hM hE⟩
  | cons _ _ => exact p.elim⟩
theorem jgs_cons {e : Expr} {es : List Expr} {g : MG} {k : MGs} (h1 : JG X e g) (h2 : JGs X es k) (hs : (assignEach (e :: es) X.env).map (·.2) = assign e X.env :: (assignEach es X.env).map (·.2) := by rfl) : JGs X (e :: es) (nCons g k) :=
  ⟨pgs_imp (pgs_cons h1.run h2.run hs) fun v σ H Q ⟨ds, ρ, m, β, V, hE, hM, p⟩ => by
    cases V with
    | nil => exact p.elim
    | @cons d v ds vs h r =>
      refine ⟨v, vs, rfl, d, ρ, m, β, h, hE, hM, ?_⟩
      have p' : match (match g d ρ m with | .ok ρ' m' => k ds ρ' m' | _ => .stuck : Re Env) with
        | .ok ρ' m' => ∀ σ' H' β', Ext β H β' H' → RM X.K β' H' m' → RE X.K β' H' ρ' σ' → Q σ' H'
        | _ => False := p
      cases e1 : g d ρ m with
      | ok ρ1 m1 =>
        rw [e1] at p'
        intro σ1 H1 β1 x1 M1 E1
        refine ⟨ds, ρ1, m1, β1, r.ext hM x1, E1, M1, ?_⟩
        have p2 : match k ds ρ1 m1 with
          | .ok ρ' m' => ∀ σ' H' β', Ext β H β' H' → RM X.K β' H' m' → RE X.K β' H' ρ' σ' → Q σ' H'
          | _ => False := p'
        cases e2 : k ds ρ1 m1 with
        | ok ρ2 m2 => rw [e2] at p2; exact fun σ2 H2 β2 x2 => p2 σ2 H2 β2 (x1.trans x2)
        | ex x m => rw [e2] at p2; exact p2
        | stuck => rw [e2] at p2; exact p2
      | ex x m => rw [e1] at p'; exact p'.elim
      | stuck => rw [e1] at p'; exact p'.elim⟩
/-- (a, b, ..) = a list or a tuple of that length -/
def nTup (n : Nat) (k : MGs) : MG := fun d ρ m => match seqOf m d with
  | some l => if l.length = n then k l ρ m else .stuck
  | none => .stuck
theorem pg_or {e : Expr} {t t' : TG} (h : PG X e t) (h' : PG X e t') : PG X e (fun v σ H Q => t v σ H Q ∨ t' v σ H Q) := ⟨fun pins s σ H v u Q I r q => q.elim (h.run pins s σ H v u Q I r) (h'.run pins s σ H v u Q I r)⟩
theorem jg_tup {es : List Expr} {k : Nat} {g : MGs} {n : Nat} (hc : X.calm = true) (h : JGs X es g) (hn : (assignEach es X.env).length = n := by rfl) (hst : (assignEach es X.env).findIdx? (·.1) = none := by rfl) : JG X (.Tuple es k pos) (nTup n g) :=
  ⟨pg_imp (pg_or (pg_tup hc h.run hn hst) (pg_unl hc h.run hn hst)) fun v σ H Q ⟨d, ρ, m, β, V, hE, hM, p⟩ => by
    unfold nTup at p
    cases e : seqOf m d with
    | none => rw [e] at p; exact p.elim
    | some l =>
      rw [e] at p
      obtain ⟨a, vs, rfl, hs, hr⟩ := hM.seq V e
      by_cases q : l.length = n
      · simp only [q, if_true] at p
        rcases hs with hs | hs
        · exact .inr ⟨a, vs, rfl, hs, by rw [← hr.length]; exact q, l, ρ, m, β, hr, hE, hM, p⟩
        · exact .inl ⟨a, vs, rfl, hs, by rw [← hr.length]; exact q, l, ρ, m, β, hr, hE, hM, p⟩
      · simp only [q, if_false] at p⟩
def mAsg (f : ME) (g : MG) : MS := fun ρ m => onE ρ (f ρ m) fun d m1 => match g d ρ m1 with
  | .ok ρ' m' => .ok (.nx ρ') m'
  | _ => .stuck
theorem js_asg {tg e : Expr} {f : ME} {g : MG} (he : JE X W e f) (hg : JG X tg g) (hs : swapsWithSole [tg] e pos.line X.env = pure false := by rfl) (hw : swappedStores [tg] e X.env = pure none := by rfl)
    (h1 : (assignEach [tg] X.env).map (·.2) = [assign tg X.env] := by rfl) : JS X W (.Assign [tg] e pos) (mAsg f g) :=
  ⟨ps_imp (ps_asg he.run hg.run hs hw h1) fun D σ H ⟨ρ, m, β, hE, hM, p⟩ => ⟨ρ, m, β, hE, hM, PostS.on (D := D) (R := fun β' H' d v => RV X.K β' H' d v) hE hM p fun d m1 v H1 β1 _ e M V q => ⟨d, ρ, m1, β1, V, hE.ext hM e, M, by
    split at q
    · rename_i ρ' m' e1; exact q
    · exact q.elim⟩⟩⟩
theorem js_set (i : Nat) {x : Str} {e : Expr} {f : ME} {pos' : Pos} (hN : X.N.Nodup) (he : JE X W e f) (hi : X.N[i]? = some x := by rfl) (hx : Loc X.env.scope x := by first | exact Or.inl rfl | exact Or.inr rfl) (hs : swapsWith e (some (.Name x pos')) pos.line X.env = pure false := by rfl)
    (hf : X.fn x = true ∨ X.env.scope.names.lookup x = some .local := by first | exact .inl rfl | exact .inr rfl | assumption) : JS X W (.Assign [.Name x pos'] e pos) (mAsg f (nName i)) :=
  ⟨ps_imp (ps_set hN hi hx he.run hs hf) fun D σ H ⟨ρ, m, β, hE, hM, p⟩ => ⟨ρ, m, β, hE, hM, PostS.on (D := D) (R := fun β' H' d v => RV X.K β' H' d v) hE hM p fun d m1 v H1 β1 _ e M V q => q _ H1 β1 Ext.refl M ((hE.ext hM e).set V)⟩⟩
/-- o[i] = .. in a list -/
def nSubL (fo fi : ME) : MG := fun d ρ m => match fo ρ m with
  | .ok o m1 => match fi ρ m1 with
    | .ok (.int k) m2 => match mutOf m2 o with
      | some (n, l) => match ixN l.length k with
        | some j => .ok ρ (m2.set n (.lst (l.set j d)))
        | none => .stuck
      | none => .stuck
    | _ => .stuck
  | _ => .stuck
end
def spM (K : PySem.W.Frag) (n : Nat) (F : MF) : Sp := fun vs H Q E => vs.length = n ∧ ∃ ds m β, RVs K β H ds vs ∧ RM K β H m ∧
  match F ds m with
  | .ok d m' => ∀ v H' β', Ext β H β' H' → RM K β' H' m' → RV K β' H' d v → Q v H'
  | .ex x m' => ∀ cls dd H' β', Ext β H β' H' → RM K β' H' m' → XR K β' H' x cls dd → E cls dd H'
  | .stuck => False
/-- a body's end as a call's -/
def endOf (r : Re Fl) : Re MV := match r with
  | .ok (.nx _) m => .ok .non m
  | .ok (.rt d) m => .ok d m
  | .ok (.ex x _) m => .ex x m
  | _ => .stuck
def startM (n : Nat) (ds : List MV) : Env := ds.map some ++ List.replicate (n - ds.length) none
theorem RE.start {K : PySem.W.Frag} {β : List Addr} {H : Hp} {N : List Str} {ds : List MV} {vs : List V} (h : RVs K β H ds vs) : RE K β H (startM N.length ds) (L2.start N vs) := by
  unfold startM L2.start
  refine ⟨by simp [h.length], fun i d e => ?_⟩
  by_cases hi : i < ds.length
  · rw [List.getElem?_append_left (by simpa using hi), List.getElem?_map] at e
    cases q : ds[i]? with
    | none => rw [q] at e; cases e
    | some d' =>
      rw [q] at e
      cases e
      obtain ⟨v, h1, h2⟩ := h.get q
      refine ⟨v, ?_, h2⟩
      rw [List.getElem?_append_left (by rw [List.length_map, ← h.length]; exact hi), List.getElem?_map, h1] <;> rfl
  · rw [List.getElem?_append_right (by simpa using hi), List.getElem?_replicate] at e
    split at e <;> cases e
section
variable {P : Program} {w : World} {K : PySem.W.Frag} {mg : Str → Option Value} {base : Heap}
/-- f(e, ..) -/
def mCall (F : MF) (g : MA) : ME := fun ρ m => (g ρ m).bind fun ds m1 => F ds m1
end
end MI
namespace MI
open PySem L2
variable [Nms]
section
variable {X : Cx} {W : WX} {pos : Pos} {K : PySem.W.Frag} {β : List Addr} {H : Hp} {m : Mem}
/-- the items, and what must hold of the objects at every turn -/
structure IterM where
  items : List MV
  chk : Mem → Prop
structure WalkM (K : PySem.W.Frag) (β0 : List Addr) (H0 : Hp) (it : IterM) (J : It) : Prop where
  ex : ∃ (G : Hp → Prop) (Y : Nat → Hp → V → Hp → Prop), Walk J it.items.length G Y ∧ (∀ β1 H1 m1, Ext β0 H0 β1 H1 → RM K β1 H1 m1 → it.chk m1 → G H1) ∧
    (∀ i H1 x H2 β1 m1 d, Ext β0 H0 β1 H1 → RM K β1 H1 m1 → it.chk m1 → it.items[i]? = some d → Y i H1 x H2 → Ext β1 H1 β1 H2 ∧ RM K β1 H2 m1 ∧ RV K β1 H2 d x)
abbrev MI' := Env → Mem → Re IterM
def tI (X : Cx) (W : WX) (h : MI') : TI := fun σ H R => ∃ ρ m β, RE X.K β H ρ σ ∧ RM X.K β H m ∧
  match h ρ m with
  | .ok it m' => ∀ H' β' J, Ext β H β' H' → RM X.K β' H' m' → WalkM X.K β' H' it J → R J H'
  | .ex x m' => ∀ cls dd H' β', Ext β H β' H' → RM X.K β' H' m' → XR X.K β' H' x cls dd → W cls dd σ H'
  | .stuck => False
structure JI (X : Cx) (W : WX) (tg iter : Expr) (h : MI') : Prop where
  run : PI X tg iter (tI X W h)
theorem pi_imp {tg e : Expr} {t t' : TI} (h : PI X tg e t) (i : ∀ σ H R, t' σ H R → t σ H R) : PI X tg e t' := ⟨fun pins s σ H R I q => h.run pins s σ H R I (i σ H R q)⟩
theorem pi_or {tg e : Expr} {t t' : TI} (h : PI X tg e t) (h' : PI X tg e t') : PI X tg e (fun σ H R => t σ H R ∨ t' σ H R) := ⟨fun pins s σ H R I q => q.elim (h.run pins s σ H R I) (h'.run pins s σ H R I)⟩
theorem walkM_tup {a : Addr} {l : List MV} {vs : List V} (M : RM K β H m) (h : SqT K H a vs) (r : RVs K β H l vs) : WalkM K β H ⟨l, fun _ => True⟩ (Itt K a) := by
  refine ⟨fun H1 => SqT K H1 a vs, YAt vs, ?_, fun β1 H1 m1 e M1 _ => M.sqt e h, fun i H1 x H2 β1 m1 d e M1 _ hi y => ?_⟩
  · show Walk _ l.length _ _
    rw [r.length]; exact walk_tup
  · obtain ⟨rfl, hx⟩ := y
    obtain ⟨v, h1, h2⟩ := (r.ext M e).get hi
    rw [h1] at hx; cases hx
    exact ⟨Ext.refl, M1, h2⟩
theorem walkM_lst {a : Addr} {d : MV} {l : List MV} (M : RM K β H m) (rd : RV K β H d (.ref a)) (h : lstOf m d = some l) : WalkM K β H ⟨l, fun m' => lstOf m' d = some l⟩ (Itl K a) := by
  refine ⟨fun H1 => ∃ vs, SqL K H1 a vs ∧ vs.length = l.length, fun i H1 x H2 => H2 = H1 ∧ ∀ vs, SqL K H1 a vs → vs[i]? = some x, ⟨fun i H1 hi g => ?_, fun H1 g => ?_, fun i H1 x H2 _ _ y => y⟩, fun β1 H1 m1 e M1 hc => ?_, fun i H1 x H2 β1 m1 d' e M1 hc hi y => ?_⟩
  · obtain ⟨vs, g1, g2⟩ := g
    have hi' : i < vs.length := by rw [g2]; exact hi
    exact ⟨vs, vs[i], g1, by simp [hi']⟩
  · obtain ⟨vs, g1, g2⟩ := g
    exact ⟨vs, g1, by rw [g2]; exact Nat.le_refl _⟩
  · obtain ⟨a', vs, e1, h1, h2⟩ := M1.lst (rd.ext M e) hc
    cases e1
    exact ⟨vs, h1, h2.length.symm⟩
  · obtain ⟨rfl, hx⟩ := y
    obtain ⟨a', vs, e1, h1, h2⟩ := M1.lst (rd.ext M e) hc
    cases e1
    obtain ⟨v, q1, q2⟩ := h2.get hi
    have := hx vs h1
    rw [q1] at this; cases this
    exact ⟨Ext.refl, M1, q2⟩
/-- range(n), range(a, b) -/
def rngL (lo : Int) (n : Nat) : List MV := (List.range n).map fun i => MV.int (lo + (i : Nat))
theorem walkM_rng {lo : Int} {n : Nat} : WalkM K β H ⟨rngL lo n, fun _ => True⟩ (Itr lo n) := by
  refine ⟨fun _ => True, YFn fun i => .int (lo + i), ?_, fun _ _ _ _ _ _ => trivial, fun i H1 x H2 β1 m1 d e M1 _ hi y => ?_⟩
  · show Walk _ (rngL lo n).length _ _
    rw [show (rngL lo n).length = n by simp [rngL]]; exact walk_range
  · obtain ⟨rfl, rfl⟩ := y
    unfold rngL at hi
    rw [List.getElem?_map] at hi
    cases q : (List.range n)[i]? with
    | none => rw [q] at hi; cases hi
    | some j =>
      rw [q] at hi
      obtain ⟨hj, e2⟩ := List.getElem?_eq_some_iff.mp q
      simp at e2
      subst e2
      cases hi
      exact ⟨Ext.refl, M1, .int _⟩
def rngOf : List MV → Mem → Re IterM
  | [.int j], m => if -(2 ^ 62) ≤ j ∧ j < 2 ^ 62 then .ok ⟨rngL 0 j.toNat, fun _ => True⟩ m else .stuck
  | _, _ => .stuck
def rngOf2 : List MV → Mem → Re IterM
  | [.int i, .int j], m => if -(2 ^ 62) ≤ i ∧ i < 2 ^ 62 ∧ -(2 ^ 62) ≤ j ∧ j < 2 ^ 62 then .ok ⟨rngL i (j - i).toNat, fun _ => True⟩ m else .stuck
  | _, _ => .stuck
def mRng (g : MA) : MI' := fun ρ m => (g ρ m).bind rngOf
def mRng2 (g : MA) : MI' := fun ρ m => (g ρ m).bind rngOf2
/-- a reading of what is walked, from there on -/
def PostI (X : Cx) (W : WX) (r : Re IterM) (β : List Addr) (H : Hp) (σ : L2.St) (R : It → Hp → Prop) : Prop :=
  match r with
  | .ok it m' => ∀ H' β' J, Ext β H β' H' → RM X.K β' H' m' → WalkM X.K β' H' it J → R J H'
  | .ex x m' => ∀ cls dd H' β', Ext β H β' H' → RM X.K β' H' m' → XR X.K β' H' x cls dd → W cls dd σ H'
  | .stuck => False
theorem ji_rng1 {tg a : Expr} {g : MA} {p : Pos} (hm : X.mg "range" = none) (ha : JA X W [a] g) (hg : Gl X "range" := by rfl) (hs : starEach [a] X.env = [(false, eval a X.env)] := by rfl) : JI X W tg (.Call (.Name "range" p) [a] [] pos) (mRng g) := by
  refine ⟨pi_imp (pi_range1 hg hm ha.run hs) fun σ H R ⟨ρ, m, β, hE, hM, p⟩ => ⟨ρ, m, β, hE, hM, ?_⟩⟩
  have p : PostI X W ((g ρ m).bind rngOf) β H σ R := p
  cases hf : g ρ m with
  | stuck => rw [hf] at p; exact p.elim
  | ex x m1 => rw [hf] at p; exact p
  | ok ds m1 =>
    rw [hf] at p
    intro vs H1 β1 e1 M1 V1
    have p : PostI X W (rngOf ds m1) β H σ R := p
    unfold rngOf at p
    split at p
    · split at p
      · rename_i hj
        cases V1 with
        | cons h r =>
          cases h; cases r
          exact ⟨_, rfl, hj.1, hj.2, p _ _ _ e1 M1 walkM_rng⟩
      · exact p.elim
    · exact p.elim
theorem ji_rng2 {tg a b : Expr} {g : MA} {p : Pos} (hm : X.mg "range" = none) (ha : JA X W [a, b] g) (hg : Gl X "range" := by rfl) (hs : starEach [a, b] X.env = [(false, eval a X.env), (false, eval b X.env)] := by rfl) (hs2 : starEach [b] X.env = [(false, eval b X.env)] := by rfl) : JI X W tg (.Call (.Name "range" p) [a, b] [] pos) (mRng2 g) := by
  refine ⟨pi_imp (pi_range2 hg hm ha.run hs hs2) fun σ H R ⟨ρ, m, β, hE, hM, p⟩ => ⟨ρ, m, β, hE, hM, ?_⟩⟩
  have p : PostI X W ((g ρ m).bind rngOf2) β H σ R := p
  cases hf : g ρ m with
  | stuck => rw [hf] at p; exact p.elim
  | ex x m1 => rw [hf] at p; exact p
  | ok ds m1 =>
    rw [hf] at p
    intro vs H1 β1 e1 M1 V1
    have p : PostI X W (rngOf2 ds m1) β H σ R := p
    unfold rngOf2 at p
    split at p
    · split at p
      · rename_i hj
        cases V1 with
        | cons h r =>
          cases r with
          | cons h2 r =>
            cases h; cases h2; cases r
            exact ⟨_, _, rfl, hj, p _ _ _ e1 M1 walkM_rng⟩
      · exact p.elim
    · exact p.elim
open Classical in
noncomputable def loopM (chk : Mem → Prop) (g : MG) (body : MS) : List MV → Env → Mem → Re Fl
  | [], ρ, m => if chk m then .ok (.nx ρ) m else .stuck
  | d :: r, ρ, m => if chk m then (match g d ρ m with
    | .ok ρ1 m1 => match body ρ1 m1 with
      | .ok (.nx ρ2) m2 => loopM chk g body r ρ2 m2
      | .ok (.ct ρ2) m2 => loopM chk g body r ρ2 m2
      | .ok (.bk ρ2) m2 => .ok (.nx ρ2) m2
      | q => q
    | _ => .stuck) else .stuck
noncomputable def mFor (h : MI') (g : MG) (body : MS) : MS := fun ρ m => onE ρ (h ρ m) fun it m1 => loopM it.chk g body it.items ρ m1
theorem js_for {tg iter : Expr} {body : List Stmt} {h : MI'} {g : MG} {f : MS} (hp : PassesOwn (model X.prog X.w) X.A X.env X.xe) (hc : X.calm = true) (hi : JI X W tg iter h) (hg : JG X tg g) (hb : JB X W body f)
    (hs : ∀ x, foldedSetIterable iter X.env x = pure x := by intro _; rfl) : JS X W (.For tg iter body [] pos) (mFor h g f) := by
  refine ⟨ps_imp (ps_for hp hc hi.run hg.run hb.run hs) fun D σ H q => ?_⟩
  obtain ⟨ρ, m, β, hE, hM, p⟩ := tS_of q
  refine ⟨ρ, m, β, hE, hM, ?_⟩
  unfold mFor at p
  cases hh : h ρ m with
  | stuck => rw [hh] at p; exact p.elim
  | ex x m1 => rw [hh] at p; exact fun c d H' β' e M z => p c d σ H' β' e M (hE.ext hM e) z
  | ok it m1 =>
    rw [hh] at p
    intro H1 β1 J e1 M1 w1
    obtain ⟨G, Y, wk, hG, hY⟩ := w1.ex
    have p1 : PostS X W (loopM it.chk g f it.items ρ m1) β1 H1 D := PostS.later (r := loopM it.chk g f it.items ρ m1) p e1
    refine for_it wk (fun i σ2 H2 => ∃ ρ2 m2 β2, Ext β1 H1 β2 H2 ∧ RE X.K β2 H2 ρ2 σ2 ∧ RM X.K β2 H2 m2 ∧ PostS X W (loopM it.chk g f (it.items.drop i) ρ2 m2) β2 H2 D) ⟨ρ, m1, β1, Ext.refl, hE.ext hM e1, M1, by rw [List.drop_zero]; exact p1⟩
      (fun i σ2 H2 hi ⟨ρ2, m2, β2, e2, E2, M2, p2⟩ => ?_) (fun i x σ2 H2 H3 hi ⟨ρ2, m2, β2, e2, E2, M2, p2⟩ y => ?_) (fun σ2 H2 ⟨ρ2, m2, β2, e2, E2, M2, p2⟩ => ?_)
    · refine hG β2 H2 m2 e2 M2 (Classical.byContradiction fun nc => ?_)
      cases hd : it.items.drop i with
      | nil => rw [hd] at p2; unfold loopM at p2; rw [if_neg nc] at p2; exact p2
      | cons d r => rw [hd] at p2; unfold loopM at p2; rw [if_neg nc] at p2; exact p2
    · have hdr : it.items.drop i = it.items[i] :: it.items.drop (i + 1) := List.drop_eq_getElem_cons hi
      rw [hdr] at p2
      unfold loopM at p2
      by_cases hk : it.chk m2
      · rw [if_pos hk] at p2
        obtain ⟨e3, M3, V3⟩ := hY i H2 x H3 β2 m2 it.items[i] e2 M2 hk (by simp [hi]) y
        refine ⟨it.items[i], ρ2, m2, β2, V3, E2.ext M2 e3, M3, ?_⟩
        cases hgd : g it.items[i] ρ2 m2 with
        | stuck => rw [hgd] at p2; exact p2.elim
        | ex x m => rw [hgd] at p2; exact p2.elim
        | ok ρ3 m3 =>
          rw [hgd] at p2
          intro σ4 H4 β4 e4 M4 E4
          refine ⟨ρ3, m3, β4, E4, M4, ?_⟩
          have p3 : PostS X W (match f ρ3 m3 with
            | .ok (.nx ρ2) m2 => loopM it.chk g f (it.items.drop (i + 1)) ρ2 m2
            | .ok (.ct ρ2) m2 => loopM it.chk g f (it.items.drop (i + 1)) ρ2 m2
            | .ok (.bk ρ2) m2 => .ok (.nx ρ2) m2
            | q => q) β4 H4 D := PostS.later p2 (e3.trans e4)
          have e24 : Ext β1 H1 β4 H4 := (e2.trans e3).trans e4
          cases hf : f ρ3 m3 with
          | stuck => rw [hf] at p3; exact p3
          | ex x m => rw [hf] at p3; exact p3
          | ok a m5 =>
            rw [hf] at p3
            cases a with
            | nx ρ5 => exact fun σ5 H5 β5 e5 M5 E5 => ⟨ρ5, m5, β5, e24.trans e5, E5, M5, PostS.later (r := loopM it.chk g f (it.items.drop (i + 1)) ρ5 m5) p3 e5⟩
            | ct ρ5 => exact fun σ5 H5 β5 e5 M5 E5 => ⟨ρ5, m5, β5, e24.trans e5, E5, M5, PostS.later (r := loopM it.chk g f (it.items.drop (i + 1)) ρ5 m5) p3 e5⟩
            | bk ρ5 => exact p3
            | rt d => exact p3
            | ex x ρ5 => exact p3
      · rw [if_neg hk] at p2; exact p2.elim
    · rw [List.drop_length] at p2
      unfold loopM at p2
      by_cases hk : it.chk m2
      · rw [if_pos hk] at p2; exact p2 σ2 H2 β2 Ext.refl M2 E2
      · rw [if_neg hk] at p2; exact p2.elim
end
end MI
namespace MI
open PySem L2
variable [Nms]
section
variable {X : Cx} {W : WX} {pos : Pos} {K : PySem.W.Frag} {β : List Addr} {H : Hp} {m : Mem}
abbrev NG := MV → Mem → Option (List (Nat × MV))
def setE (ρ : Env) : List (Nat × MV) → Env
  | [] => ρ
  | (i, d) :: r => setE (ρ.set i (some d)) r
def setS (σ : L2.St) : List (Nat × V) → L2.St
  | [] => σ
  | (i, v) :: r => setS (σ.set i (some v)) r
inductive RAs (K : PySem.W.Frag) (β : List Addr) (H : Hp) : List (Nat × MV) → List (Nat × V) → Prop
  | nil : RAs K β H [] []
  | cons {i : Nat} {d : MV} {v : V} {ds : List (Nat × MV)} {vs : List (Nat × V)} : RV K β H d v → RAs K β H ds vs → RAs K β H ((i, d) :: ds) ((i, v) :: vs)
theorem RE.setAs : ∀ {ds : List (Nat × MV)} {vs : List (Nat × V)}, RAs K β H ds vs → ∀ {ρ : Env} {σ : L2.St}, RE K β H ρ σ → RE K β H (setE ρ ds) (setS σ vs)
  | _, _, .nil, _, _, h => h
  | _, _, .cons v r, _, _, h => RE.setAs r (h.set v)
theorem RAs.app : ∀ {ds es : List (Nat × MV)} {vs us : List (Nat × V)}, RAs K β H ds vs → RAs K β H es us → RAs K β H (ds ++ es) (vs ++ us)
  | _, _, _, _, .nil, q => q
  | _, _, _, _, .cons h r, q => .cons h (RAs.app r q)
theorem RAs.fst : ∀ {ds : List (Nat × MV)} {vs : List (Nat × V)}, RAs K β H ds vs → ds.map (·.1) = vs.map (·.1)
  | _, _, .nil => rfl
  | _, _, .cons _ r => by simp [RAs.fst r]
theorem RAs.ext (R : RM K β H m) {β' : List Addr} {H' : Hp} (e : Ext β H β' H') : ∀ {ds : List (Nat × MV)} {vs : List (Nat × V)}, RAs K β H ds vs → RAs K β' H' ds vs
  | _, _, .nil => .nil
  | _, _, .cons h r => .cons (h.ext R e) (RAs.ext R e r)
/-- what the target does, at the slots themselves -/
def tNG (X : Cx) (g : NG) : TG := fun v σ H Q => ∃ d m β, RV X.K β H d v ∧ RM X.K β H m ∧ ∃ as, g d m = some as ∧ ∀ vs, RAs X.K β H as vs → Q (setS σ vs) H
structure JNG (X : Cx) (tg : Expr) (g : NG) : Prop where
  run : PG X tg (tNG X g)
def ngName (i : Nat) : NG := fun d _ => some [(i, d)]
theorem jn_name (i : Nat) {x : Str} (hN : X.N.Nodup) (hi : X.N[i]? = some x := by rfl) (hx : Loc X.env.scope x := by first | exact Or.inl rfl | exact Or.inr rfl) (hf : X.fn x = true ∨ X.env.scope.names.lookup x = some .local := by first | exact .inl rfl | exact .inr rfl | assumption) : JNG X (.Name x pos) (ngName i) :=
  ⟨pg_imp (pg_name hN hi hx hf) fun v σ H Q ⟨d, m, β, V, hM, as, h, p⟩ => by
    unfold ngName at h
    cases h
    exact p [(i, v)] (.cons V .nil)⟩
/-- several: each a name -/
abbrev NGs := List MV → Mem → Option (List (Nat × MV))
def tNGs (X : Cx) (g : NGs) : TGs := fun us σ H Q => ∃ ds m β, RVs X.K β H ds us ∧ RM X.K β H m ∧ ∃ as, g ds m = some as ∧ ∀ vs, RAs X.K β H as vs → Q (setS σ vs) H
structure JNGs (X : Cx) (tg : List Expr) (g : NGs) : Prop where
  run : PGs X tg (tNGs X g)
def ngNil : NGs := fun ds _ => match ds with
  | [] => some []
  | _ => none
def ngCons (g : NG) (k : NGs) : NGs := fun ds m => match ds with
  | d :: r => match g d m, k r m with
    | some a, some b => some (a ++ b)
    | _, _ => none
  | _ => none
theorem setS_app {σ : L2.St} : ∀ {a b : List (Nat × V)}, setS σ (a ++ b) = setS (setS σ a) b := by
  intro a
  induction a generalizing σ with
  | nil => intro b; rfl
  | cons p r ih => intro b; obtain ⟨i, v⟩ := p; exact ih
theorem jn_nil : JNGs X [] ngNil := ⟨pgs_imp pgs_nil fun v σ H Q ⟨ds, m, β, V, hM, as, h, p⟩ => by
  cases V with
  | nil => cases h; exact ⟨rfl, p [] .nil⟩
  | cons _ _ => cases h⟩
theorem jn_cons {e : Expr} {es : List Expr} {g : NG} {k : NGs} (h1 : JNG X e g) (h2 : JNGs X es k) (hs : (assignEach (e :: es) X.env).map (·.2) = assign e X.env :: (assignEach es X.env).map (·.2) := by rfl) : JNGs X (e :: es) (ngCons g k) :=
  ⟨pgs_imp (pgs_cons h1.run h2.run hs) fun us σ H Q ⟨ds, m, β, V, hM, as, h, p⟩ => by
    cases V with
    | nil => cases h
    | @cons d v ds vs q r =>
      unfold ngCons at h
      have h : (match g d m, k ds m with | some a, some b => some (a ++ b) | _, _ => none) = some as := h
      split at h
      · rename_i a b e1 e2
        cases h
        exact ⟨v, vs, rfl, d, m, β, q, hM, a, e1, fun ws hw => ⟨ds, m, β, r, hM, b, e2, fun zs hz => by rw [← setS_app]; exact p _ (hw.app hz)⟩⟩
      · cases h⟩
def ngTup (n : Nat) (k : NGs) : NG := fun d m => match seqOf m d with
  | some l => if l.length = n then k l m else none
  | none => none
theorem jn_tup {es : List Expr} {k : Nat} {g : NGs} {n : Nat} (hc : X.calm = true) (h : JNGs X es g) (hn : (assignEach es X.env).length = n := by rfl) (hst : (assignEach es X.env).findIdx? (·.1) = none := by rfl) : JNG X (.Tuple es k pos) (ngTup n g) :=
  ⟨pg_imp (pg_or (pg_tup hc h.run hn hst) (pg_unl hc h.run hn hst)) fun v σ H Q ⟨d, m, β, V, hM, as, h, p⟩ => by
    unfold ngTup at h
    cases e : seqOf m d with
    | none => rw [e] at h; cases h
    | some l =>
      rw [e] at h
      obtain ⟨a, vs, rfl, hs, hr⟩ := hM.seq V e
      by_cases q : l.length = n
      · simp only [q, if_true] at h
        rcases hs with hs | hs
        · exact .inr ⟨a, vs, rfl, hs, by rw [← hr.length]; exact q, l, m, β, hr, hM, as, h, p⟩
        · exact .inl ⟨a, vs, rfl, hs, by rw [← hr.length]; exact q, l, m, β, hr, hM, as, h, p⟩
      · simp only [q, if_false] at h; cases h⟩
def wipeM (ρ : Env) : List Nat → Env
  | [] => ρ
  | v :: vs => (wipeM ρ vs).set v none
theorem RE.wipe {ρ : Env} {σ : L2.St} (h : RE K β H ρ σ) : ∀ vs : List Nat, RE K β H (wipeM ρ vs) (L2.wipe σ vs)
  | [] => h
  | v :: vs => by
    have ih := RE.wipe h vs
    refine ⟨by show ((wipeM ρ vs).set v none).length = ((L2.wipe σ vs).set v none).length; simp [ih.len], fun i d e => ?_⟩
    have e : ((wipeM ρ vs).set v none)[i]? = some (some d) := e
    show ∃ u, ((L2.wipe σ vs).set v none)[i]? = some (some u) ∧ _
    by_cases q : v = i
    · subst q
      rw [List.getElem?_set_self'] at e
      cases z : (wipeM ρ vs)[v]? with
      | none => rw [z] at e; cases e
      | some w => rw [z] at e; cases e
    · rw [List.getElem?_set_ne q] at e ⊢
      exact ih.at_ i d e
theorem wipe_set {σ : L2.St} {i : Nat} {o : Option V} : ∀ {vs : List Nat}, i ∈ vs → L2.wipe (σ.set i o) vs = L2.wipe σ vs := by
  intro vs
  induction vs with
  | nil => intro h; cases h
  | cons v vs ih =>
    intro h
    show (L2.wipe (σ.set i o) vs).set v none = (L2.wipe σ vs).set v none
    by_cases q : i ∈ vs
    · rw [ih q]
    · have hv : i = v := by
        rcases List.mem_cons.mp h with z | z
        · exact z
        · exact absurd z q
      subst hv
      have comm : ∀ (ws : List Nat), i ∉ ws → L2.wipe (σ.set i o) ws = (L2.wipe σ ws).set i o := by
        intro ws
        induction ws with
        | nil => intro _; rfl
        | cons w ws ih2 =>
          intro hn
          show (L2.wipe (σ.set i o) ws).set w none = ((L2.wipe σ ws).set w none).set i o
          rw [ih2 (fun z => hn (List.mem_cons_of_mem _ z)), List.set_comm]
          intro z
          exact hn (by rw [z]; exact List.mem_cons_self)
      rw [comm vs q, List.set_set]
theorem wipe_setS {vs : List Nat} : ∀ {as : List (Nat × V)} {σ : L2.St}, (∀ p ∈ as, p.1 ∈ vs) → L2.wipe (setS σ as) vs = L2.wipe σ vs
  | [], _, _ => rfl
  | (i, v) :: r, σ, h => by
    show L2.wipe (setS (σ.set i (some v)) r) vs = _
    rw [wipe_setS (as := r) fun p hp => h p (List.mem_cons_of_mem _ hp)]
    exact wipe_set (h (i, v) List.mem_cons_self)
theorem wipe_wipe {σ : L2.St} {vs : List Nat} : L2.wipe (L2.wipe σ vs) vs = L2.wipe σ vs := by
  have gen : ∀ (ws us : List Nat) (σ : L2.St), (∀ w ∈ ws, w ∈ us) → L2.wipe (L2.wipe σ ws) us = L2.wipe σ us := by
    intro ws
    induction ws with
    | nil => intro us σ _; rfl
    | cons w ws ih =>
      intro us σ h
      show L2.wipe ((L2.wipe σ ws).set w none) us = _
      rw [wipe_set (h w List.mem_cons_self)]
      exact ih us σ fun z hz => h z (List.mem_cons_of_mem _ hz)
  exact gen vs vs σ fun _ h => h
open Classical in
noncomputable def lcM (chk : Mem → Prop) (g : NG) (t : MT) (e : ME) (ρ : Env) : List MV → List MV → Mem → Re (List MV)
  | [], acc, m => if chk m then .ok acc m else .stuck
  | d :: r, acc, m => if chk m then (match g d m with
    | some as => match t (setE ρ as) m with
      | .ok true m2 => match e (setE ρ as) m2 with
        | .ok y m3 => if acc.length < sizeLine then lcM chk g t e ρ r (acc ++ [y]) m3 else .stuck
        | _ => .stuck
      | .ok false m2 => lcM chk g t e ρ r acc m2
      | _ => .stuck
    | none => .stuck) else .stuck
noncomputable def mLc (h : MI') (g : NG) (t : MT) (e : ME) (vs : List Nat) : ME := fun ρ m => (h ρ m).bind fun it m1 => (lcM it.chk g t e (wipeM ρ vs) it.items [] m1).bind fun l m2 => alloc (.lst l) m2
end
end MI
namespace MI
open PySem L2
variable [Nms]
section
variable {X : Cx} {W : WX} {pos : Pos} {K : PySem.W.Frag} {β : List Addr} {H : Hp} {m : Mem}
structure JTs (X : Cx) (W : WX) (es : List Expr) (f : MT) : Prop where
  run : PTs X es (tT X W f)
theorem pts_imp {e : List Expr} {t t' : TT} (h : PTs X e t) (i : ∀ σ H Q, t' σ H Q → t σ H Q) : PTs X e t' := ⟨fun pins s σ H Q I q => h.run pins s σ H Q I (i σ H Q q)⟩
def mYes : MT := fun _ m => .ok true m
theorem jts_nil : JTs X W [] mYes := ⟨pts_imp pts_nil fun σ H Q ⟨ρ, m, β, hE, hM, p⟩ => p.ok hM rfl⟩
theorem jts_one {c : Expr} {f : MT} (h : JT X W c f) : JTs X W [c] f := ⟨pts_one h.run⟩
/-- nothing is raised -/
abbrev W0 : WX := fun _ _ _ _ => False
abbrev blk (X : Cx) (scope : Scope) (s : Shared) (H : Hp) (C : Addr) (cl : List (Str × Addr)) (fp : List Addr) : Cx := X.blk s H scope (PySem.compEnvC scope cl C X.env) fp
mutual
theorem RV.grow {β β' : List Addr} {H H' : Hp} (hb : ∀ (n : Nat) a, β[n]? = some a → β'[n]? = some a) (ht : ∀ a xs, SqT K H a xs → SqT K H' a xs) (hk : ∀ a xs, KL K β H a xs → KL K β' H' a xs) : ∀ {d : MV} {v : V}, RV K β H d v → RV K β' H' d v
  | _, _, .non => .non
  | _, _, .bl b => .bl b
  | _, _, .int i => .int i
  | _, _, .str x => .str x
  | _, _, .tup h r => .tup (ht _ _ h) (RVs.grow hb ht hk r)
  | _, _, .ref h => .ref (hb _ _ h)
  | _, _, .kl h r => .kl (hk _ _ h) (RVs.grow hb ht hk r)
  | _, _, .clo h => .clo fun n a q => hb n a (h n a q)
theorem RVs.grow {β β' : List Addr} {H H' : Hp} (hb : ∀ (n : Nat) a, β[n]? = some a → β'[n]? = some a) (ht : ∀ a xs, SqT K H a xs → SqT K H' a xs) (hk : ∀ a xs, KL K β H a xs → KL K β' H' a xs) : ∀ {d : List MV} {v : List V}, RVs K β H d v → RVs K β' H' d v
  | _, _, .nil => .nil
  | _, _, .cons h r => .cons (RV.grow hb ht hk h) (RVs.grow hb ht hk r)
end
theorem RKs.grow {β β' : List Addr} {H H' : Hp} (hb : ∀ (n : Nat) a, β[n]? = some a → β'[n]? = some a) (ht : ∀ a xs, SqT K H a xs → SqT K H' a xs) (hk : ∀ a xs, KL K β H a xs → KL K β' H' a xs) : ∀ {d : List (Key × MV)} {v : List (Key × V)}, RKs K β H d v → RKs K β' H' d v
  | _, _, .nil => .nil
  | _, _, .cons h r => .cons (RV.grow hb ht hk h) (RKs.grow hb ht hk r)
theorem RFs.grow {β β' : List Addr} {H H' : Hp} (hb : ∀ (n : Nat) a, β[n]? = some a → β'[n]? = some a) (ht : ∀ a xs, SqT K H a xs → SqT K H' a xs) (hk : ∀ a xs, KL K β H a xs → KL K β' H' a xs) : ∀ {d : List (Str × MV)} {v : List (Str × V)}, RFs K β H d v → RFs K β' H' d v
  | _, _, .nil => .nil
  | _, _, .cons h r => .cons (RV.grow hb ht hk h) (RFs.grow hb ht hk r)
theorem RNs.grow {β β' : List Addr} {H H' : Hp} (hb : ∀ (n : Nat) a, β[n]? = some a → β'[n]? = some a) (ht : ∀ a xs, SqT K H a xs → SqT K H' a xs) (hk : ∀ a xs, KL K β H a xs → KL K β' H' a xs) : ∀ {d : List (MV × MV)} {v : List (NestedKey × Addr × Value)}, RNs K β H d v → RNs K β' H' d v
  | _, _, .nil => .nil
  | _, _, .cons h1 h2 h3 h4 h5 r => .cons h1 h2 (RV.grow hb ht hk h3) h4 (RV.grow hb ht hk h5) (RNs.grow hb ht hk r)
theorem RO.grow {β β' : List Addr} {H H' : Hp} (hb : ∀ (n : Nat) a, β[n]? = some a → β'[n]? = some a) (ht : ∀ a xs, SqT K H a xs → SqT K H' a xs) (hk : ∀ a xs, KL K β H a xs → KL K β' H' a xs) (hx : ∀ a vs, H a = some (.xd vs) → a ∉ β → H' a = some (.xd vs) ∧ a ∉ β') {o : MO} {a : Addr} (ha : H' a = H a) (r : RO K β H o a) : RO K β' H' o a := by
  cases o with
  | lst l => obtain ⟨vs, h, q⟩ := r; exact ⟨vs, by rw [ha]; exact h, q.grow hb ht hk⟩
  | frz l => obtain ⟨vs, ob, h, q⟩ := r; exact ⟨vs, ob, by rw [ha]; exact h, q.grow hb ht hk⟩
  | dct l => obtain ⟨vs, h, q⟩ := r; exact ⟨vs, by rw [ha]; exact h, q.grow hb ht hk⟩
  | exn x =>
    obtain ⟨C, d, h1, h2, h3⟩ := r
    refine ⟨C, d, h1, by rw [ha]; exact h2, ?_⟩
    rcases h3 with h3 | ⟨dd, vs, q1, q2, q3, q4⟩
    · exact .inl h3
    · obtain ⟨z1, z2⟩ := hx dd vs q2 q3
      exact .inr ⟨dd, vs, q1, z1, z2, q4.grow hb ht hk⟩
  | own c l => obtain ⟨C, dx, vs, h1, h2, h3⟩ := r; exact ⟨C, dx, vs, h1, by rw [ha]; exact h2, h3.grow hb ht hk⟩
  | dN l => obtain ⟨xs, h, h2, q⟩ := r; exact ⟨xs, by rw [ha]; exact h, h2, q.grow hb ht hk⟩
/-- a list that the small world does not number is written -/
theorem sqt_off {H : Hp} {D a : Addr} {l l' xs : List V} (hD : H D = some (.lst l)) (h : SqT K H a xs) : SqT K (upd H D (.lst l')) a xs := by
  rcases h with (h | ⟨o, h⟩) | h
  · exact .inl (.inl (by rw [upd_ne (ne_of h hD (by intro z; cases z))]; exact h))
  · exact .inl (.inr ⟨o, by rw [upd_ne (ne_of h hD (by intro z; cases z))]; exact h⟩)
  · exact .inr h
theorem kl_off {H : Hp} {D a : Addr} {l l' xs : List V} {β : List Addr} (hD : H D = some (.lst l)) (h : KL K β H a xs) : KL K β (upd H D (.lst l')) a xs := by
  rcases h with ⟨n, o, h⟩ | h
  · exact .inl ⟨n, o, by rw [upd_ne (ne_of h hD (by intro z; cases z))]; exact h⟩
  · exact .inr h
theorem kl_adopt {H : Hp} {D a : Addr} {l xs : List V} {β : List Addr} (hD : H D = some (.lst l)) (h : KL K β H a xs) : KL K (β ++ [D]) H a xs := by
  rcases h with ⟨n, o, h⟩ | h
  · refine .inl ⟨fun z => ?_, o, h⟩
    rcases List.mem_append.mp z with z | z
    · exact n z
    · simp at z
      subst z
      rw [hD] at h
      cases h
  · exact .inr h
theorem xd_off {β : List Addr} {H : Hp} {D : Addr} {o u : HO} (hD : H D = some o) (no : ∀ vs, o ≠ .xd vs) : ∀ a vs, H a = some (.xd vs) → a ∉ β → (upd H D u) a = some (.xd vs) ∧ a ∉ β := fun a vs h n => ⟨by
  rw [upd_ne (fun z => ?_)]
  · exact h
  · subst z
    rw [hD] at h
    exact no vs (Option.some.inj h), n⟩
theorem xd_adopt {β : List Addr} {H : Hp} {D : Addr} {o : HO} (hD : H D = some o) (no : ∀ vs, o ≠ .xd vs) : ∀ a vs, H a = some (.xd vs) → a ∉ β → H a = some (.xd vs) ∧ a ∉ β ++ [D] := fun a vs h n => ⟨h, fun z => by
  rcases List.mem_append.mp z with z | z
  · exact n z
  · rw [List.mem_singleton] at z
    subst z
    rw [hD] at h
    exact no vs (Option.some.inj h)⟩
theorem RM.off {β : List Addr} {H : Hp} {m : Mem} (R : RM K β H m) {D : Addr} {l l' : List V} (n : D ∉ β) (hD : H D = some (.lst l)) : RM K β (upd H D (.lst l')) m :=
  ⟨R.tabs.upd ⟨fun _ z => (by cases z), fun _ z => (by unfold CodeF at z; cases z)⟩ (fun u e => (by rw [hD] at e; cases e; exact ⟨fun _ z => (by cases z), fun _ z => (by unfold CodeF at z; cases z)⟩)), R.len, R.nd, fun i o a h1 h2 => (R.ob i o a h1 h2).grow (fun _ _ h => h) (fun _ _ h => sqt_off hD h) (fun _ _ h => kl_off hD h) (xd_off hD (fun _ z => by cases z)) (upd_ne fun z => n (z ▸ List.mem_of_getElem? h2))⟩
/-- .. and gets a number -/
theorem RM.adopt {β : List Addr} {H : Hp} {m : Mem} (R : RM K β H m) {D : Addr} {l : List V} {ds : List MV} (n : D ∉ β) (hD : H D = some (.lst l)) (r : RVs K β H ds l) : RM K (β ++ [D]) H (m ++ [.lst ds]) := by
  have hb : ∀ (n : Nat) a, β[n]? = some a → (β ++ [D])[n]? = some a := fun n a h => by rw [List.getElem?_append_left (List.getElem?_eq_some_iff.mp h).1]; exact h
  refine ⟨R.tabs, by simp [R.len], ?_, fun i ob a h1 h2 => ?_⟩
  · rw [List.nodup_append]
    refine ⟨R.nd, by simp, fun a ha b hb => ?_⟩
    simp at hb
    subst hb
    intro z
    subst z
    exact n ha
  · by_cases hn : i < m.length
    · rw [List.getElem?_append_left hn] at h1
      rw [List.getElem?_append_left (by rw [R.len]; exact hn)] at h2
      exact (R.ob i ob a h1 h2).grow hb (fun _ _ h => h) (fun _ _ h => kl_adopt hD h) (xd_adopt hD (fun _ z => by cases z)) rfl
    · rw [List.getElem?_append_right (by omega)] at h1
      rw [List.getElem?_append_right (by rw [R.len]; omega), R.len] at h2
      cases hk : i - m.length with
      | zero =>
        rw [hk] at h1 h2
        simp at h1 h2
        subst h1; subst h2
        exact ⟨l, hD, r.grow hb (fun _ _ h => h) fun _ _ h => kl_adopt hD h⟩
      | succ k => rw [hk] at h1; simp at h1
theorem Ext.later {β β' : List Addr} {H H' : Hp} (e : Ext β H β' H') {D : Addr} {o : HO} (h : H D = none) : Ext β H β' (upd H' D o) :=
  ⟨e.pre, fun a u q n t => by rw [upd_ne (ne_of_none q h)]; exact e.old a u q n t, fun a ps q n => by rw [upd_ne (ne_of_none q h)]; exact e.tab a ps q n, e.new⟩
theorem Ext.adopt {β β' : List Addr} {H H' : Hp} (e : Ext β H β' H') {D : Addr} (h : H D = none) : Ext β H (β' ++ [D]) H' :=
  ⟨by obtain ⟨r, rfl⟩ := e.pre; exact ⟨r ++ [D], by simp⟩, e.old, e.tab, fun a q => by
    rcases List.mem_append.mp q with q | q
    · exact e.new a q
    · simp at q; subst q; exact .inr h⟩
theorem lc_imp {h : MI'} {g : NG} {t : MT} {e : ME} (own : List (Str × Nat)) (hgs : ∀ d m as, g d m = some as → ∀ p ∈ as, p.1 ∈ own.map (·.2)) {σ : L2.St} {H : Hp} {Q : VK} (q : tE X W (mLc h g t e (own.map (·.2))) σ H Q) :
    tLc (tI X W h) (tNG X g) (tT X W0 t) (tE X W0 e) (own.map (·.2)) σ H Q := by
  obtain ⟨ρ, m, β, hE, hM, p⟩ := q
  refine ⟨ρ, m, β, hE, hM, ?_⟩
  have p : Post X W ((h ρ m).bind fun it m1 => (lcM it.chk g t e (wipeM ρ (own.map (·.2))) it.items [] m1).bind fun l m2 => alloc (.lst l) m2) β H σ (fun β' H' d v => RV X.K β' H' d v) Q := p
  cases hh : h ρ m with
  | stuck => rw [hh] at p; exact p.elim
  | ex x m1 => rw [hh] at p; exact p
  | ok it m1 =>
    rw [hh] at p
    intro H1 β1 J e1 M1 w1 D hD
    have p1 : Post X W ((lcM it.chk g t e (wipeM ρ (own.map (·.2))) it.items [] m1).bind fun l m2 => alloc (.lst l) m2) β1 H1 σ (fun β' H' d v => RV X.K β' H' d v) Q := Post.later p e1
    obtain ⟨G, Y, wk, hG, hY⟩ := w1.ex
    have hE1 := hE.ext hM e1
    have old : ∀ {β2 : List Addr} {H2 : Hp}, Ext β1 H1 β2 H2 → D ∉ β2 → True := fun _ _ => trivial
    -- what holds at turn i
    let Pv : Nat → Hp → Prop := fun i H2 => ∃ m2 β2 acc accV, Ext β1 H1 β2 H2 ∧ D ∉ β2 ∧ RM X.K β2 H2 m2 ∧ H2 D = some (.lst accV) ∧ RVs X.K β2 H2 acc accV ∧
      Post X W ((lcM it.chk g t e (wipeM ρ (own.map (·.2))) (it.items.drop i) acc m2).bind fun l m2 => alloc (.lst l) m2) β1 H1 σ (fun β' H' d v => RV X.K β' H' d v) Q
    have nD : D ∉ β1 := M1.fresh hD
    refine lc_it wk Pv ⟨m1, β1, [], [], Ext.tup hD, nD, M1.tup hD, upd_same, .nil, by rw [List.drop_zero]; exact p1⟩ (fun i H2 hi ⟨m2, β2, acc, accV, e2, n2, M2, h2, r2, p2⟩ => ?_) (fun i x H2 H3 hi ⟨m2, β2, acc, accV, e2, n2, M2, h2, r2, p2⟩ y => ?_) (fun H2 ⟨m2, β2, acc, accV, e2, n2, M2, h2, r2, p2⟩ => ?_)
    · refine hG β2 H2 m2 e2 M2 (Classical.byContradiction fun nc => ?_)
      cases hd : it.items.drop i with
      | nil => rw [hd] at p2; unfold lcM at p2; rw [if_neg nc] at p2; exact p2
      | cons d r => rw [hd] at p2; unfold lcM at p2; rw [if_neg nc] at p2; exact p2
    · have hdr : it.items.drop i = it.items[i] :: it.items.drop (i + 1) := List.drop_eq_getElem_cons hi
      rw [hdr] at p2
      unfold lcM at p2
      by_cases hk : it.chk m2
      · rw [if_pos hk] at p2
        obtain ⟨e3, M3, V3⟩ := hY i H2 x H3 β2 m2 it.items[i] e2 M2 hk (by simp [hi]) y
        have h3 : H3 D = some (.lst accV) := e3.old D _ h2 n2 fun _ z => (by cases z)
        cases hgd : g it.items[i] m2 with
        | none => rw [hgd] at p2; exact p2.elim
        | some as =>
          rw [hgd] at p2
          dsimp only at p2
          refine ⟨it.items[i], m2, β2, V3, M3, as, hgd, fun ws hw => ⟨?_, ?_⟩⟩
          · rw [wipe_setS fun q hq => ?_, wipe_wipe]
            have hm : q.1 ∈ ws.map (·.1) := List.mem_map_of_mem hq
            rw [← hw.fst] at hm
            obtain ⟨q', hq', e'⟩ := List.mem_map.mp hm
            rw [← e']
            exact hgs _ _ _ hgd q' hq'
          · have hW : RE X.K β2 H3 (wipeM ρ (own.map (·.2))) (L2.wipe σ (own.map (·.2))) := ((hE1.ext M1 e2).ext M2 e3).wipe _
            have hW2 := RE.setAs (ρ := wipeM ρ (own.map (·.2))) (σ := L2.wipe σ (own.map (·.2))) hw hW
            refine ⟨_, m2, β2, hW2, M3, ?_⟩
            cases hT : t (setE (wipeM ρ (own.map (·.2))) as) m2 with
            | stuck => rw [hT] at p2; exact p2.elim
            | ex x m => rw [hT] at p2; exact p2.elim
            | ok b m4 =>
              rw [hT] at p2
              intro b' H4 β4 e4 M4 V4
              subst V4
              have h4 : H4 D = some (.lst accV) := e4.old D _ h3 n2 fun _ z => (by cases z)
              have n4 : D ∉ β4 := fun z => by
                rcases e4.new D z with z | z
                · exact n2 z
                · rw [h3] at z; cases z
              cases b with
              | false =>
                exact ⟨m4, β4, acc, accV, (e2.trans e3).trans e4, n4, M4, h4, (r2.ext M2 e3).ext M3 e4, p2⟩
              | true =>
                rw [if_pos rfl]
                refine ⟨_, m4, β4, hW2.ext M3 e4, M4, ?_⟩
                cases hv : e (setE (wipeM ρ (own.map (·.2))) as) m4 with
                | stuck => simp only [hv] at p2; exact p2.elim
                | ex x m => simp only [hv] at p2; exact p2.elim
                | ok d m5 =>
                  simp only [hv] at p2
                  intro v H5 β5 e5 M5 V5
                  have h5 : H5 D = some (.lst accV) := e5.old D _ h4 n4 fun _ z => (by cases z)
                  have n5 : D ∉ β5 := fun z => by
                    rcases e5.new D z with z | z
                    · exact n4 z
                    · rw [h4] at z; cases z
                  have r5 := ((r2.ext M2 e3).ext M3 e4).ext M4 e5
                  by_cases hl : acc.length < sizeLine
                  · rw [if_pos hl] at p2
                    -- D grows; it is no object of the small world
                    have e15 : Ext β1 H1 β5 H5 := ((e2.trans e3).trans e4).trans e5
                    exact ⟨accV, h5, by rw [← r5.length]; exact hl, m5, β5, acc ++ [d], accV ++ [v], e15.later hD, n5, M5.off n5 h5, upd_same, (r5.app (.cons V5 .nil)).grow (fun _ _ h => h) (fun _ _ h => sqt_off h5 h) (fun _ _ h => kl_off h5 h), p2⟩
                  · rw [if_neg hl] at p2; exact p2.elim
      · rw [if_neg hk] at p2; exact p2.elim
    · rw [List.drop_length] at p2
      unfold lcM at p2
      by_cases hk : it.chk m2
      · rw [if_pos hk] at p2
        exact p2 (.ref D) H2 (β2 ++ [D]) (e2.adopt hD) (M2.adopt n2 h2 r2) (.ref (by rw [← M2.len]; simp))
      · rw [if_neg hk] at p2; exact p2.elim
theorem je_lc {elt tg iter : Expr} {ifs : List Expr} {scope : Scope} {h : MI'} {g : NG} {t : MT} {e : ME} {vs : List Nat} (own : List (Str × Nat)) (hvs : own.map (·.2) = vs) (hc : X.calm = true) (hN : X.N.Nodup) (hi : JI X W tg iter h) (ok : BlkOk X.N X.env.scope scope own)
    (hg : ∀ s H C cl fp, JNG (blk X scope s H C cl fp) tg g) (ht : ∀ s H C cl fp, JTs (blk X scope s H C cl fp) W0 ifs t) (he : ∀ s H C cl fp, JE (blk X scope s H C cl fp) W0 elt e)
    (hgs : ∀ d m as, g d m = some as → ∀ p ∈ as, p.1 ∈ vs) (hs : ∀ x, foldedSetIterable iter X.env x = pure x := by intro _; rfl) :
    JE X W (.ListComp elt [⟨tg, iter, ifs, 0⟩] scope pos) (mLc h g t e vs) := by
  subst hvs
  exact ⟨pe_imp (pe_lc (g := tNG X g) (tt := tT X W0 t) (te := tE X W0 e) hc hN hi.run ok (fun s H C cl fp => (hg s H C cl fp).run) (fun s H C cl fp => (ht s H C cl fp).run) (fun s H C cl fp => (he s H C cl fp).run) hs) fun σ H Q q => lc_imp own hgs q⟩
/-- name = [..] -/
theorem js_setLc (i : Nat) {y : Str} {py spos : Pos} {elt tg iter : Expr} {ifs : List Expr} {scope : Scope} {h : MI'} {g : NG} {t : MT} {e : ME} {vs : List Nat} (own : List (Str × Nat)) (hvs : own.map (·.2) = vs) (hc : X.calm = true) (hN : X.N.Nodup) (hi : JI X W tg iter h) (ok : BlkOk X.N X.env.scope scope own)
    (hg : ∀ s H C cl fp, JNG (blk X scope s H C cl fp) tg g) (ht : ∀ s H C cl fp, JTs (blk X scope s H C cl fp) W0 ifs t) (he : ∀ s H C cl fp, JE (blk X scope s H C cl fp) W0 elt e)
    (hgs : ∀ d m as, g d m = some as → ∀ p ∈ as, p.1 ∈ vs) (hy : X.N[i]? = some y := by rfl) (hyl : X.env.scope.names.lookup y = some .local := by rfl) (hsw : swapsWith (.ListComp elt [⟨tg, iter, ifs, 0⟩] scope pos) (some (.Name y py)) spos.line X.env = pure true := by rfl) (hs : ∀ x, foldedSetIterable iter X.env x = pure x := by intro _; rfl) :
    JS X W (.Assign [.Name y py] (.ListComp elt [⟨tg, iter, ifs, 0⟩] scope pos) spos) (mAsg (mLc h g t e vs) (nName i)) := by
  subst hvs
  refine ⟨ps_imp (ps_setLc (g := tNG X g) (tt := tT X W0 t) (te := tE X W0 e) hc hN hy hyl hsw hi.run ok (fun s H C cl fp => (hg s H C cl fp).run) (fun s H C cl fp => (ht s H C cl fp).run) (fun s H C cl fp => (he s H C cl fp).run) hs) fun D σ H ⟨ρ, m, β, hE, hM, p⟩ => ?_⟩
  refine lc_imp own hgs (Q := fun x H1 => gName i x σ H1 D.nx) ⟨ρ, m, β, hE, hM, ?_⟩
  exact PostS.on (D := D) (R := fun β' H' d v => RV X.K β' H' d v) hE hM p fun d m1 v H1 β1 _ e M V q => q _ H1 β1 Ext.refl M ((hE.ext hM e).set V)
end
end MI
namespace MI
open PySem L2
variable [Nms]
section
variable {X : Cx} {W : WX} {pos : Pos} {K : PySem.W.Frag} {β : List Addr} {H : Hp} {m : Mem}
def CrM (X : Cx) (r : List V → Hp → VK → Prop) (g : List MV → Mem → Re MV) : Prop := ∀ (W : WX) (σ : L2.St) (ds : List MV) (m : Mem) (β : List Addr) (H : Hp) (vs : List V) (Q : VK), RM X.K β H m → RVs X.K β H ds vs →
  Post X W (g ds m) β H σ (fun β' H' d v => RV X.K β' H' d v) Q → r vs H Q
theorem cr_or {f : Value} {r r' : List V → Hp → VK → Prop} (h : CallR X f r) (h' : CallR X f r') : CallR X f (fun xs H Q => r xs H Q ∨ r' xs H Q) := by
  intro pins s σ H vs us Q I rv q
  rcases q with q | q
  · exact h pins s σ H vs us Q I rv q
  · exact h' pins s σ H vs us Q I rv q
theorem je_callB {id : String} {r : List V → Hp → VK → Prop} {g : List MV → Mem → Re MV} {ga : MA} {x : Str} {p : Pos} {e : Expr} {es : List Expr} (hc : CallR X (.builtin id) r) (hm : CrM X r g) (mg : X.mg x = none) (hv : bootBuiltins x = some (.builtin id)) (ha : JA X W (e :: es) ga) (hg : Gl X x := by rfl)
    (hn : x ≠ "__name__" := by decide) (hdb : (x == ("__debug__" : Str)) = false := by decide) (he : starEach (e :: es) X.env = (false, eval e X.env) :: starEach es X.env := by rfl) (hpl : (backTo pos (starEach es X.env)).any (·.1) = false := by rfl) :
    JE X W (.Call (.Name x p) (e :: es) [] pos) (mCall g ga) :=
  ⟨pe_imp (pe_callB hc hg mg hv ha.run hn hdb he hpl) fun σ H Q ⟨ρ, m, β, hE, hM, p⟩ => ⟨ρ, m, β, hE, hM, p.bind fun ds m1 vs H1 β1 _ e1 M1 V1 p1 => hm W σ ds m1 β1 H1 vs Q M1 V1 p1⟩⟩
theorem je_callTy {T : String} {r : List V → Hp → VK → Prop} {g : List MV → Mem → Re MV} {ga : MA} {x : Str} {p : Pos} {e : Expr} {es : List Expr} (hc : CallR X (.type T) r) (hm : CrM X r g) (mg : X.mg x = none) (hv : bootBuiltins x = some (.type T)) (ha : JA X W (e :: es) ga) (hg : Gl X x := by rfl)
    (hn : x ≠ "__name__" := by decide) (hdb : (x == ("__debug__" : Str)) = false := by decide) (he : starEach (e :: es) X.env = (false, eval e X.env) :: starEach es X.env := by rfl) (hpl : (backTo pos (starEach es X.env)).any (·.1) = false := by rfl) :
    JE X W (.Call (.Name x p) (e :: es) [] pos) (mCall g ga) :=
  ⟨pe_imp (pe_callTy hc hg mg hv ha.run hn hdb he hpl) fun σ H Q ⟨ρ, m, β, hE, hM, p⟩ => ⟨ρ, m, β, hE, hM, p.bind fun ds m1 vs H1 β1 _ e1 M1 V1 p1 => hm W σ ds m1 β1 H1 vs Q M1 V1 p1⟩⟩
/-- len -/
def lenM (m : Mem) : MV → Option Nat
  | .str z => if z.length ≤ sizeLine then some z.length else none
  | .ref n => match dctOf m (.ref n) with
    | some (_, l) => some l.length
    | none => (lstOf m (.ref n)).map List.length
  | d => (seqOf m d).map List.length
def gLen : List MV → Mem → Re MV
  | [d], m => match lenM m d with
    | some n => .ok (.int (n : Int)) m
    | none => .stuck
  | _, _ => .stuck
abbrev rLenA (K : PySem.W.Frag) : List V → Hp → VK → Prop := fun xs H Q => (∃ p ys, xs = [V.ref p] ∧ (SqL K H p ys ∨ SqT K H p ys) ∧ Q (V.int ys.length) H) ∨ (∃ z, xs = [V.str z] ∧ z.length ≤ sizeLine ∧ Q (V.int z.length) H) ∨ (∃ a kvs, xs = [V.ref a] ∧ H a = some (.dK kvs) ∧ Q (V.int kvs.length) H)
theorem cr_len : CallR X (.builtin "len") (rLenA X.K) := cr_or call_len_seq (cr_or call_len_str call_lenD)
theorem cm_len : CrM X (rLenA X.K) gLen := by
  intro W σ ds m β H vs Q M V p
  unfold gLen at p
  split at p
  · cases V with
    | cons h r =>
      cases r
      split at p
      · rename_i n e
        have p : Q (V.int (n : Int)) H := p.ok M (.int _)
        unfold lenM at e
        split at e
        · cases h
          split at e
          · rename_i q
            cases e
            exact .inr (.inl ⟨_, rfl, q, p⟩)
          · cases e
        · split at e
          · rename_i n' l e1
            cases e
            obtain ⟨a, vs, rfl, h1, h2, h3⟩ := M.dct h e1
            exact .inr (.inr ⟨a, vs, rfl, h2, by rw [← h3.length]; exact p⟩)
          · cases q : lstOf m (.ref ‹Nat›) with
            | none => rw [q] at e; cases e
            | some l =>
              rw [q] at e
              cases e
              obtain ⟨a, vs, rfl, h1, h2⟩ := M.lst h q
              exact .inl ⟨a, vs, rfl, .inl h1, by rw [← h2.length]; exact p⟩
        · obtain ⟨l, q, e2⟩ := Option.map_eq_some_iff.mp e
          subst e2
          obtain ⟨a, vs, rfl, h1, h2⟩ := M.seq h q
          exact .inl ⟨a, vs, rfl, h1, by rw [← h2.length]; exact p⟩
      · exact p.not_stuck
  · exact p.not_stuck
/-- int of an int, of a bool -/
def gInt : List MV → Mem → Re MV
  | [.int i], m => .ok (.int i) m
  | [.bl b], m => .ok (.int (if b = true then 1 else 0)) m
  | _, _ => .stuck
theorem cm_int : CrM X (fun xs H Q => (∃ i, xs = [V.int i] ∧ Q (V.int i) H) ∨ ∃ k, xs = [V.bl k] ∧ Q (V.int (if k = true then 1 else 0)) H) gInt := by
  intro W σ ds m β H vs Q M V p
  unfold gInt at p
  split at p
  · cases V with | cons h r => cases r; cases h; exact .inl ⟨_, rfl, p.ok M (.int _)⟩
  · cases V with | cons h r => cases r; cases h; exact .inr ⟨_, rfl, p.ok M (.int _)⟩
  · exact p.not_stuck
def gAbs : List MV → Mem → Re MV
  | [.int i], m => .ok (.int (if i < 0 then -i else i)) m
  | _, _ => .stuck
theorem cm_abs : CrM X (fun xs H Q => ∃ i, xs = [V.int i] ∧ Q (V.int (if i < 0 then -i else i)) H) gAbs := by
  intro W σ ds m β H vs Q M V p
  unfold gAbs at p
  split at p
  · cases V with | cons h r => cases r; cases h; exact ⟨_, rfl, p.ok M (.int _)⟩
  · exact p.not_stuck
/-- list(..), tuple(..) -/
def gList : List MV → Mem → Re MV
  | [d], m => match seqOf m d with
    | some l => alloc (.lst l) m
    | none => .stuck
  | _, _ => .stuck
theorem cm_list : CrM X (fun xs H Q => ∃ p ys, xs = [V.ref p] ∧ (SqL X.K H p ys ∨ SqT X.K H p ys) ∧ ∀ l, H l = none → Q (V.ref l) (upd H l (.lst ys))) gList := by
  intro W σ ds m β H vs Q M V p
  unfold gList at p
  split at p
  · cases V with
    | cons h r =>
      cases r
      split at p
      · rename_i l e
        obtain ⟨a, vs, rfl, h1, h2⟩ := M.seq h e
        exact ⟨a, vs, rfl, h1, fun q hq => p.alloc M hq ⟨_, upd_same, h2.ext M (Ext.push hq)⟩⟩
      · exact p.not_stuck
  · exact p.not_stuck
def gTuple : List MV → Mem → Re MV
  | [d], m => match seqOf m d with
    | some l => .ok (.tup l) m
    | none => .stuck
  | _, _ => .stuck
theorem cm_tuple : CrM X (fun xs H Q => ∃ p ys, xs = [V.ref p] ∧ ((SqL X.K H p ys ∧ ∀ l, H l = none → Q (V.ref l) (upd H l (.tup ys))) ∨ (SqT X.K H p ys ∧ Q (V.ref p) H))) gTuple := by
  intro W σ ds m β H vs Q M V p
  unfold gTuple at p
  split at p
  · cases V with
    | cons h r =>
      cases r
      split at p
      · rename_i l e
        obtain ⟨a, vs, rfl, h1, h2⟩ := M.seq h e
        rcases h1 with h1 | h1
        · exact ⟨a, vs, rfl, .inl ⟨h1, fun q hq => p.newtup M hq h2⟩⟩
        · exact ⟨a, vs, rfl, .inr ⟨h1, p.ok M (.tup h1 h2)⟩⟩
      · exact p.not_stuck
  · exact p.not_stuck
/-- ints alone, bools alone -/
def intsOf : List MV → Option (List Int)
  | [] => some []
  | .int i :: r => (intsOf r).map (i :: ·)
  | _ :: _ => none
def blsOf : List MV → Option (List Bool)
  | [] => some []
  | .bl i :: r => (blsOf r).map (i :: ·)
  | _ :: _ => none
def strsOf : List MV → Option (List Str)
  | [] => some []
  | .str i :: r => (strsOf r).map (i :: ·)
  | _ :: _ => none
theorem RVs.bls : ∀ {l : List MV} {vs : List V} {ns : List Bool}, RVs K β H l vs → blsOf l = some ns → vs = ns.map V.bl
  | [], _, _, .nil, h => by cases h; rfl
  | .bl i :: r, _, _, .cons (.bl _) q, h => by
    unfold blsOf at h
    cases e : blsOf r with
    | none => rw [e] at h; cases h
    | some ns => rw [e] at h; cases h; rw [RVs.bls q e]; rfl
theorem RVs.strs : ∀ {l : List MV} {vs : List V} {ns : List Str}, RVs K β H l vs → strsOf l = some ns → vs = ns.map V.str
  | [], _, _, .nil, h => by cases h; rfl
  | .str i :: r, _, _, .cons (.str _) q, h => by
    unfold strsOf at h
    cases e : strsOf r with
    | none => rw [e] at h; cases h
    | some ns => rw [e] at h; cases h; rw [RVs.strs q e]; rfl
def gSum : List MV → Mem → Re MV
  | [d], m => match (lstOf m d).bind intsOf with
    | some ns => .ok (.int ns.sum) m
    | none => .stuck
  | _, _ => .stuck
theorem lst_bls {d : MV} {ns : List Bool} (h : (lstOf m d).bind blsOf = some ns) : ∃ l, lstOf m d = some l ∧ blsOf l = some ns := by
  cases e : lstOf m d with
  | none => rw [e] at h; cases h
  | some l => rw [e] at h; exact ⟨l, rfl, h⟩
def gAll : List MV → Mem → Re MV
  | [d], m => match (lstOf m d).bind blsOf with
    | some bs => .ok (.bl (bs.all id)) m
    | none => .stuck
  | _, _ => .stuck
theorem cm_all : CrM X (rAll X.K) gAll := by
  intro W σ ds m β H vs Q M V p
  unfold gAll at p
  split at p
  · cases V with
    | cons h r =>
      cases r
      split at p
      · rename_i ns e
        obtain ⟨l, h1, h2⟩ := lst_bls e
        obtain ⟨a, vs, rfl, q1, q2⟩ := M.lst h h1
        exact ⟨a, ns, rfl, by rw [← q2.bls h2]; exact q1, p.ok M (.bl _)⟩
      · exact p.not_stuck
  · exact p.not_stuck
/-- the greatest -/
def maxL : List Int → Option Int
  | [] => none
  | a :: r => some (r.foldl (fun x y => if x < y then y else x) a)
def gMax : List MV → Mem → Re MV
  | [d], m => match ((lstOf m d).bind intsOf).bind maxL with
    | some k => .ok (.int k) m
    | none => .stuck
  | _, _ => .stuck
end
end MI
namespace MI
open PySem L2
variable [Nms]
section
variable {X : Cx} {W : WX} {pos : Pos} {K : PySem.W.Frag} {β : List Addr} {H : Hp} {m : Mem}
theorem pe_or' {e : Expr} {t t' : TE} (h : PE X e t) (h' : PE X e t') : PE X e (fun σ H Q => t σ H Q ∨ t' σ H Q) := ⟨fun pins s σ H Q I q => q.elim (h.run pins s σ H Q I) (h'.run pins s σ H Q I)⟩
theorem pt_or' {e : Expr} {t t' : TT} (h : PT X e t) (h' : PT X e t') : PT X e (fun σ H Q => t σ H Q ∨ t' σ H Q) := ⟨fun pins s σ H Q I q => q.elim (h.run pins s σ H Q I) (h'.run pins s σ H Q I)⟩
theorem ps_or' {e : Stmt} {t t' : TS} (h : PS X e t) (h' : PS X e t') : PS X e (fun D σ H => t D σ H ∨ t' D σ H) := ⟨fun pins s σ H D I q => q.elim (h.run pins s σ H D I) (h'.run pins s σ H D I)⟩
/-- one of two works, by what the small world says -/
theorem JE.or {e : Expr} {f f1 f2 : ME} (h1 : JE X W e f1) (h2 : JE X W e f2) (hh : ∀ ρ m, f ρ m = .stuck ∨ f ρ m = f1 ρ m ∨ f ρ m = f2 ρ m) : JE X W e f :=
  ⟨pe_imp (pe_or' h1.run h2.run) fun σ H Q ⟨ρ, m, β, hE, hM, p⟩ => by
    rcases hh ρ m with q | q | q
    · rw [q] at p; exact p.elim
    · rw [q] at p; exact .inl ⟨ρ, m, β, hE, hM, p⟩
    · rw [q] at p; exact .inr ⟨ρ, m, β, hE, hM, p⟩⟩
theorem JT.or {e : Expr} {f f1 f2 : MT} (h1 : JT X W e f1) (h2 : JT X W e f2) (hh : ∀ ρ m, f ρ m = .stuck ∨ f ρ m = f1 ρ m ∨ f ρ m = f2 ρ m) : JT X W e f :=
  ⟨pt_imp (pt_or' h1.run h2.run) fun σ H Q ⟨ρ, m, β, hE, hM, p⟩ => by
    rcases hh ρ m with q | q | q
    · rw [q] at p; exact p.elim
    · rw [q] at p; exact .inl ⟨ρ, m, β, hE, hM, p⟩
    · rw [q] at p; exact .inr ⟨ρ, m, β, hE, hM, p⟩⟩
theorem JS.or {e : Stmt} {f f1 f2 : MS} (h1 : JS X W e f1) (h2 : JS X W e f2) (hh : ∀ ρ m, f ρ m = .stuck ∨ f ρ m = f1 ρ m ∨ f ρ m = f2 ρ m) : JS X W e f :=
  ⟨ps_imp (ps_or' h1.run h2.run) fun D σ H ⟨ρ, m, β, hE, hM, p⟩ => by
    rcases hh ρ m with q | q | q
    · rw [q] at p; exact p.elim
    · rw [q] at p; exact .inl ⟨ρ, m, β, hE, hM, p⟩
    · rw [q] at p; exact .inr ⟨ρ, m, β, hE, hM, p⟩⟩
/-- an operation on two values, of which one of two serves -/
theorem mBin_or {g g1 g2 : MV → MV → Mem → Re MV} {fa fb : ME} (h : ∀ a b m, g a b m = g1 a b m ∨ g a b m = g2 a b m) (ρ : Env) (m : Mem) : mBin g fa fb ρ m = .stuck ∨ mBin g fa fb ρ m = mBin g1 fa fb ρ m ∨ mBin g fa fb ρ m = mBin g2 fa fb ρ m := by
  unfold mBin
  cases fa ρ m with
  | stuck => exact .inl rfl
  | ex x m1 => exact .inr (.inl rfl)
  | ok a m1 =>
    show ((fb ρ m1).bind fun b m2 => g a b m2) = .stuck ∨ ((fb ρ m1).bind fun b m2 => g a b m2) = ((fb ρ m1).bind fun b m2 => g1 a b m2) ∨ ((fb ρ m1).bind fun b m2 => g a b m2) = ((fb ρ m1).bind fun b m2 => g2 a b m2)
    cases fb ρ m1 with
    | stuck => exact .inl rfl
    | ex x m1 => exact .inr (.inl rfl)
    | ok b m2 =>
      rcases h a b m2 with q | q
      · exact .inr (.inl q)
      · exact .inr (.inr q)
/-- x[i]: a dict's, or of a list, a tuple, a text -/
def gItem (a b : MV) (m : Mem) : Re MV := match dctOf m a with
  | some _ => gDGet a b m
  | none => gIx a b m
theorem je_item {a b : Expr} {fa fb : ME} (hu : X.A.units + 1 < cLine) (ha : JE X W a fa) (hb : JE X W b fb) (hs : PlainIx b := by intro _ _; rfl) : JE X W (.Subscript a b pos) (mBin gItem fa fb) :=
  JE.or (je_dget hu ha hb hs) (je_ix ha hb hs) (mBin_or fun a b m => by
    unfold gItem
    cases dctOf m a with
    | none => exact .inr rfl
    | some q => exact .inl rfl)
def toV : MV → V
  | .non => .non
  | .bl b => .bl b
  | .int i => .int i
  | .str s => .str s
  | _ => .ref 0
def flat (d : MV) : Bool := match d with
  | .non => true
  | .bl _ => true
  | .int _ => true
  | .str _ => true
  | _ => false
theorem RV.flat {d : MV} {v : V} (h : RV K β H d v) (f : flat d = true) : v = toV d ∧ flatV v = true := by
  cases h with
  | non => exact ⟨rfl, rfl⟩
  | bl b => exact ⟨rfl, rfl⟩
  | int i => exact ⟨rfl, rfl⟩
  | str s => exact ⟨rfl, rfl⟩
  | tup _ _ => cases f
  | ref _ => cases f
  | kl _ _ => cases f
  | clo _ => cases f
theorem RVs.flat : ∀ {ds : List MV} {vs : List V}, RVs K β H ds vs → ds.all flat = true → vs = ds.map toV ∧ vs.all flatV = true
  | _, _, .nil, _ => ⟨rfl, rfl⟩
  | _, _, .cons h r, f => by
    rw [List.all_cons, Bool.and_eq_true] at f
    obtain ⟨e1, e2⟩ := h.flat f.1
    obtain ⟨e3, e4⟩ := RVs.flat r f.2
    exact ⟨by rw [e1, e3]; rfl, by rw [List.all_cons, e2, e4]; rfl⟩
/-- x in a list or a tuple of flat things -/
def gInF (neg : Bool) (a b : MV) (m : Mem) : Re MV := match seqOf m b with
  | some l => if flat a = true ∧ l.all flat = true then .ok (.bl (if neg then !inV (toV a) (l.map toV) else inV (toV a) (l.map toV))) m else .stuck
  | none => .stuck
theorem om_inF {neg : Bool} : OpM X (rIn X.K neg) (gInF neg) := by
  intro W σ d e m β H x y Q M rx ry p
  unfold gInF at p
  split at p
  · rename_i l hl
    split at p
    · rename_i hf
      obtain ⟨a, vs, rfl, hs, hr⟩ := M.seq ry hl
      obtain ⟨e1, e2⟩ := rx.flat hf.1
      obtain ⟨e3, e4⟩ := hr.flat hf.2
      exact ⟨a, vs, rfl, hs, e2, e4, by rw [e1, e3]; exact p.ok M (.bl _)⟩
    · exact p.not_stuck
  · exact p.not_stuck
/-- a sign in a text -/
def gInS (neg : Bool) (a b : MV) (m : Mem) : Re MV := match a, b with
  | .str z, .str y => match z.cps.toList with
    | [c] => .ok (.bl (if neg then !decide (c ∈ y.cps.toList) else decide (c ∈ y.cps.toList))) m
    | _ => .stuck
  | _, _ => .stuck
theorem om_inS : OpM X (fun x y H Q => ∃ (c : Nat) (z : Str), x = V.str ⟨#[c]⟩ ∧ y = V.str z ∧ Q (V.bl (decide (c ∈ z.cps.toList))) H) (gInS false) := by
  intro W σ d e m β H x y Q M rx ry p
  unfold gInS at p
  split at p
  · cases rx; cases ry
    split at p
    · rename_i c hc
      rename_i z y _
      refine ⟨c, y, ?_, rfl, p.ok M (.bl _)⟩
      cases z with
      | mk cps => simp at hc; rw [show cps = #[c] from by apply Array.toList_inj.mp; rw [hc]]
    · exact p.not_stuck
  · exact p.not_stuck
theorem om_ninS : OpM X (fun x y H Q => ∃ (c : Nat) (z : Str), x = V.str ⟨#[c]⟩ ∧ y = V.str z ∧ Q (V.bl (!decide (c ∈ z.cps.toList))) H) (gInS true) := by
  intro W σ d e m β H x y Q M rx ry p
  unfold gInS at p
  split at p
  · cases rx; cases ry
    split at p
    · rename_i c hc
      rename_i z y _
      refine ⟨c, y, ?_, rfl, p.ok M (.bl _)⟩
      cases z with
      | mk cps => simp at hc; rw [show cps = #[c] from by apply Array.toList_inj.mp; rw [hc]]
    · exact p.not_stuck
  · exact p.not_stuck
/-- data in a list -/
def gInD (neg : Bool) (a b : MV) (m : Mem) : Re MV := match dat m fuel a, dat m fuel b with
  | some d, some (.list ds) => if SeqAt.shaped d = true ∧ SeqAt.shaped (.list ds) = true then .ok (.bl (if neg then !ds.any (fun z => PyData.eqv z d) else ds.any (fun z => PyData.eqv z d))) m else .stuck
  | _, _ => .stuck
theorem om_inD : OpM X (rInD X.K) (gInD false) := by
  intro W σ d e m β H x y Q M rx ry p
  unfold gInD at p
  split at p
  · rename_i a b e1 e2
    split at p
    · rename_i h
      exact ⟨a, b, M.dat1 rx e1, M.dat1 ry e2, h.1, h.2, p.ok M (.bl _)⟩
    · exact p.not_stuck
  · exact p.not_stuck
theorem om_ninD : OpM X (rNotInD X.K) (gInD true) := by
  intro W σ d e m β H x y Q M rx ry p
  unfold gInD at p
  split at p
  · rename_i a b e1 e2
    split at p
    · rename_i h
      exact ⟨a, b, M.dat1 rx e1, M.dat1 ry e2, h.1, h.2, p.ok M (.bl _)⟩
    · exact p.not_stuck
  · exact p.not_stuck
open Classical in
noncomputable def gInA (neg : Bool) (a b : MV) (m : Mem) : Re MV :=
  if (∃ z, b = .str z) then gInS neg a b m else if (dctOf m b).isSome = true then gDIn neg a b m else if (∃ l, seqOf m b = some l ∧ flat a = true ∧ l.all flat = true) then gInF neg a b m else gInD neg a b m
theorem je_in {a b : Expr} {fa fb : ME} (hu : X.A.units + 1 < cLine) (hu2 : X.A.units + 65 < cLine) (ha : JE X W a fa) (hb : JE X W b fb) (hk : behindInMarks .In b = false := by rfl) : JE X W (.Compare a [.In] [b] pos) (mBin (gInA false) fa fb) := by
  have j1 : JE X W (.Compare a [.In] [b] pos) (mBin (gInS false) fa fb) := j_cmp op_in_sign om_inS ha hb hk
  have j2 : JE X W (.Compare a [.In] [b] pos) (mBin (gDIn false) fa fb) := je_din hu ha hb hk
  have j3 : JE X W (.Compare a [.In] [b] pos) (mBin (gInF false) fa fb) := j_cmp op_in_seq om_inF ha hb hk
  have j4 : JE X W (.Compare a [.In] [b] pos) (mBin (gInD false) fa fb) := j_cmp (op_inD hu2) om_inD ha hb hk
  classical
  have j34 : JE X W (.Compare a [.In] [b] pos) (mBin (fun a b m => if (∃ l, seqOf m b = some l ∧ flat a = true ∧ l.all flat = true) then gInF false a b m else gInD false a b m) fa fb) := JE.or j3 j4 (mBin_or fun a b m => by split <;> simp)
  have j234 : JE X W (.Compare a [.In] [b] pos) (mBin (fun a b m => if (dctOf m b).isSome = true then gDIn false a b m else if (∃ l, seqOf m b = some l ∧ flat a = true ∧ l.all flat = true) then gInF false a b m else gInD false a b m) fa fb) := JE.or j2 j34 (mBin_or fun a b m => by
    by_cases q : (dctOf m b).isSome = true
    · exact .inl (if_pos q)
    · exact .inr (if_neg q))
  exact JE.or j1 j234 (mBin_or fun a b m => by
    unfold gInA
    by_cases q : ∃ z, b = .str z
    · exact .inl (if_pos q)
    · exact .inr (if_neg q))
theorem je_nin {a b : Expr} {fa fb : ME} (hu : X.A.units + 1 < cLine) (hu2 : X.A.units + 65 < cLine) (ha : JE X W a fa) (hb : JE X W b fb) (hk : behindInMarks .NotIn b = false := by rfl) : JE X W (.Compare a [.NotIn] [b] pos) (mBin (gInA true) fa fb) := by
  have j1 : JE X W (.Compare a [.NotIn] [b] pos) (mBin (gInS true) fa fb) := j_cmp op_notIn_sign om_ninS ha hb hk
  have j2 : JE X W (.Compare a [.NotIn] [b] pos) (mBin (gDIn true) fa fb) := je_dnotin hu ha hb hk
  have j3 : JE X W (.Compare a [.NotIn] [b] pos) (mBin (gInF true) fa fb) := j_cmp op_notIn_seq om_inF ha hb hk
  have j4 : JE X W (.Compare a [.NotIn] [b] pos) (mBin (gInD true) fa fb) := j_cmp (op_notInD hu2) om_ninD ha hb hk
  classical
  have j34 : JE X W (.Compare a [.NotIn] [b] pos) (mBin (fun a b m => if (∃ l, seqOf m b = some l ∧ flat a = true ∧ l.all flat = true) then gInF true a b m else gInD true a b m) fa fb) := JE.or j3 j4 (mBin_or fun a b m => by split <;> simp)
  have j234 : JE X W (.Compare a [.NotIn] [b] pos) (mBin (fun a b m => if (dctOf m b).isSome = true then gDIn true a b m else if (∃ l, seqOf m b = some l ∧ flat a = true ∧ l.all flat = true) then gInF true a b m else gInD true a b m) fa fb) := JE.or j2 j34 (mBin_or fun a b m => by
    by_cases q : (dctOf m b).isSome = true
    · exact .inl (if_pos q)
    · exact .inr (if_neg q))
  exact JE.or j1 j234 (mBin_or fun a b m => by
    unfold gInA
    by_cases q : ∃ z, b = .str z
    · exact .inl (if_pos q)
    · exact .inr (if_neg q))
def MtMm (X : Cx) (r : V → List V → Hp → VK → Prop) (g : MV → List MV → Mem → Re MV) : Prop := ∀ (W : WX) (σ : L2.St) (d : MV) (ds : List MV) (m : Mem) (β : List Addr) (H : Hp) (x : V) (vs : List V) (Q : VK), RM X.K β H m → RV X.K β H d x → RVs X.K β H ds vs →
  Post X W (g d ds m) β H σ (fun β' H' d v => RV X.K β' H' d v) Q → r x vs H Q
def mBM (g : MV → List MV → Mem → Re MV) (fo : ME) (ga : MA) : ME := fun ρ m => (fo ρ m).bind fun d m1 => if (lstOf m1 d).isSome = true then (ga ρ m1).bind fun ds m2 => g d ds m2 else .stuck
theorem je_bmL {o e : Expr} {es : List Expr} {fo : ME} {ga : MA} {name : Str} {apos : Pos} {id : String} {r : V → List V → Hp → VK → Prop} {g : MV → List MV → Mem → Re MV} (slot : Slot "list" name id) (hty : typeOf (.builtin id) = pure (.type "method_descriptor")) (hm : MtR X id r) (hg : MtMm X r g) (ho : JE X W o fo) (ha : JA X W (e :: es) ga)
    (h1 : attributeBase o name X.env (eval o X.env) = eval o X.env := by rfl) (h2 : (((((backTo pos (starEach (e :: es) X.env)).all fun x => !x.fst) && (backToKw pos (keywordEach [] X.env)).all fun x => x.fst.isSome) && decide (((e :: es).length + ([] : List Keyword).length + if ([] : List Keyword).isEmpty = true then 0 else 1) < 30)) = true) := by rfl) (h3 : (apos.endLine == pos.line) = true := by rfl)
    (h4 : starEach (e :: es) X.env = (false, eval e X.env) :: starEach es X.env := by rfl) (h5 : (backTo pos (starEach es X.env)).any (·.1) = false := by rfl) : JE X W (.Call (.Attribute o name apos) (e :: es) [] pos) (mBM g fo ga) :=
  ⟨pe_imp (pe_bm PySem.F.plainAttrs_list slot hty hm ho.run ha.run h1 h2 h3 h4 h5) fun σ H Q ⟨ρ, m, β, hE, hM, p⟩ => ⟨ρ, m, β, hE, hM, p.bind fun d m1 x H1 β1 _ e1 M1 V1 p1 => by
    split at p1
    · rename_i q
      obtain ⟨l, hl⟩ := Option.isSome_iff_exists.mp q
      obtain ⟨a, vs, rfl, hs, _⟩ := M1.lst V1 hl
      exact ⟨.inl ⟨rfl, vs, hs⟩, ρ, m1, β1, hE.ext hM e1, M1, p1.bind fun ds m2 us H2 β2 _ e2 M2 V2 p2 => hg W σ d ds m2 β2 H2 _ us Q M2 (V1.ext M1 e2) V2 p2⟩
    · exact p1.not_stuck⟩⟩
def gAppend (d : MV) (ds : List MV) (m : Mem) : Re MV := match ds with
  | [e] => match mutOf m d with
    | some (n, l) => if l.length < sizeLine then .ok .non (m.set n (.lst (l ++ [e]))) else .stuck
    | none => .stuck
  | _ => .stuck
theorem mm_append : MtMm X rAppend gAppend := by
  intro W σ d ds m β H x vs Q M rx rv p
  unfold gAppend at p
  split at p
  · cases rv with
    | @cons _ y _ _ h r =>
      cases r
      split at p
      · rename_i n l e
        split at p
        · rename_i hl
          obtain ⟨a, us, rfl, hb, hH, hr⟩ := M.mut rx e
          have eE : Ext β H β (upd H a (.lst (us ++ [y]))) := Ext.wr (List.mem_of_getElem? hb)
          exact ⟨a, us, _, rfl, rfl, hH, by rw [← hr.length]; exact hl, p .non _ β eE (M.wr hb ⟨_, upd_same, (hr.app (.cons h .nil)).ext M eE⟩) .non⟩
        · exact p.not_stuck
      · exact p.not_stuck
  · exact p.not_stuck
def gExtend (d : MV) (ds : List MV) (m : Mem) : Re MV := match ds with
  | [e] => match mutOf m d, mutOf m e with
    | some (n, l), some (_, k) => if l.length + k.length ≤ sizeLine then .ok .non (m.set n (.lst (l ++ k))) else .stuck
    | _, _ => .stuck
  | _ => .stuck
theorem RVs.dropLast : ∀ {ds : List MV} {vs : List V}, RVs K β H ds vs → RVs K β H ds.dropLast vs.dropLast := fun {ds vs} h => by
  rw [List.dropLast_eq_take, List.dropLast_eq_take, ← h.length]
  exact h.take _
def gPop (d : MV) (ds : List MV) (m : Mem) : Re MV := match ds with
  | [] => match mutOf m d with
    | some (n, l) => match l[l.length - 1]? with
      | some e => .ok e (m.set n (.lst l.dropLast))
      | none => .stuck
    | none => .stuck
  | _ => .stuck
theorem jg_subL {o i : Expr} {fo fi : ME} (ho : JE X W0 o fo) (hi : JE X W0 i fi)
    (ha : ∀ v, assign (.Subscript o i pos) X.env v = (do
      let ov ← holding [v] (eval o X.env)
      let iv ← holding [v, ov] (eval i X.env)
      standAt pos
      holding [v, ov, iv] (setItem ov iv v)
      release [v, ov, iv] []) := by intro _; rfl) : JG X (.Subscript o i pos) (nSubL fo fi) :=
  ⟨pg_imp (pg_sub ho.run hi.run set_list ha) fun v σ H Q ⟨d, ρ, m, β, V, hE, hM, p⟩ => by
    refine ⟨ρ, m, β, hE, hM, ?_⟩
    unfold nSubL at p
    cases e1 : fo ρ m with
    | stuck => rw [e1] at p; exact p.elim
    | ex x m1 => rw [e1] at p; exact p.elim
    | ok od m1 =>
      rw [e1] at p
      dsimp only at p
      intro ov H1 β1 x1 M1 V1
      refine ⟨ρ, m1, β1, hE.ext hM x1, M1, ?_⟩
      cases e2 : fi ρ m1 with
      | stuck => rw [e2] at p; exact p.elim
      | ex x m1 => rw [e2] at p; exact p.elim
      | ok id m2 =>
        rw [e2] at p
        intro iv H2 β2 x2 M2 V2
        cases id with
        | int k =>
          dsimp only at p
          cases V2
          cases e3 : mutOf m2 od with
          | none => rw [e3] at p; exact p.elim
          | some nl =>
            obtain ⟨n, l⟩ := nl
            rw [e3] at p
            dsimp only at p
            obtain ⟨a, us, rfl, hb, hH, hr⟩ := M2.mut (V1.ext M1 x2) e3
            cases e4 : ixN l.length k with
            | none => rw [e4] at p; exact p.elim
            | some j =>
              rw [e4] at p
              have eE : Ext β2 H2 β2 (upd H2 a (.lst (us.set j v))) := Ext.wr (List.mem_of_getElem? hb)
              refine ⟨a, us, k, j, rfl, rfl, hH, by rw [← hr.length]; exact e4, p σ _ β2 ((x1.trans x2).trans eE) (M2.wr hb ⟨_, upd_same, (hr.set j ((V.ext hM x1).ext M1 x2)).ext M2 eE⟩) (((hE.ext hM x1).ext M1 x2).ext M2 eE)⟩
        | _ => exact p.elim⟩
/-- d[k] = v in a dict -/
def mDPut (fd fk fv : ME) : MS := fun ρ m => onE ρ (fv ρ m) fun v m1 => onE ρ (fd ρ m1) fun d m2 => onE ρ (fk ρ m2) fun k m3 => match dctOf m3 d, keyOf k with
  | some (n, l), some q => if l.length < sizeLine then .ok (.nx ρ) (m3.set n (.dct (putM l q v))) else .stuck
  | _, _ => .stuck
theorem js_dput {o i value : Expr} {pos' : Pos} {fo fi fv : ME} (hu : X.A.units + 1 < cLine) (ho : JE X W o fo) (hi : JE X W i fi) (hv : JE X W value fv) (hs : swapsWith value (some (.Subscript o i pos')) pos.line X.env = pure false := by rfl) : JS X W (.Assign [.Subscript o i pos'] value pos) (mDPut fo fi fv) :=
  ⟨ps_imp (ps_dput hu ho.run hi.run hv.run hs) fun D σ H ⟨ρ, m, β, hE, hM, p⟩ => ⟨ρ, m, β, hE, hM, PostS.on (D := D) (R := fun β' H' d v => RV X.K β' H' d v) hE hM p fun d1 m1 v1 H1 β1 _ e1 M1 V1 p1 => ⟨ρ, m1, β1, hE.ext hM e1, M1, PostS.on (D := D) (R := fun β' H' d v => RV X.K β' H' d v) (hE.ext hM e1) M1 p1 fun d2 m2 v2 H2 β2 _ e2 M2 V2 p2 => ⟨ρ, m2, β2, (hE.ext hM e1).ext M1 e2, M2,
    PostS.on (D := D) (R := fun β' H' d v => RV X.K β' H' d v) ((hE.ext hM e1).ext M1 e2) M2 p2 fun d3 m3 v3 H3 β3 _ e3 M3 V3 p3 => by
      split at p3
      · rename_i n l q h1 h2
        split at p3
        · rename_i hl
          obtain ⟨a, us, rfl, hb, hH, hr⟩ := M3.dct (V2.ext M2 e3) h1
          have hk := keyOf_some V3 h2
          subst hk
          have eE : Ext β3 H3 β3 (upd H3 a (.dK (putK us q v1))) := Ext.wr (List.mem_of_getElem? hb)
          exact ⟨a, _, rfl, .inl ⟨us, q, hH, rfl, by rw [← hr.length]; exact hl, rfl⟩, p3 σ _ β3 eE (M3.wr hb ⟨_, upd_same, (hr.put ((V1.ext M1 e2).ext M2 e3)).ext M3 eE⟩) ((((hE.ext hM e1).ext M1 e2).ext M2 e3).ext M3 eE)⟩
        · exact p3.elim
      · exact p3.elim⟩⟩⟩⟩
end
end MI
namespace MI
open PySem L2
variable [Nms]
section
variable {X : Cx} {W : WX} {pos : Pos} {K : PySem.W.Frag} {β : List Addr} {H : Hp} {m : Mem}
theorem OpM.or {r1 r2 : R2} {g g1 g2 : MV → MV → Mem → Re MV} (h1 : OpM X r1 g1) (h2 : OpM X r2 g2) (h : ∀ a b m, g a b m = .stuck ∨ g a b m = g1 a b m ∨ g a b m = g2 a b m) : OpM X (fun x y H Q => r1 x y H Q ∨ r2 x y H Q) g := by
  intro W σ d e m β H x y Q M rx ry p
  rcases h d e m with q | q | q
  · rw [q] at p; exact p.elim
  · rw [q] at p; exact .inl (h1 W σ d e m β H x y Q M rx ry p)
  · rw [q] at p; exact .inr (h2 W σ d e m β H x y Q M rx ry p)
/-- equal scalars -/
def eqS : MV → MV → Option Bool
  | .non, .non => some true
  | .non, .int _ => some false
  | .int _, .non => some false
  | .non, .bl _ => some false
  | .bl _, .non => some false
  | .non, .str _ => some false
  | .str _, .non => some false
  | .int i, .int j => some (decide (i = j))
  | .bl i, .bl j => some (decide (i = j))
  | .str i, .str j => some (decide (i = j))
  | .int _, .str _ => some false
  | .str _, .int _ => some false
  | .bl _, .str _ => some false
  | .str _, .bl _ => some false
  | _, _ => none
def gEqS (neg : Bool) (a b : MV) (m : Mem) : Re MV := match eqS a b with
  | some k => .ok (.bl (if neg then !k else k)) m
  | none => .stuck
theorem eqS_scal {a b : MV} {k : Bool} {x y : V} (h : eqS a b = some k) (rx : RV K β H a x) (ry : RV K β H b y) : scal x y = true ∧ decide (x = y) = k := by
  cases rx <;> cases ry <;> first | (cases h; exact ⟨rfl, by simp⟩) | (cases h)
theorem om_eqS : OpM X rEq (gEqS false) := by
  intro W σ d e m β H x y Q M rx ry p
  unfold gEqS at p
  split at p
  · rename_i k hk
    obtain ⟨h1, h2⟩ := eqS_scal hk rx ry
    exact ⟨h1, by rw [h2]; exact p.ok M (.bl _)⟩
  · exact p.not_stuck
theorem om_neS : OpM X rNe (gEqS true) := by
  intro W σ d e m β H x y Q M rx ry p
  unfold gEqS at p
  split at p
  · rename_i k hk
    obtain ⟨h1, h2⟩ := eqS_scal hk rx ry
    exact ⟨h1, by rw [h2]; exact p.ok M (.bl _)⟩
  · exact p.not_stuck
def gEqA (neg : Bool) (a b : MV) (m : Mem) : Re MV := match eqS a b with
  | some _ => gEqS neg a b m
  | none => gEq neg a b m
abbrev rEqAll (K : PySem.W.Frag) : R2 := fun x y H Q => rEq x y H Q ∨ rEqD K x y H Q
abbrev rNeAll (K : PySem.W.Frag) : R2 := fun x y H Q => rNe x y H Q ∨ rNeD K x y H Q
theorem om_eqA : OpM X (rEqAll X.K) (gEqA false) := om_eqS.or om_eq fun a b m => by
  unfold gEqA
  cases eqS a b with
  | none => exact .inr (.inr rfl)
  | some k => exact .inr (.inl rfl)
theorem om_neA : OpM X (rNeAll X.K) (gEqA true) := om_neS.or om_ne fun a b m => by
  unfold gEqA
  cases eqS a b with
  | none => exact .inr (.inr rfl)
  | some k => exact .inr (.inl rfl)
theorem op_eqA (hu : X.A.units + 64 < cLine) : OpR X (compareOp .Eq) (rEqAll X.K) := OpR.or op_eq (op_eqD hu)
theorem op_neA (hu : X.A.units + 64 < cLine) : OpR X (compareOp .NotEq) (rNeAll X.K) := OpR.or op_ne (op_neD hu)
theorem hu1 {k : Nat} (hr : Room k X.A) : X.A.units + 1 < cLine := hu_of hr
theorem hu64 {k : Nat} (hr : Room k X.A) : X.A.units + 64 < cLine := by have := hr.un; omega
theorem hu65 {k : Nat} (hr : Room k X.A) : X.A.units + 65 < cLine := by have := hr.un; omega
theorem mB_or {g g1 g2 : MV → MV → Mem → Re MV} {fa fb : ME} (h : ∀ a b m, g a b m = g1 a b m ∨ g a b m = g2 a b m) (ρ : Env) (m : Mem) : mB (mBin g fa fb) ρ m = .stuck ∨ mB (mBin g fa fb) ρ m = mB (mBin g1 fa fb) ρ m ∨ mB (mBin g fa fb) ρ m = mB (mBin g2 fa fb) ρ m := by
  unfold mB
  rcases mBin_or (fa := fa) (fb := fb) h ρ m with q | q | q
  · rw [q]; exact .inl rfl
  · rw [q]; exact .inr (.inl rfl)
  · rw [q]; exact .inr (.inr rfl)
theorem jt_of {op : CmpOp} {a b : Expr} {t : TE} {f : ME} (h : PC X op a b t) (hk : behindInMarks op b = false) (i : ∀ σ H (Q : VK), tE X W f σ H Q → t σ H Q) : JT X W (.Compare a [op] [b] pos) (mB f) :=
  ⟨pt_imp (pt_cmp h hk) fun σ H Q ⟨ρ, m, β, hE, hM, p⟩ => i σ H _ ⟨ρ, m, β, hE, hM, by
    unfold mB at p
    exact p.bind fun d m1 x H1 β1 _ e1 M1 V1 p1 => by
      split at p1
      · cases V1; exact ⟨_, rfl, p1.ok M1 rfl⟩
      · exact p1.not_stuck⟩⟩
theorem tdin {neg : Bool} {fa fb : ME} {σ : L2.St} {H : Hp} {Q : VK} (h : tE X W (mBin (gDIn neg) fa fb) σ H Q) : (fun σ H (Q : VK) => tE X W fa σ H fun y H1 => tE X W fb σ H1 fun x H2 => ∃ a o, x = V.ref a ∧ DGet H2 a y o ∧ Q (.bl (if neg then !o.isSome else o.isSome)) H2) σ H Q := by
  obtain ⟨ρ, m, β, hE, hM, p⟩ := h
  exact ⟨ρ, m, β, hE, hM, p.bind fun d m1 x H1 β1 _ e1 M1 V1 p1 => ⟨ρ, m1, β1, hE.ext hM e1, M1, p1.bind fun d2 m2 y H2 β2 _ e2 M2 V2 p2 => by
    unfold gDIn at p2
    split at p2
    · rename_i n l q h1 h2
      obtain ⟨a, vs, rfl, hb, hH, hr⟩ := M2.dct V2 h1
      have hy := keyOf_some (V1.ext M1 e2) h2
      subst hy
      exact ⟨a, valV vs q, rfl, .inl ⟨vs, q, .inl hH, rfl, rfl⟩, p2.ok M2 (by rw [hr.isSome]; exact .bl _)⟩
    · exact p2.not_stuck⟩⟩
theorem jt_in {a b : Expr} {fa fb : ME} (hu : X.A.units + 1 < cLine) (hu2 : X.A.units + 65 < cLine) (ha : JE X W a fa) (hb : JE X W b fb) (hk : behindInMarks .In b = false := by rfl) : JT X W (.Compare a [.In] [b] pos) (mB (mBin (gInA false) fa fb)) := by
  have j1 : JT X W (.Compare a [.In] [b] pos) (mB (mBin (gInS false) fa fb)) := jt_cmp op_in_sign om_inS ha hb hk
  have j2 : JT X W (.Compare a [.In] [b] pos) (mB (mBin (gDIn false) fa fb)) := jt_of (pc_din hu ha.run hb.run) hk fun σ H Q h => tdin h
  have j3 : JT X W (.Compare a [.In] [b] pos) (mB (mBin (gInF false) fa fb)) := jt_cmp op_in_seq om_inF ha hb hk
  have j4 : JT X W (.Compare a [.In] [b] pos) (mB (mBin (gInD false) fa fb)) := jt_cmp (op_inD hu2) om_inD ha hb hk
  classical
  have j34 : JT X W (.Compare a [.In] [b] pos) (mB (mBin (fun a b m => if (∃ l, seqOf m b = some l ∧ flat a = true ∧ l.all flat = true) then gInF false a b m else gInD false a b m) fa fb)) := JT.or j3 j4 (mB_or fun a b m => by split <;> simp)
  have j234 : JT X W (.Compare a [.In] [b] pos) (mB (mBin (fun a b m => if (dctOf m b).isSome = true then gDIn false a b m else if (∃ l, seqOf m b = some l ∧ flat a = true ∧ l.all flat = true) then gInF false a b m else gInD false a b m) fa fb)) := JT.or j2 j34 (mB_or fun a b m => by
    by_cases q : (dctOf m b).isSome = true
    · exact .inl (if_pos q)
    · exact .inr (if_neg q))
  exact JT.or j1 j234 (mB_or fun a b m => by
    unfold gInA
    by_cases q : ∃ z, b = .str z
    · exact .inl (if_pos q)
    · exact .inr (if_neg q))
theorem jt_nin {a b : Expr} {fa fb : ME} (hu : X.A.units + 1 < cLine) (hu2 : X.A.units + 65 < cLine) (ha : JE X W a fa) (hb : JE X W b fb) (hk : behindInMarks .NotIn b = false := by rfl) : JT X W (.Compare a [.NotIn] [b] pos) (mB (mBin (gInA true) fa fb)) := by
  have j1 : JT X W (.Compare a [.NotIn] [b] pos) (mB (mBin (gInS true) fa fb)) := jt_cmp op_notIn_sign om_ninS ha hb hk
  have j2 : JT X W (.Compare a [.NotIn] [b] pos) (mB (mBin (gDIn true) fa fb)) := jt_of (pc_dnotin hu ha.run hb.run) hk fun σ H Q h => tdin h
  have j3 : JT X W (.Compare a [.NotIn] [b] pos) (mB (mBin (gInF true) fa fb)) := jt_cmp op_notIn_seq om_inF ha hb hk
  have j4 : JT X W (.Compare a [.NotIn] [b] pos) (mB (mBin (gInD true) fa fb)) := jt_cmp (op_notInD hu2) om_ninD ha hb hk
  classical
  have j34 : JT X W (.Compare a [.NotIn] [b] pos) (mB (mBin (fun a b m => if (∃ l, seqOf m b = some l ∧ flat a = true ∧ l.all flat = true) then gInF true a b m else gInD true a b m) fa fb)) := JT.or j3 j4 (mB_or fun a b m => by split <;> simp)
  have j234 : JT X W (.Compare a [.NotIn] [b] pos) (mB (mBin (fun a b m => if (dctOf m b).isSome = true then gDIn true a b m else if (∃ l, seqOf m b = some l ∧ flat a = true ∧ l.all flat = true) then gInF true a b m else gInD true a b m) fa fb)) := JT.or j2 j34 (mB_or fun a b m => by
    by_cases q : (dctOf m b).isSome = true
    · exact .inl (if_pos q)
    · exact .inr (if_neg q))
  exact JT.or j1 j234 (mB_or fun a b m => by
    unfold gInA
    by_cases q : ∃ z, b = .str z
    · exact .inl (if_pos q)
    · exact .inr (if_neg q))
def mStore (fo fi fv : ME) : MS := fun ρ m => onE ρ (fv ρ m) fun v m1 => onE ρ (fo ρ m1) fun d m2 => match dctOf m2 d with
  | some _ => onE ρ (fi ρ m2) fun k m3 => match dctOf m3 d, keyOf k with
    | some (n, l), some q => if l.length < sizeLine then .ok (.nx ρ) (m3.set n (.dct (putM l q v))) else .stuck
    | _, _ => .stuck
  | none => match fi ρ m2 with
    | .ok (.int k) m3 => match mutOf m3 d with
      | some (n, l) => match ixN l.length k with
        | some j => .ok (.nx ρ) (m3.set n (.lst (l.set j v)))
        | none => .stuck
      | none => .stuck
    | _ => .stuck
theorem js_store {o i value : Expr} {pos' : Pos} {fo fi fv : ME} (hu : X.A.units + 1 < cLine) (ho : JE X W o fo) (hi : JE X W i fi) (ho0 : JE X W0 o fo) (hi0 : JE X W0 i fi) (hv : JE X W value fv)
    (hs : swapsWith value (some (.Subscript o i pos')) pos.line X.env = pure false := by rfl) (hs1 : swapsWithSole [.Subscript o i pos'] value pos.line X.env = pure false := by rfl) (hw : swappedStores [.Subscript o i pos'] value X.env = pure none := by rfl)
    (h1 : (assignEach [.Subscript o i pos'] X.env).map (·.2) = [assign (.Subscript o i pos') X.env] := by rfl)
    (ha : ∀ v, assign (.Subscript o i pos') X.env v = (do
      let ov ← holding [v] (eval o X.env)
      let iv ← holding [v, ov] (eval i X.env)
      standAt pos'
      holding [v, ov, iv] (setItem ov iv v)
      release [v, ov, iv] []) := by intro _; rfl) : JS X W (.Assign [.Subscript o i pos'] value pos) (mStore fo fi fv) := by
  have j1 : JS X W (.Assign [.Subscript o i pos'] value pos) (mDPut fo fi fv) := js_dput hu ho hi hv hs
  have j2 : JS X W (.Assign [.Subscript o i pos'] value pos) (mAsg fv (nSubL fo fi)) := js_asg hv (jg_subL ho0 hi0 ha) hs1 hw h1
  refine JS.or j1 j2 fun ρ m => ?_
  unfold mStore mDPut mAsg nSubL
  cases fv ρ m with
  | stuck => exact .inl rfl
  | ex x m1 => exact .inr (.inl rfl)
  | ok v m1 =>
    dsimp only [onE]
    cases fo ρ m1 with
    | stuck => exact .inl rfl
    | ex x m2 => exact .inr (.inl rfl)
    | ok d m2 =>
      dsimp only
      cases hd : dctOf m2 d with
      | some q => exact .inr (.inl rfl)
      | none =>
        dsimp only
        cases fi ρ m2 with
        | stuck => exact .inl rfl
        | ex x m3 => exact .inl rfl
        | ok k m3 =>
          cases k with
          | int k =>
            dsimp only
            cases mutOf m3 d with
            | none => exact .inl rfl
            | some nl =>
              obtain ⟨n, l⟩ := nl
              dsimp only
              cases ixN l.length k with
              | none => exact .inl rfl
              | some j => exact .inr (.inr rfl)
          | _ => exact .inl rfl
def mAug (i : Nat) (g : MV → MV → Mem → Re MV) (f : ME) : MS := fun ρ m => match ρ[i]? with
  | some (some d) => onE ρ (f ρ m) fun e m1 => onE ρ (g d e m1) fun r m2 => .ok (.nx (ρ.set i (some r))) m2
  | _ => .stuck
end
end MI
namespace MI
open PySem L2
variable [Nms]
section
variable {X : Cx} {W : WX} {pos : Pos} {K : PySem.W.Frag} {β : List Addr} {H : Hp} {m : Mem}
abbrev gSub := gI0 fun i j => MV.int (i - j)
abbrev gMod := gII (fun _ j => 0 < j) fun i j => MV.int (i % j)
abbrev gDiv := gII CDivW fun i j => MV.int (i / j)
abbrev gPow := gII CPowW fun i j => MV.int (i ^ j.toNat)
abbrev gLt := gI0 fun i j => MV.bl (decide (i < j))
abbrev gGt := gI0 fun i j => MV.bl (decide (j < i))
abbrev gGe := gI0 fun i j => MV.bl (decide (j ≤ i))
/-- -x -/
def mNeg (f : ME) : ME := fun ρ m => (f ρ m).bind fun d m1 => match d with
  | .int i => .ok (.int (-i)) m1
  | _ => .stuck
theorem je_neg {a : Expr} {f : ME} (ha : JE X W a f) : JE X W (.UnaryOp .USub a pos) (mNeg f) :=
  ⟨pe_imp (pe_un un_neg ha.run) fun σ H Q ⟨ρ, m, β, hE, hM, p⟩ => ⟨ρ, m, β, hE, hM, p.bind fun d m1 x H1 β1 _ e1 M1 V1 p1 => by
    split at p1
    · cases V1; exact ⟨_, rfl, p1.ok M1 (.int _)⟩
    · exact p1.not_stuck⟩⟩
/-- a < b < c -/
def mChain (g g' : MV → MV → Mem → Re MV) (fa fb fc : ME) : ME := fun ρ m => (fa ρ m).bind fun a m1 => (fb ρ m1).bind fun b m2 => (g a b m2).bind fun r m3 => match r with
  | .bl true => (fc ρ m3).bind fun c m4 => g' b c m4
  | .bl false => .ok (.bl false) m3
  | _ => .stuck
theorem t_chain {r r' : R2} {g g' : MV → MV → Mem → Re MV} {fa fb fc : ME} (hm : OpM X r g) (hm' : OpM X r' g') {σ : L2.St} {H : Hp} {Q : VK} (h : tE X W (mChain g g' fa fb fc) σ H Q) : tChain r r' (tE X W fa) (tE X W fb) (tE X W fc) σ H Q := by
  obtain ⟨ρ, m, β, hE, hM, p⟩ := h
  refine ⟨ρ, m, β, hE, hM, p.bind fun d m1 x H1 β1 _ e1 M1 V1 p1 => ⟨ρ, m1, β1, hE.ext hM e1, M1, p1.bind fun d2 m2 y H2 β2 _ e2 M2 V2 p2 => hm W σ d d2 m2 β2 H2 x y _ M2 (V1.ext M1 e2) V2 (p2.bind fun d3 m3 z H3 β3 _ e3 M3 V3 p3 => ?_)⟩⟩
  split at p3
  · cases V3
    exact ⟨true, rfl, by rw [if_pos rfl]; exact ⟨ρ, m3, β3, ((hE.ext hM e1).ext M1 e2).ext M2 e3, M3, p3.bind fun d4 m4 u H4 β4 _ e4 M4 V4 p4 => hm' W σ d2 d4 m4 β4 H4 y u Q M4 ((V2.ext M2 e3).ext M3 e4) V4 p4⟩⟩
  · cases V3
    exact ⟨false, rfl, by rw [if_neg Bool.false_ne_true]; exact p3.ok M3 (.bl _)⟩
  · exact p3.not_stuck
theorem je_chain {op op' : CmpOp} {r r' : R2} {g g' : MV → MV → Mem → Re MV} {a b c : Expr} {fa fb fc : ME} (ho : OpR X (compareOp op) r) (ho' : OpR X (compareOp op') r') (hm : OpM X r g) (hm' : OpM X r' g') (ha : JE X W a fa) (hb : JE X W b fb) (hc : JE X W c fc) (hk : lastMarks [op, op'] [b, c] = false := by rfl) :
    JE X W (.Compare a [op, op'] [b, c] pos) (mChain g g' fa fb fc) := ⟨pe_imp (pe_chain ho ho' ha.run hb.run hc.run hk) fun σ H Q h => t_chain hm hm' h⟩
theorem jt_chain {op op' : CmpOp} {r r' : R2} {g g' : MV → MV → Mem → Re MV} {a b c : Expr} {fa fb fc : ME} (ho : OpR X (compareOp op) r) (ho' : OpR X (compareOp op') r') (hm : OpM X r g) (hm' : OpM X r' g') (ha : JE X W a fa) (hb : JE X W b fb) (hc : JE X W c fc) (hk : lastMarks [op, op'] [b, c] = false := by rfl) :
    JT X W (.Compare a [op, op'] [b, c] pos) (mB (mChain g g' fa fb fc)) :=
  ⟨pt_imp (pt_chain ho ho' ha.run hb.run hc.run hk) fun σ H Q ⟨ρ, m, β, hE, hM, p⟩ => t_chain hm hm' ⟨ρ, m, β, hE, hM, by
    unfold mB at p
    exact p.bind fun d m1 x H1 β1 _ e1 M1 V1 p1 => by
      split at p1
      · cases V1; exact ⟨_, rfl, p1.ok M1 rfl⟩
      · exact p1.not_stuck⟩⟩
theorem mNil_len : ∀ ρ m ds m1, mNil ρ m = .ok ds m1 → ds.length = 0 := fun _ _ _ _ h => by cases h; rfl
theorem mCons_len {f : ME} {g : MA} {n : Nat} (h : ∀ ρ m ds m1, g ρ m = .ok ds m1 → ds.length = n) : ∀ ρ m ds m1, mCons f g ρ m = .ok ds m1 → ds.length = n + 1 := fun ρ m ds m1 e => by
  unfold mCons at e
  cases e1 : f ρ m with
  | stuck => rw [e1] at e; cases e
  | ex x m2 => rw [e1] at e; cases e
  | ok d m2 =>
    rw [e1] at e
    have e : ((g ρ m2).bind fun ds m2 => .ok (d :: ds) m2) = .ok ds m1 := e
    cases e2 : g ρ m2 with
    | stuck => rw [e2] at e; cases e
    | ex x m3 => rw [e2] at e; cases e
    | ok es m3 =>
      rw [e2] at e
      cases e
      rw [List.length_cons, h ρ m2 es _ e2]
def mRetN : MS := fun _ m => .ok (.rt .non) m
def gMin : List MV → Mem → Re MV
  | [.int i, .int j], m => .ok (.int (if j < i then j else i)) m
  | [.int i, .int j, .int k], m => .ok (.int (if k < (if j < i then j else i) then k else (if j < i then j else i))) m
  | _, _ => .stuck
abbrev rMinA : List V → Hp → VK → Prop := fun xs H Q => (∃ i j, xs = [V.int i, V.int j] ∧ Q (V.int (if j < i then j else i)) H) ∨ rNuC3 nuMin3 xs H Q
theorem cr_min (hc : X.calm = true) : CallR X (.builtin "min") rMinA := cr_or (call_min2 hc) (call_min3Nu hc)
theorem cm_min : CrM X rMinA gMin := by
  intro W σ ds m β H vs Q M V p
  unfold gMin at p
  split at p
  · cases V with | cons h r => cases r with | cons h2 r => cases r; cases h; cases h2; exact .inl ⟨_, _, rfl, p.ok M (.int _)⟩
  · cases V with
    | cons h r =>
      cases r with
      | cons h2 r =>
        cases r with
        | cons h3 r =>
          cases r; cases h; cases h2; cases h3
          rename_i i j k
          refine .inr ⟨_, _, _, _, rfl, ?_, p.ok M (.int _)⟩
          show (nuMin2 (V.int i) (V.int j)).bind (fun m => nuMin2 m (V.int k)) = _
          have e : ∀ a b : Int, nuMin2 (V.int a) (V.int b) = some (V.int (if b < a then b else a)) := fun a b => by
            show Option.map (fun c => if c = true then V.int b else V.int a) (some (decide (b < a))) = _
            by_cases h : b < a <;> simp [h]
          rw [e]
          show nuMin2 (V.int _) (V.int k) = _
          rw [e]
  · exact p.not_stuck
abbrev gAddI := gI0 fun i j => MV.int (i + j)
theorem hgs_name {i : Nat} : ∀ d m as, ngName i d m = some as → ∀ p ∈ as, p.1 ∈ [i] := fun d m as h p hp => by
  unfold ngName at h
  cases h
  simp at hp
  subst hp
  simp
end
end MI
namespace MI
open PySem L2
variable [Nms]
section
variable {X : Cx} {W : WX} {pos : Pos} {K : PySem.W.Frag} {β : List Addr} {H : Hp} {m : Mem}
def tyO : Option MO → Option String
  | some (.lst _) => some "list"
  | some (.frz _) => some "list"
  | some (.dct _) => some "dict"
  | _ => none
def tyM (m : Mem) : MV → Option String
  | .non => some "NoneType"
  | .bl _ => some "bool"
  | .int _ => some "int"
  | .str _ => some "str"
  | .tup _ => some "tuple"
  | .ref n => tyO m[n]?
  | .kl _ => none
  | .clo _ _ => none
theorem RM.ty (R : RM K β H m) {d : MV} {v : V} {t : String} (r : RV K β H d v) (h : tyM m d = some t) : TyX K H v (.type t) := by
  cases r with
  | non => cases h; exact .base .non
  | bl k => cases h; exact .base (.bl k)
  | int i => cases h; exact .base (.int i)
  | str x => cases h; exact .base (.str x)
  | tup h1 h2 =>
    cases h
    rcases h1 with (h1 | ⟨o, h1⟩) | ⟨o, its, n, h1, h2, _⟩
    · exact .base (.tup h1)
    · exact .fTuple h1
    · exact .kTuple h1 h2
  | @ref n a hb =>
    have h' : tyO m[n]? = some t := h
    cases e : m[n]? with
    | none => rw [e] at h'; cases h'
    | some o =>
      rw [e] at h'
      have q := R.ob n o a e hb
      cases o with
      | lst l => cases h'; obtain ⟨vs, q1, q2⟩ := q; exact .base (.lst q1)
      | frz l => cases h'; obtain ⟨vs, ob, q1, q2⟩ := q; exact .base (.frz q1)
      | dct l => cases h'; obtain ⟨vs, q1, q2⟩ := q; exact .base (.dK q1)
      | exn x => cases h'
      | own c l => cases h'
      | dN l => cases h'
  | kl _ _ => cases h
  | clo _ => cases h
def mIsi (T : String) (f : ME) : ME := fun ρ m => (f ρ m).bind fun d m1 => match (tyM m1 d).bind fun t => kitB t T with
  | some b => .ok (.bl b) m1
  | none => .stuck
theorem je_isi (T : String) {e : Expr} {x : Str} {p q : Pos} {f : ME} (h : JE X W e f) (hm : X.mg "isinstance" = none) (hmt : X.mg x = none) (hv : bootBuiltins x = some (.type T)) (hg : Gl X "isinstance" := by rfl) (hgt : Gl X x := by rfl) (hn : x ≠ "__name__" := by decide) (hd : (x == ("__debug__" : Str)) = false := by decide)
    (he : starEach (e :: [.Name x q]) X.env = (false, eval e X.env) :: starEach [.Name x q] X.env := by rfl) (hpl : (backTo pos (starEach [.Name x q] X.env)).any (·.1) = false := by rfl) : JE X W (.Call (.Name "isinstance" p) [e, .Name x q] [] pos) (mIsi T f) :=
  ⟨pe_imp (pe_callB call_isi hg hm (by decide +kernel) (pa_cons h.run (pa_cons (pe_bltn (v := .ty T) hgt hmt hv rfl hn hd) pa_nil) he) (by decide) (by decide) he hpl) fun σ H Q ⟨ρ, m, β, hE, hM, p⟩ => ⟨ρ, m, β, hE, hM, p.bind fun d m1 x H1 β1 _ e1 M1 V1 p1 => by
    split at p1
    · rename_i b hb
      cases ht : tyM m1 d with
      | none => rw [ht] at hb; cases hb
      | some t =>
        rw [ht] at hb
        exact ⟨x, _, _, _, b, rfl, .ty T, M1.ty V1 ht, kit_ty hb, p1.ok M1 (.bl _)⟩
    · exact p1.not_stuck⟩⟩
end
end MI
namespace MI
open PySem L2
variable [Nms]
/-- what a class of the text must say, to be raised with a text -/
structure ExF (K : PySem.W.Frag) (mg : Str → Option Value) (x : Str) : Prop where
  ex : ∃ C : Addr, ClsN K x C ∧ mg x = some (.ref C) ∧ PySem.W.excIn K C [.type "ValueError", .type "Exception", .type "BaseException", .type "object"] "ValueError.__new__" = true ∧ PySem.W.keepIn K (.ref C) = true ∧
    PySem.W.subIn K (.ref C) (.type "BaseException") = some true ∧ PySem.W.typeIn K (.ref C) = some (.type "type")
structure Mode where
  CX : Program → World → CXT
  Tk : Cx → WX → Prop
  tk0 : ∀ {X : Cx}, Tk X fun _ _ _ _ => False
  pass : ∀ {X : Cx} {W : WX}, Tk X W → ∀ σ, PassesAt (CX X.prog X.w) X σ (WE W σ)
  raise : ∀ {X : Cx} {W : WX} {x m : Str} {j : Nat} {p p2 pos pos' : Pos} {C : Addr}, X.calm = true → Tk X W → PySem.W.excIn X.K C [.type "ValueError", .type "Exception", .type "BaseException", .type "object"] "ValueError.__new__" = true → X.mg x = some (.ref C) → PySem.W.keepIn X.K (.ref C) = true → Raises X (.ref C) → Gl X x → (x == ("__debug__" : Str)) = false →
    PS X (.Raise (some (.Call (.Name x p) [.Constant (.str m) j p2] [] pos)) none pos') (fun _ σ H => W (.ref C) none σ H)
  no : ∀ {P : Program} {w : World} {st : List PySem.Env} {H : Hp} {s : Shared} {e : Value} {s' : Shared}, CX P w st H s (fun _ _ _ => False) e s' → False
  of : ∀ {X : Cx} {E : XK} {E₁ : Value → Shared → Prop}, X.stack = X.env :: X.outer → X.env.frame = some X.env.locals → X.ex = [] →
    (X.xe = fun e s' => wpAny (model X.prog X.w) X.A (leaving X.env e) (fun _ s'' => CX X.prog X.w X.outer X.H_0 X.s_0 E e s'') E₁ s') → Tk X (fun cls d _ H => E cls d H)
def M2 : Mode where
  CX := L2.CX
  Tk := L2.Takes
  tk0 := takes0
  pass := fun tk σ => L2.passAt tk σ
  raise := fun hc tk q gC kC r hg hd => L2.ps_raise hc tk (L2.pmk_own PySem.F.excBase_ValueError q gC kC r hg hd)
  no := fun ⟨_, _, _, _, _, _, _, _, _, _, _, _, z⟩ => z
  of := fun hs hf hex hx => L2.takes_of hs hf hex hx
def MN : Mode where
  CX := L2N.CX
  Tk := L2N.Takes
  tk0 := fun u s' ⟨_, _, _, _, _, _, _, _, _, _, _, _, _, _, _, _, h⟩ => h.elim
  pass := fun tk σ => L2N.passAt tk σ
  raise := fun hc tk q gC kC r hg hd => L2N.ps_raise hc tk (L2N.pmk_own PySem.F.excBase_ValueError q gC kC r hg hd)
  no := fun ⟨_, _, _, _, _, _, _, _, _, _, _, _, z⟩ => z
  of := fun hs hf hex hx => L2N.takes_of hs hf hex hx
/-- a global def that does F, at level k, with n parameters -/
structure FnX (M : Mode) (P : Program) (w : World) (K : PySem.W.Frag) (mg : Str → Option Value) (base : Heap) (k : Nat) (x : Str) (n : Nat) (F : MF) : Prop where
  ex : ∃ (f : Addr) (fd : FuncData) (ps : List Str), FnOk P w K mg base (M.CX P w) k f fd ps (spM K n F) ∧ mg x = some (.ref f) ∧ PySem.W.keepIn K (.ref f) = true ∧ Binds K fd ps []
section
variable {M : Mode} {X : Cx} {W : WX} {pos : Pos} {K : PySem.W.Frag} {β : List Addr} {H : Hp} {m : Mem}
def mRaise (x : Str) : MS := fun ρ m => .ok (.ex ⟨x, []⟩ ρ) m
theorem jx_raise {x msg : Str} {j : Nat} {p p2 pos pos' : Pos} (T : ExF X.K X.mg x) (hc : X.calm = true) (tk : M.Tk X W) (hg : Gl X x := by rfl) (hd : (x == ("__debug__" : Str)) = false := by decide) : JS X W (.Raise (some (.Call (.Name x p) [.Constant (.str msg) j p2] [] pos)) none pos') (mRaise x) := by
  obtain ⟨C, h1, h2, h3, h4, h5, h6⟩ := T.ex
  exact ⟨ps_imp (M.raise hc tk h3 h2 h4 (raises_own h5 h6) hg hd) fun D σ H ⟨ρ, m, β, hE, hM, p⟩ => p _ _ σ H β Ext.refl hM hE ⟨C, rfl, h1, .inl ⟨rfl, rfl⟩⟩⟩
theorem jx_call {k j n : Nat} {x : Str} {F : MF} {e : Expr} {es : List Expr} {g : MA} {p pos : Pos} (Fk : FnX M X.prog X.w X.K X.mg X.base k x n F) (hr : Room j X.A) (hk : k ≤ j) (tk : M.Tk X W) (ha : JA X W (e :: es) g)
    (hg : Gl X x := by rfl) (hdb : (x == ("__debug__" : Str)) = false := by decide) (he : starEach (e :: es) X.env = (false, eval e X.env) :: starEach es X.env := by rfl) (hpl : (backTo pos (starEach es X.env)).any (·.1) = false := by rfl)
    (hlen : ∀ ρ m ds m1, g ρ m = .ok ds m1 → ds.length = n) : JE X W (.Call (.Name x p) (e :: es) [] pos) (mCall F g) := by
  obtain ⟨f, fd, ps, h1, h2, h3, h4⟩ := Fk.ex
  refine ⟨pe_imp (pe_callS h1 (hr.mono hk) hg h2 h3 h4 (fun σ => M.pass tk σ) ha.run hdb he hpl) fun σ H Q ⟨ρ, m, β, hE, hM, p⟩ => ⟨ρ, m, β, hE, hM, ?_⟩⟩
  refine p.bind fun ds m1 vs H1 β1 e0 e1 M1 V1 p1 => ⟨by rw [← V1.length]; exact hlen ρ m ds m1 e0, ds, m1, β1, V1, M1, ?_⟩
  revert p1
  generalize F ds m1 = r
  intro p1
  cases r with
  | ok d m2 => exact p1
  | ex x m2 => exact p1
  | stuck => exact p1
end
section
variable {M : Mode} {P : Program} {w : World} {K : PySem.W.Frag} {mg : Str → Option Value} {base : Heap}
theorem fnx_ok {x qual : Str} {st : Stmt} {f : Addr} {fd : FuncData} {N ps : List Str} {k n : Nat} {g : MS} {F : MF} (Fu : Fun K x qual st f fd) (S : FnScope N ps (defScope st)) (hn : ps.length = n)
    (hF : ∀ ds m, ds.length = n → F ds m = endOf (g (startM N.length ds) m))
    (hb : ∀ (cdv : Value) (A : Around) (outer : List PySem.Env) (s : Shared) (H : Hp) (E : XK), Room k (A.deeper (PyProof.Rows.envOfC qual (defScope st) s.heap.objs.size f cdv)) →
      ∀ W, M.Tk (cxOf (M.CX P w) P w K mg base N qual (defScope st) f cdv A outer s H E) W → PassesOwn (model P w) (cxOf (M.CX P w) P w K mg base N qual (defScope st) f cdv A outer s H E).A (cxOf (M.CX P w) P w K mg base N qual (defScope st) f cdv A outer s H E).env (cxOf (M.CX P w) P w K mg base N qual (defScope st) f cdv A outer s H E).xe →
        JB (cxOf (M.CX P w) P w K mg base N qual (defScope st) f cdv A outer s H E) W (defBody st) g) :
    FnOk P w K mg base (M.CX P w) (k + 1) f fd ps (spM K n F) := by
  obtain ⟨oc, od, kV, doc, pm, an, cdv, ct, osl, rfl, lk, hcd⟩ := Fu.ex
  refine fn_of lk hcd S (fun vs H Q E h => by rw [hn]; exact h.1) fun A outer s H vs Q E hr hsp => ?_
  obtain ⟨hl, ds, m, β, V, Mm, p⟩ := hsp
  have tk : M.Tk (cxOf (M.CX P w) P w K mg base N qual (defScope st) f cdv A outer s H E) (fun cls d _ H' => E cls d H') := M.of rfl rfl rfl rfl
  refine ⟨_, (hb cdv A outer s H E hr _ tk (passes_of rfl)).run, ?_⟩
  refine ⟨startM N.length ds, m, β, RE.start V, Mm, ?_⟩
  rw [hF ds m (by rw [V.length]; exact hl)] at p
  revert p
  generalize g (startM N.length ds) m = r
  intro p
  cases r with
  | ok a m' =>
    cases a with
    | nx ρ => exact fun σ' H' β' e M' _ => p .non H' β' e M' .non
    | bk ρ => exact p.elim
    | ct ρ => exact p.elim
    | rt d => exact fun v H' β' e M' V' => p v H' β' e M' V'
    | ex x ρ => exact fun c d σ' H' β' e M' _ z => p c d H' β' e M' z
  | ex x m' => exact p.elim
  | stuck => exact p
/-- level 0: nothing is promised -/
theorem fnx_0 {x : Str} {n : Nat} {f : Addr} {fd : FuncData} {ps : List Str} (hn : ps.length = n) (h2 : mg x = some (.ref f)) (h3 : PySem.W.keepIn K (.ref f) = true) (h4 : Binds K fd ps []) : FnX M P w K mg base 0 x n (fun _ _ => .stuck) :=
  ⟨f, fd, ps, ⟨fun vs H Q E h => by rw [hn]; exact h.1, fun A outer s H args us vs Q E _ _ _ _ h => by obtain ⟨_, _, _, _, _, _, q⟩ := h; exact q.elim⟩, h2, h3, h4⟩
end
section
variable {X : Cx} {W : WX} {pos : Pos} {K : PySem.W.Frag} {β : List Addr} {H : Hp} {m : Mem}
/-- which classes a clause takes -/
def Exm (K : PySem.W.Frag) (c : Value) (P : Str → Option Bool) : Prop := ∀ (y : Str) (C : Addr) (b : Bool), ClsN K y C → P y = some b → PySem.W.exmOne K (.ref C) c = some b
end
end MI
namespace MI
open PySem L2
variable [Nms]
section
variable {X : Cx} {pins : List (Addr × Obj)} {σ : L2.St} {H : Hp} {s : Shared}
/-- an object that was made behind the entry is known from now on -/
theorem track {a : Addr} {oe : Obj} {vs : Array Value} {o : HO} (I : L2.Inv X pins σ H s) (he : s.heap.get? a = some oe) (hd : oe.data = .fields vs) (n : H a = none) (h0 : X.s_0.heap.get? a = none) (nL : a ≠ X.env.locals)
    (np : ∀ p ∈ X.pn ++ pins, p.1 ≠ a) (ok : ObjOk X.prog X.w (upd H a o) s.heap a o) : L2.Inv X pins σ (upd H a o) s where
  ok := I.ok
  os := I.os
  bare := I.bare
  base :=
    { keep := I.base.keep
      slot := I.base.slot
      free := fun b u q z hx => by
        have hb : b ≠ a := fun e => by rw [e, h0] at q; cases q
        rw [upd_ne hb]
        exact I.base.free b u q z hx
      there := I.base.there
      tups := fun b xs q => by
        have q1 := I.base.tups b xs q
        rw [upd_ne (ne_of_none q1 n)]
        exact q1
      frzs := fun b u xs q => by
        have q1 := I.base.frzs b u xs q
        rw [upd_ne (ne_of_none q1 n)]
        exact q1
      tbls := fun b ps q => by
        obtain ⟨more, q1⟩ := I.base.tbls b ps q
        exact ⟨more, by rw [upd_ne (ne_of_none q1 n)]; exact q1⟩ }
  loc := I.loc
  cell := I.cell
  free := by rw [upd_ne (Ne.symm nL)]; exact I.free
  freeC := fun x c e => by
    have hc : c ≠ a := fun z => by
      obtain ⟨v, ob, q1, q2⟩ := I.cell x c e
      rw [z, he] at q1
      cases q1
      rw [hd] at q2
      cases q2
    rw [upd_ne hc]
    exact I.freeC x c e
  pin := fun p hp => by
    obtain ⟨q1, q2, q3⟩ := I.pin p hp
    exact ⟨q1, by rw [upd_ne (np p hp)]; exact q2, q3⟩
  hok := fun b u q => by
    by_cases hb : b = a
    · subst hb
      rw [upd_same] at q
      cases q
      exact ok
    · rw [upd_ne hb] at q
      exact (I.hok b u q).stay (fun _ _ _ z => z) (fun c z => by rw [upd_ne (ne_of_none z n)]; exact z) fun c xs z => by rw [upd_ne (ne_of_none z n)]; exact z
  len := I.len
end
section
variable {X : Cx} {x n y : Str} {c : Value} {i j : Nat} {body : List Stmt} {np py pn' spos pos pos' : Pos} {tb : WX → TS} {Wout : WX}
/-- what is wanted of an exception in the body: it is taken, and then both names have it, the clause's own goes again; or it goes on -/
def wKeep (K : PySem.W.Frag) (c : Value) (i j : Nat) (Wout : WX) (D : Ends) : WX := fun cls d σ H =>
  ∃ b, PySem.W.exmOne K cls c = some b ∧ (b = true → ∀ a, H a = none → D.nx (((σ.set i (some (.ref a))).set j (some (.ref a))).set i none) (upd H a (ExH cls a d))) ∧ (b = false → Wout cls d σ H)
abbrev keepH (x n y : Str) (np py pn' spos pos' : Pos) : ExceptHandler := .ExceptHandler (some (.Name x np)) (some n) [.Assign [.Name y py] (.Name n pn') spos] pos'
theorem ps_try_keep (hs : X.stack = X.env :: X.outer) (hf : X.env.frame = some X.env.locals) (hex : X.ex = []) (hN : X.N.Nodup) (hi : X.N[i]? = some n) (hln : X.env.kindOf n = some .local) (hj : X.N[j]? = some y) (hly : X.env.kindOf y = some .local) (hc : Names X x c) (tk : Takes X Wout)
    (hd1 : (n == ("__debug__" : Str)) = false) (hd2 : (n == ("__classdict__" : Str)) = false)
    (hb : ∀ (W : WX) (pn : List (Addr × Obj)) (xe : Value → Shared → Prop), Takes (X.tr pn xe) W → PassesOwn (model X.prog X.w) X.A X.env xe → PSs (X.tr pn xe) body (tb W)) :
    PS X (.Try body [keepH x n y np py pn' spos pos'] [] [] pos) (fun D σ H => tb (wKeep X.K c i j Wout D) D σ H) := by
  constructor
  intro pins s σ H D I h
  have ok := I.ok
  have fr : X.A.frames = some (X.env :: X.outer) := ok.frames.trans (congrArg some hs)
  apply wpAny_Try_except
  let M := model X.prog X.w
  let Eb : Value → Shared → Prop := fun e s₁ => wpAny M X.A (noteFrame e X.env) (fun _ s₂ => wpAny M X.A (setFlight e none) (fun _ s₃ => wpAny M X.A (handleBy e X.env [keepH x n y np py pn' spos pos']) (SP X pins D) X.xe s₃) X.xe s₂) X.xe s₁
  have catch_ : Takes (X.tr (X.pn ++ pins) Eb) (wKeep X.K c i j Wout D) := by
    rintro u s' ⟨a, B, sI, ps', σ', H', cls, d, rfl, J', nb, up, sky, na, os, ag, b, hb1, yes, no⟩
    have J : L2.Inv X pins σ' H' sI := J'.ofTry ok
    have sky2 : Sky B (X.env :: X.outer) a (Zc cls d) X.env.locals s'.heap := hs ▸ sky
    refine Sky.land Zc.steady fr hf sky2 ?_
    intro h3 fl3 up3
    obtain ⟨oe3, vs3, he3, hz3, hd3⟩ := fl3.there
    -- the object is no frame's
    have apart : ∀ {h : Heap} {o : Obj} {vs : Array Value}, h.FunFrames B (X.env :: X.outer) → h.get? a = some o → o.data = .fields vs → a ∉ frs (X.env :: X.outer) := by
      intro h o vs ff e dd hm
      obtain ⟨_, o', e', far⟩ := ff.mem hm
      rw [e] at e'
      cases e'
      exact far _ dd
    have nfr := apart fl3.2.2.1 he3 hd3
    have nL : a ≠ X.env.locals := by
      intro z
      exact nfr (List.mem_filterMap.mpr ⟨X.env, List.mem_cons_self, hf.trans (by rw [z])⟩)
    have nF : a ∉ X.fs := by
      intro hm
      obtain ⟨e, he, q⟩ := List.mem_filterMap.mp hm
      exact nfr (List.mem_filterMap.mpr ⟨e, List.mem_cons_of_mem _ he, q⟩)
    -- it is new
    have newI : sI.heap.get? a = none := by
      cases q : sI.heap.get? a with
      | none => rfl
      | some o =>
        have := nb a o q (by rw [hs]; exact nfr)
        rw [fl3.2.1] at this
        cases this
    have new0 : X.s_0.heap.get? a = none := by
      cases q : X.s_0.heap.get? a with
      | none => rfl
      | some o =>
        obtain ⟨o', q'⟩ := J.base.there a o q (by rw [hex]; exact List.not_mem_nil)
        rw [newI] at q'
        cases q'
    have newp : ∀ p ∈ X.pn ++ pins, p.1 ≠ a := by
      intro p hp z
      have := (J.pin p hp).1
      rw [z, newI] at this
      cases this
    have J3 : L2.Inv X pins σ' H' { s' with heap := h3 } := J.landed nb fl3.1 (up.trans up3) os ag
    have S3 := J3.suite he3 hd3 na nL nF
    apply wpAny_handleBy_cons (codeAny_handlers_test ?_) (by intro q; cases q)
    have ty : PySem.W.Looks M h3 (typeOf (.ref a)) cls := fun A Q E s k q => wpAny_typeOf_ref (k _ _ he3) (by rw [hz3.1]; exact q)
    have asks := PySem.W.exm_one (M := M) J3.kIn ty hb1
    have clause : ∀ {Q : Value → Shared → Prop} {E : Value → Shared → Prop}, Q c { s' with heap := h3 } → wpAny M (X.A.mark (some (.ref a))) (eval (.Name x np) X.env) Q E { s' with heap := h3 } := by
      intro Q E q
      obtain ⟨hg, hdbg, hm | ⟨hm, hv, hnn⟩⟩ := hc
      · exact ld_glob (X := X.suite a ((a, oe3) :: (X.pn ++ pins))) S3 hg hm q hdbg
      · exact ld_blt (X := X.suite a ((a, oe3) :: (X.pn ++ pins))) S3 hg hm hv q hnn hdbg
    apply clause
    apply asks.here
    cases b with
    | true =>
      have goes := yes rfl
      apply codeAny_handlers_suite_as
      apply HandSPX.lands_againZ fl3
      intro h4 fl4 up4
      have J4 : L2.Inv X pins σ' H' { s' with heap := h4 } := J.landed nb fl4.1 ((up.trans up3).trans up4) os ag
      obtain ⟨oe4, vs4, he4, hz4, hd4⟩ := fl4.there
      have S4 := J4.suite he4 hd4 na nL nF
      refine store_ok (X := X.suite a ((a, oe4) :: (X.pn ++ pins))) (v := .ref a) S4 hN hi (.inl hln) rfl ?_ (.inr hln)
      intro s5 S5
      have il : i < σ'.length := by rw [J.len]; exact (List.getElem?_eq_some_iff.mp hi).1
      have one : PSs (X.suite a ((a, oe4) :: (X.pn ++ pins))) [.Assign [.Name y py] (.Name n pn') spos] (tAsg (tVar i) (gName j)) :=
        pss_one (ps_set hN hj (.inl hly) (pe_var hi (.inl hln) hd1 hd2) (by rfl) (.inr hly))
      refine wpAny_mono (one.run [] s5 (σ'.set i (some (.ref a))) H' { nx := fun σ6 H6 => σ6 = (σ'.set i (some (.ref a))).set j (some (.ref a)) ∧ H6 = H', rt := fun _ _ => False } S5 ⟨.ref a, List.getElem?_set_self il, rfl, rfl⟩) ?_ (fun _ _ z => z.elim)
      intro f s6 q6
      cases f with
      | next =>
        obtain ⟨σ6, H6, S6, rfl, rfl⟩ := q6
        obtain ⟨p1, p2, p3, p4, _⟩ := S6.pin (a, oe4) (List.mem_append_left _ List.mem_cons_self)
        have J6 : L2.Inv X pins ((σ'.set i (some (.ref a))).set j (some (.ref a))) H6 s6 := S6.unsuite ok
        have known : ObjOk X.prog X.w (upd H6 a (ExH cls a d)) s6.heap a (ExH cls a d) :=
          ⟨⟨oe4, vs4, p1, hz4.1, hz4.2, hd4⟩, ⟨oe4, p1⟩, fun _ _ ⟨o, v, q1, q2⟩ st => ⟨o, v, st o q1, q2⟩⟩
        have J7 := track J6 p1 hd4 na new0 nL newp known
        exact gone_ok J7 hN hi hln fun s7 J8 => ⟨_, _, J8, goes a na⟩
      | ret u => obtain ⟨v, σ6, H6, _, _, q⟩ := q6; exact q.elim
      | brk => obtain ⟨σ6, H6, _, q⟩ := q6; exact q.elim
      | cont => obtain ⟨σ6, H6, _, q⟩ := q6; exact q.elim
    | false =>
      show wpAny _ X.A (handleBy (.ref a) X.env []) _ _ _
      apply wpAny_handleBy_nil
      obtain ⟨k1, k2, k3, oe, vs, T, oT, ts', he, hz, hd, h1, hr⟩ := id fl3
      unfold PySem.passOn
      apply wpAny_bind
      apply wpAny_field he hd h1
      rw [if_neg (show ¬ ((Value.ref T == Value.none) = true) from by simp)]
      have fin : wpAny M X.A (setFlight (.ref a) X.env.frame) (fun _ s4 => wpAny M X.A (throw (.ref a) : Sem Flow) (SP X pins D) X.xe s4) X.xe { s' with heap := h3 } := by
        rw [hf]
        apply HandSPX.setFlight_upZ fl3
        intro h4 hh4 up4
        apply wpAny_throw
        apply tk
        exact ⟨a, B, sI, pins, σ', H', cls, d, rfl, J, nb, (up.trans up3).trans up4, .inr (.inr (by rw [hs]; exact hh4)), na, os, ag, no rfl⟩
      first
        | exact wpAny_bind (wpAny_pure (wpAny_bind fin))
        | exact wpAny_bind fin
  refine wpAny_mono ((hb _ (X.pn ++ pins) Eb catch_ PassesOwn.looking).run [] s σ H D (I.toTry _) h) ?_ (fun e s1 he => he)
  intro f s1 q1
  cases f with
  | next =>
    obtain ⟨σ1, H1, J1, q⟩ := q1
    exact wpAny_execs_nil ⟨σ1, H1, J1.ofTry ok, q⟩
  | ret u =>
    obtain ⟨v, σ1, H1, J1, r, q⟩ := q1
    exact ⟨v, σ1, H1, J1.ofTry ok, r, q⟩
  | brk =>
    obtain ⟨σ1, H1, J1, q⟩ := q1
    exact ⟨σ1, H1, J1.ofTry ok, q⟩
  | cont =>
    obtain ⟨σ1, H1, J1, q⟩ := q1
    exact ⟨σ1, H1, J1.ofTry ok, q⟩
end
end MI
namespace MI
open PySem L2
variable [Nms]
section
variable {X : Cx} {W : WX} {pos : Pos} {K : PySem.W.Frag} {β : List Addr} {H : Hp} {m : Mem}
theorem RE.setN {ρ : Env} {σ : L2.St} {i : Nat} (r : RE K β H ρ σ) : RE K β H (ρ.set i none) (σ.set i none) := by
  refine ⟨by simp [r.len], fun j e q => ?_⟩
  by_cases hj : i = j
  · subst hj
    rw [List.getElem?_set_self'] at q
    cases z : ρ[i]? with
    | none => rw [z] at q; cases q
    | some w => rw [z] at q; cases q
  · rw [List.getElem?_set_ne hj] at q ⊢
    exact r.at_ j e q
def mTryK (P : Str → Option Bool) (i j : Nat) (f : MS) : MS := fun ρ m => match f ρ m with
  | .ok (.ex x ρ') m' => match P x.cls with
    | some true => .ok (.nx (((ρ'.set i (some (.ref m'.length))).set j (some (.ref m'.length))).set i none)) (m' ++ [.exn x])
    | some false => .ok (.ex x ρ') m'
    | none => .stuck
  | r => r
theorem jx_tryK (i j : Nat) {x n y : Str} {c : Value} {body : List Stmt} {np py pn' spos pos' : Pos} {f : MS} {P : Str → Option Bool} (hs : X.stack = X.env :: X.outer) (hf : X.env.frame = some X.env.locals) (hex : X.ex = []) (hN : X.N.Nodup) (hc : Names X x c) (he : Exm X.K c P) (tk : Takes X W)
    (hb : ∀ (W' : WX) (pn : List (Addr × Obj)) (xe : Value → Shared → Prop), Takes (X.tr pn xe) W' → PassesOwn (model X.prog X.w) X.A X.env xe → JB (X.tr pn xe) W' body f)
    (hi : X.N[i]? = some n := by rfl) (hln : X.env.kindOf n = some .local := by rfl) (hj : X.N[j]? = some y := by rfl) (hly : X.env.kindOf y = some .local := by rfl)
    (hd1 : (n == ("__debug__" : Str)) = false := by decide) (hd2 : (n == ("__classdict__" : Str)) = false := by decide) :
    JS X W (.Try body [.ExceptHandler (some (.Name x np)) (some n) [.Assign [.Name y py] (.Name n pn') spos] pos'] [] [] pos) (mTryK P i j f) := by
  refine ⟨ps_imp (ps_try_keep (tb := fun W' => tS X W' f) hs hf hex hN hi hln hj hly hc tk hd1 hd2 (fun W' pn xe t h => (hb W' pn xe t h).run)) fun D σ H q => ?_⟩
  obtain ⟨ρ, m, β, hE, hM, p⟩ := tS_of q
  refine ⟨ρ, m, β, hE, hM, ?_⟩
  unfold mTryK at p
  cases hf' : f ρ m with
  | stuck => rw [hf'] at p; exact p
  | ex x m' => rw [hf'] at p; exact p
  | ok a m' =>
    rw [hf'] at p
    cases a with
    | nx ρ' => exact p
    | bk ρ' => exact p
    | ct ρ' => exact p
    | rt d => exact p
    | ex x ρ' =>
      intro cls dd σ' H' β' e M E hx
      obtain ⟨C, rfl, hC, hF⟩ := hx
      dsimp only at p
      cases hP : P x.cls with
      | none => rw [hP] at p; exact p.elim
      | some b =>
        refine ⟨b, he _ C b hC hP, fun hb1 a ha => ?_, fun hb0 => ?_⟩
        · subst hb1
          rw [hP] at p
          have V : RV X.K (β' ++ [a]) (upd H' a (ExH (.ref C) a dd)) (.ref m'.length) (.ref a) := .ref (by rw [← M.len]; simp)
          exact p _ _ _ (e.trans (Ext.push ha)) (M.push ha ⟨C, dd, hC, upd_same, hF.ext M (Ext.push ha)⟩) ((((E.ext M (Ext.push ha)).set V).set V).setN)
        · subst hb0
          rw [hP] at p
          exact p _ dd σ' H' β' e M E ⟨C, rfl, hC, hF⟩
def mTryF (P : Str → Option Bool) (y : Str) (f : MS) : MS := fun ρ m => match f ρ m with
  | .ok (.ex x ρ') m' => match P x.cls with
    | some true => .ok (.ex ⟨y, []⟩ ρ') m'
    | some false => .ok (.ex x ρ') m'
    | none => .stuck
  | r => r
end
end MI
namespace MI
open PySem PySem.W PySem.Calls
section
variable {prog : Program} {w : World} {K : Frag} {D : Addr}
theorem find_dat {od : Option Obj} {n : Str} {u v : Value} (h1 : (clsIn K D).isSome = true) (h2 : findIn K (.ref D) n = some (some u)) (h3 : specialIn K u "__get__" = some (some v)) (h4 : takesIn K u = some true) : findObj K D od n = some (.bind v u) := by
  cases hc : clsIn K D with
  | none => rw [hc] at h1; cases h1
  | some cd =>
    unfold findObj
    rw [hc, Option.bind_some, h2, Option.bind_some]
    simp [h3, h4]
/-- what its class is, asked as isinstance asks it -/
theorem cls_asked {B : Around} {F : Value → Shared → Prop} {s : Shared} {y : Addr} {oy : Obj} {od : Option Obj} {P : Option Value → Shared → Prop} (c : L2.ExcC K D) (Y : K.In s.heap) (J : InstAt s.heap y oy D od) (q : P (some (.ref D)) { s with toks := s.toks + 1 }) :
    wpAny (model prog w) B (getAttr? (.ref y) "__class__") P F s := by
  have some_ : (clsIn K D).isSome = true := by
    obtain ⟨cd, e, _⟩ := any_some c.hd
    rw [e]; rfl
  have found := find_dat (od := od) some_ c.ha c.hn c.ht
  obtain ⟨hh, gg, dd, tt, oo⟩ := s
  have T0 := J.type (M := model prog w)
  have T1 := looks_findIn (M := model prog w) Y c.hg
  have T2 := looks_findIn (M := model prog w) Y c.hk
  have T3 := looks_find (M := model prog w) Y J found
  have isB : Looks (model prog w) hh (isInstance (.ref y) (.type "BaseException")) true := T0.andThen (looks_subIn Y c.hs)
  have n2 : (Value.builtin "BaseException.__getattribute__" == Value.builtin "object.__getattribute__") = false := by decide +kernel
  have n1 : (onTheHeap (Value.ref D) && Value.builtin "BaseException.__getattribute__" == Value.builtin "object.__getattribute__") = false := by rw [n2]; rfl
  have n0 : (false && onTheHeap (Value.builtin "BaseException.__getattribute__")) = false := rfl
  unfold getAttr? getAttrBy? getAttrBy
  apply wpAny_bind
  apply wpAny_mkText
  apply wpAny_bind
  apply wpAny_attempt
  apply wpAny_holding
  apply wpAny_bind
  apply T0.at
  apply wpAny_bind
  apply T1.at
  show wpAny _ _ (if (onTheHeap (Value.ref D) && Value.builtin "BaseException.__getattribute__" == Value.builtin "object.__getattribute__") = true then _ else _) _ _ _
  rw [n1, if_neg Bool.false_ne_true]
  unfold getAttrByItsOwn hookBefore
  apply wpAny_bind
  rw [if_pos (show onTheHeap (Value.ref D) = true from rfl)]
  apply T2.at
  apply wpAny_bind
  apply wpAny_attempt
  apply wpAny_holding
  unfold callGetattribute
  rw [n0, if_neg Bool.false_ne_true]
  unfold boundAndCalled
  rw [PySem.F.excAttr_ValueError.ga.bind (.ref y)]
  apply wpAny_bind
  apply wpAny_pure
  show wpAny _ _ (call (.builtin "BaseException.__getattribute__") [.ref y, .str "__class__" tt]) _ _ _
  refine wpAny_call (codeAny_call_builtin PySem.F.excAttr_ValueError.ga.plain PySem.F.entry_bexc_ga ?_)
  refine @check_slot (model prog w) _ _ ⟨hh, gg, dd, tt + 1, oo⟩ "BaseException.__getattribute__" "BaseException" "__getattribute__" (.ref y) [.str "__class__" tt] [] _ (by decide +kernel) (by decide +kernel) isB (PySem.F.args_bexc_ga (.ref y) (.str "__class__" tt)) ?_
  unfold Builtin.«object.__getattribute__»
  apply wpAny_bind
  refine wpAny_of_eq (a := ((Value.ref y : Value), [Value.str "__class__" tt])) (by first | rfl | (simp only [slotArgs]; rfl)) ?_
  apply wpAny_bind
  apply wpAny_pure
  apply wpAny_bind
  apply T0.at
  apply wpAny_bind
  apply T3.at
  show wpAny _ _ (holding [Value.builtin "object.__class__"] (call (.builtin "getset_descriptor.__get__") [.builtin "object.__class__", .ref y, .ref D]) >>= ret) _ _ _
  apply wpAny_bind
  apply wpAny_holding
  refine wpAny_call (class_get (s := ⟨hh, gg, dd, tt + 1, oo⟩) (ox := oy) (od := od) Y J c.hm ?_)
  apply wpAny_pure
  show wpAny _ _ (handedOut (.ref D)) _ _ _
  rw [handedOut_of (v := .ref D) rfl]
  first
    | exact wpAny_pure (wpAny_pure q)
    | exact wpAny_pure q
    | exact wpAny_pure (wpAny_bind (wpAny_pure (wpAny_pure q)))
theorem kitx_any {y : Addr} {oy : Obj} {od : Option Obj} (c : L2.ExcC K D) : KitX K (.ref y) (.ref D) (fun h => InstAt h y oy D od) := by
  have cls : ∃ cd : ClassData, clsIn K D = some cd := by
    obtain ⟨cd, e, _⟩ := any_some c.hd
    exact ⟨cd, e⟩
  obtain ⟨cd, hc⟩ := cls
  refine { ty := fun _ _ _ J => J.type, it := fun _ _ Y _ => ?_, ne := fun h tp dd its n sl Y htp => ?_, ca := fun Y J k => cls_asked c Y J k }
  · unfold clsIn at hc
    split at hc
    · rename_i ho
      intro A' Q' E' s' k q
      unfold isType loadHead
      apply wpAny_bind
      exact wpAny_loadPart (k _ _ (Y _ _ ho)) (wpAny_pure q)
    · cases hc
  · refine Bool.eq_false_iff.mpr fun q => ?_
    obtain rfl : D = tp := Value.ref.inj (beq_iff_eq.mp q)
    unfold clsIn at hc
    split at hc
    · rename_i ho
      have z := (Y _ _ ho).symm.trans htp
      cases z
    · cases hc
end
end MI
namespace MI
open PySem L2
variable [Nms]
section
variable {X : Cx} {W : WX} {pos : Pos} {K : PySem.W.Frag} {β : List Addr} {H : Hp} {m : Mem}
/-- a kept exception as the machine has it -/
theorem inst_of {pins : List (Addr × Obj)} {σ : L2.St} {H : Hp} {s : Shared} {a D : Addr} {dd : Option Addr} (I : L2.Inv X pins σ H s) (hH : H a = some (ExH (.ref D) a dd)) (hd : ∀ x, dd = some x → ∃ vs, H x = some (.xd vs)) : ∃ oe od, PySem.W.InstAt s.heap a oe D od ∧ (dd = none → od = none) ∧ ∀ x, dd = some x → ∃ o, od = some o ∧ s.heap.get? x = some o := by
  obtain ⟨⟨oe, vs, g1, g2, g3, g4⟩, _, _⟩ := I.hok a _ hH
  cases oe
  dsimp only at g2 g3 g4
  subst g2
  subst g4
  cases dd with
  | none =>
    subst g3
    exact ⟨_, none, ⟨g1, rfl, rfl, trivial⟩, fun _ => rfl, fun x e => by cases e⟩
  | some x =>
    subst g3
    obtain ⟨ws, hx⟩ := hd x rfl
    have ok : ObjOk X.prog X.w H s.heap x (.xd ws) := I.hok x _ hx
    obtain ⟨mA, hns, _⟩ := ok
    obtain ⟨o, ho, _⟩ := lookIn_ns hns
    exact ⟨_, some o, ⟨g1, rfl, rfl, ho⟩, (fun e => (by cases e)), fun y e => (by cases e; exact ⟨o, rfl, ho⟩)⟩
def rIsX (K : PySem.W.Frag) : List V → Hp → VK → Prop := fun xs H Q => ∃ (a D : Addr) (dd : Option Addr) (c : V) (cv : Value) (b : Bool), xs = [.ref a, c] ∧ H a = some (ExH (.ref D) a dd) ∧ (∀ x, dd = some x → ∃ vs, H x = some (.xd vs)) ∧ ExcC K D ∧ (∀ u, RelV c u → u = cv) ∧ PySem.W.kitOne K (.ref D) cv = some b ∧ Q (.bl b) H
theorem call_isx : CallR X (.builtin "isinstance") (rIsX X.K) := by
  intro pins s σ H xs us Q I r h
  obtain ⟨a, D, dd, c, cv, b, rfl, hH, hd, C, hcv, e, q⟩ := h
  cases r with
  | cons rx rr =>
    cases rr with
    | cons rt rr =>
      cases rr
      cases rx
      obtain rfl := hcv _ rt
      obtain ⟨oe, od, J, _⟩ := inst_of I hH hd
      exact PySem.W.kia_one (kitx_any C) I.kIn J e (fun z => nomatch z) fun tk => ⟨.bl b, H, I.kept (t' := tk) fun _ _ z => z, rfl, q⟩
theorem FsR.has {H : Hp} {fs : List (Str × MV)} {d : Option Addr} (h : FsR K β H fs d) : ∀ x, d = some x → ∃ vs, H x = some (.xd vs) := fun x e => by
  rcases h with ⟨_, rfl⟩ | ⟨dd, vs, rfl, h2, _⟩
  · cases e
  · cases e; exact ⟨vs, h2⟩
/-- what a class says of the exceptions' classes -/
structure Isx (K : PySem.W.Frag) (cv : Value) (P : Str → Option Bool) : Prop where
  one : ∀ (y : Str) (D : Addr) (b : Bool), ClsN K y D → P y = some b → ExcC K D ∧ PySem.W.kitOne K (.ref D) cv = some b
  non : PySem.W.kitOne K (.type "NoneType") cv = some false
def exnOf (m : Mem) : MV → Option Exn
  | .ref n => match m[n]? with
    | some (.exn x) => some x
    | _ => none
  | _ => none
def isxV (P : Str → Option Bool) (m : Mem) : MV → Option Bool
  | .non => some false
  | d => (exnOf m d).bind fun x => P x.cls
def mIsx (P : Str → Option Bool) (f : ME) : ME := fun ρ m => (f ρ m).bind fun d m1 => match isxV P m1 d with
  | some b => .ok (.bl b) m1
  | none => .stuck
theorem je_isx {e ce : Expr} {p : Pos} {f : ME} {c : V} {cv : Value} {P : Str → Option Bool} (h : JE X W e f) (hcv : ∀ u, RelV c u → u = cv) (hcl : ClsV c cv) (hce : PE X ce (tC c)) (T : Isx X.K cv P) (hm : X.mg "isinstance" = none) (hg : Gl X "isinstance" := by rfl)
    (he : starEach (e :: [ce]) X.env = (false, eval e X.env) :: starEach [ce] X.env := by rfl) (he2 : starEach (ce :: []) X.env = (false, eval ce X.env) :: starEach [] X.env := by rfl) (hpl : (backTo pos (starEach [ce] X.env)).any (·.1) = false := by rfl) : JE X W (.Call (.Name "isinstance" p) [e, ce] [] pos) (mIsx P f) :=
  ⟨pe_imp (pe_callB (cr_or call_isi call_isx) hg hm (by decide +kernel) (pa_cons h.run (pa_cons hce pa_nil he2) he) (by decide) (by decide) he hpl) fun σ H Q ⟨ρ, m, β, hE, hM, p⟩ => ⟨ρ, m, β, hE, hM, p.bind fun d m1 x H1 β1 _ e1 M1 V1 p1 => by
    show rIsi X.K [x, c] H1 Q ∨ rIsX X.K [x, c] H1 Q
    split at p1
    · rename_i b hb
      unfold isxV at hb
      split at hb
      · cases hb
        cases V1
        exact .inl ⟨_, _, _, _, false, rfl, hcl, .base .non, T.non, p1.ok M1 (.bl _)⟩
      · cases hx : exnOf m1 d with
        | none => rw [hx] at hb; cases hb
        | some y =>
          rw [hx] at hb
          unfold exnOf at hx
          split at hx
          · split at hx
            · rename_i x' hm1
              cases hx
              cases V1 with
              | ref hbn =>
                obtain ⟨C, dd, hC, hH, hF⟩ := M1.ob _ _ _ hm1 hbn
                obtain ⟨t1, t2⟩ := T.one _ C b hC hb
                exact .inr ⟨_, C, dd, c, cv, b, rfl, hH, hF.has, t1, hcv, t2, p1.ok M1 (.bl _)⟩
            · cases hx
          · cases hx
    · exact p1.not_stuck⟩⟩
end
end MI
namespace PySem
open Sem (wp)
set_option maxHeartbeats 1000000 in
theorem mi_meets_enum {v : Value} {o : Obj} {H : Heap → Prop} (B : Begins v o H) :
    Meets (Builtin.«enumerate.__new__» ⟨[.type "enumerate", v], []⟩) (fun _ R s => H s.heap ∧
        R (.ok (.ret (.ref (s.heap.push o).objs.size))) { s with heap := (s.heap.push o).push { cls := .type "enumerate", data := .fields #[.none, .bool false, .ref s.heap.objs.size, rawInt 0, .none, .none] } }) :=
  .of_wp fun prog w A R s hh => by
    obtain ⟨hp, gs, ds, ts, oss⟩ := s
    obtain ⟨hb, hR⟩ := hh
    have hsubc := sub_enumerate
    have walk1 : ∀ {A' : Around} {E : Value → Shared → Prop} {Q : Value → Shared → Prop}, Q (.ref hp.objs.size) ⟨hp.push o, gs, ds, ts, oss⟩ → wpAny (model prog w) A' (pyIter v) Q E ⟨hp, gs, ds, ts, oss⟩ := fun z => B.iter prog w _ _ ⟨hp, gs, ds, ts, oss⟩ _ hb z
    wp_walk using walk1
    refine wpAny_stack_any fun st => ?_
    refine wpAny_pure ?_
    split
    next c _ _ _ _ _ =>
      cases (c == Value.type "enumerate") <;> (wp_walk using walk1; exact ⟨_, rfl, hR⟩)
    next => wp_walk using walk1; exact ⟨_, rfl, hR⟩
theorem mi_enum {prog : Program} {w : World} {A : Around} {E : Value → Shared → Prop} {s : Shared} {v : Value} {o : Obj} {H : Heap → Prop} {Q : Value → Shared → Prop} (B : Begins v o H) (h1 : H s.heap)
    (h : ∀ h', IsEnum h' (s.heap.objs.size + 1) s.heap.objs.size 0 .none → h'.get? s.heap.objs.size = some o → (∀ b o, s.heap.get? b = some o → h'.get? b = some o) → Q (.ref (s.heap.objs.size + 1)) { s with heap := h' }) :
    wpAny (model prog w) A (call (.type "enumerate") [v]) Q E s := by
  refine callType_new F.called_enumerate (by decide) (F.typeCall_enumerate_1 _) (F.newCall_enumerate_1 _) (fun obj => F.args_object_init_2 obj _) F.entry_enumerate_new (mi_meets_enum B) ⟨h1, ?_⟩
  have sz : (s.heap.push o).objs.size = s.heap.objs.size + 1 := Heap.size_push ..
  show _ ∧ _
  rw [sz]
  have he := Heap.get?_push_size (s.heap.push o) (o := { cls := .type "enumerate", data := .fields #[.none, .bool false, .ref s.heap.objs.size, rawInt 0, .none, .none] }) rfl
  rw [sz] at he
  exact ⟨⟨_, he, rfl⟩, h _ he (Heap.get?_push_of_some _ (Heap.get?_push_size _ B.free)) fun b o' x => Heap.get?_push_of_some _ (Heap.get?_push_of_some _ x)⟩
end PySem
namespace MI
open PySem L2
variable [Nms]
/-- a tuple's items with their numbers -/
def ItEt (K : PySem.W.Frag) (a : Addr) : It :=
  ⟨fun i H => ∃ (xs : List V) (x : V), SqT K H a xs ∧ xs[i]? = some x, fun i H v H' => ∃ T x, v = .ref T ∧ H T = none ∧ H' = upd H T (.tup [.int (i : Nat), x]) ∧ ∀ xs, SqT K H a xs → xs[i]? = some x, fun i H => ∃ xs : List V, SqT K H a xs ∧ xs.length = i⟩
section
variable {X : Cx} {W : WX} {pos : Pos} {K : PySem.W.Frag} {β : List Addr} {H : Hp} {m : Mem}
theorem mi_turn {P : Program} {w : World} {K : PySem.W.Frag} {elts : List Expr} {kk : Nat} {tpos : Pos} (a e it : Addr) :
    Turn P w K (.Tuple elts kk tpos) (ItEt K a) [e, it] e (fun i h => (∃ old, IsEnum h e it ((i : Nat) : Int) old) ∧ h.IsTupleIter it a i ∧ e ≠ it ∧ a ≠ it ∧ a ≠ e) where
  mem := by simp
  obj := fun i h st b hb => by
    obtain ⟨⟨old, he⟩, ⟨o, ho, hc, hd⟩, _⟩ := st
    rcases (by simpa using hb : b = e ∨ b = it) with rfl | rfl
    · exact ⟨_, he, fun v q => nomatch q⟩
    · exact ⟨o, ho, fun v q => by rw [hd] at q; cases q⟩
  keep := fun i h h' st k => let ⟨⟨old, he⟩, hi, hne⟩ := st; ⟨⟨old, k e (by simp) _ he⟩, hi.at fun o q => k it (by simp) o q, hne⟩
  item := by
    intro X hP hw hK hc i pins s σ H E I hf st hg
    subst hP hw hK
    obtain ⟨⟨old, he⟩, hit, hne, n1, n2⟩ := st
    obtain ⟨xs, x, hq, hx⟩ := hg
    obtain ⟨its, rv, p, hz⟩ := I.tuple hq
    obtain ⟨u, hu, ru⟩ := rv.get hx
    have p' : s.heap.IsTuple a its.toArray := p
    have hel : e < s.heap.objs.size := Heap.lt_size he
    have hil : it < s.heap.objs.size := by obtain ⟨_, q, _⟩ := hit; exact Heap.lt_size q
    have hi : i < its.length := (List.getElem?_eq_some_iff.mp hu).1
    refine wpAny_pyNext_enum_itemD (D := Draws.tuple (prog := X.prog) (w := X.w) (A := X.A.in1) (I.ok.hd hc) it a n1 its.toArray) he ⟨hit, p'⟩ (by simpa using hi) hne (by simp [hne, Ne.symm n2]) fun x' h' tk hP ho hst hT hsz hk => ?_
    have hxu : x' = u := by
      have := hP
      simp only [List.getElem?_toArray] at this
      rw [hu] at this
      exact (Option.some.inj this).symm
    subst hxu
    refine ⟨_, rfl, wpAny_letOwnedTupleGo_enum (s := { s with heap := h', toks := tk + 1 }) ho fun h'' he' sb => ?_⟩
    have hT2 : h''.get? s.heap.objs.size = some { cls := .type "tuple", data := .seq #[.int i tk, x'] } := (sb.2 _ (Nat.ne_of_gt hel)).trans hT
    have new : ObjOk X.prog X.w (upd H s.heap.objs.size (.tup [.int (i : Nat), x])) h'' s.heap.objs.size (.tup [.int (i : Nat), x]) :=
      ⟨by show 2 ≤ sizeLine; decide, [.int i tk, x'], .cons ⟨_, rfl⟩ (.cons ru .nil), ⟨_, hT2, rfl, _, rfl⟩⟩
    have I1 : Inv X pins σ (upd H s.heap.objs.size (.tup [.int (i : Nat), x])) { s with heap := h'', toks := tk + 1 } :=
      I.turnedNew (ch := [e, it]) (fun b ob hb q => (sb.2 b (fun z => hb (by simp [z]))).trans (hk b ob (fun z => hb (by simp [z])) (fun z => hb (by simp [z])) q)) hf (Nat.le_refl _) new
    refine ⟨.ref s.heap.objs.size, _, I1, rfl, ⟨_, x, rfl, I.hok.fresh (Nat.le_refl _), rfl, fun ys hy => by rw [I.tuple_inj hy hq]; exact hx⟩, ⟨⟨x', ?_⟩, hst.1.at fun o q => (sb.2 it (Ne.symm hne)).trans q, hne, n1, n2⟩, fun b hb => ?_⟩
    · have e1 : ((i + 1 : Nat) : Int) = (i : Int) + 1 := by omega
      rw [e1]; exact he'
    · have hb' : b < s.heap.objs.size := by
        rcases (by simpa using hb : b = e ∨ b = it) with rfl | rfl
        · exact hel
        · exact hil
      rw [upd_ne (Nat.ne_of_lt hb')]
      exact (hf b hb).1
  done := by
    intro X hP hw hK hc i pins s σ H E I hf st hg
    subst hP hw hK
    obtain ⟨⟨old, he⟩, hit, hne, n1, n2⟩ := st
    obtain ⟨xs, hq, hx⟩ := hg
    obtain ⟨its, rv, p, hz⟩ := I.tuple hq
    have p' : s.heap.IsTuple a its.toArray := p
    obtain ⟨f0, f1, f2, f3, f4, f5⟩ := hf it (by simp)
    have hl := rv.length
    have D := Draws.tuple (prog := X.prog) (w := X.w) (A := X.A.in1) (I.ok.hd hc) it a n1 its.toArray
    have e0 : i = its.toArray.size := by simp; omega
    rw [e0] at hit
    refine wpAny_pyNext_enum_endD D he ⟨hit, p'⟩ fun h' eb => ⟨rfl, I.turned (t' := s.toks) (fun b o hb q => eb b o hb q) f0 f1 f3 f4 f5⟩
  self := fun A i s Q E st h => let ⟨⟨_, he⟩, _⟩ := st; wpAny_pyIter_enum he h
/-- the items with their numbers -/
def numd (l : List MV) : List MV := (List.range l.length).zipWith (fun (i : Nat) x => .tup [.int i, x]) l
def enumOf : List MV → Mem → Re IterM
  | [.tup l], m => .ok ⟨numd l, fun _ => True⟩ m
  | [.ref n], m => match lstOf m (.ref n) with
    | some l => .ok ⟨numd l, fun m' => lstOf m' (.ref n) = some l⟩ m
    | none => .stuck
  | _, _ => .stuck
def mEnum (g : MA) : MI' := fun ρ m => (g ρ m).bind enumOf
def iEnumA (K : PySem.W.Frag) (ta : TA) : TI := fun σ H R => ta σ H fun vs H1 => ∃ a xs, vs = [.ref a] ∧ ((SqL K H1 a xs ∧ R (Ite K a) H1) ∨ (SqT K H1 a xs ∧ R (ItEt K a) H1))
theorem pi_enumA {e : Expr} {ta : TA} {p tpos : Pos} {elts : List Expr} {kk : Nat} (hg : Gl X "enumerate") (hm : X.mg "enumerate" = none) (ha : PA X [e] ta) (hs : starEach [e] X.env = [(false, eval e X.env)]) :
    PI X (.Tuple elts kk tpos) (.Call (.Name "enumerate" p) [e] [] pos) (iEnumA X.K ta) := by
  refine ⟨fun pins s σ H R I h => ?_⟩
  refine PyProof.Rows.Call_ (ld_blt I hg hm PyProof.Rows.boot_enumerate (PyProof.Rows.callWith_type1 (thn (ha.run pos pins s σ H _ I h) fun us s1 z => ?_) hs rfl))
  obtain ⟨vs, H1, I1, r1, a, xs, ex, q⟩ := z
  subst ex
  cases r1 with
  | cons r rr =>
    cases rr
    cases r
    have fp : ∀ b, b = s1.heap.objs.size + 1 ∨ b = s1.heap.objs.size → ∀ {h' : Heap}, Inv X pins σ H1 { s1 with heap := h' } → FpOk X pins H1 b := by
      intro b hb h' _
      have hle : s1.heap.objs.size ≤ b := by rcases hb with rfl | rfl <;> omega
      exact I1.fpOk hle (I1.hok.fresh hle)
    rcases q with ⟨hq, q⟩ | ⟨hq, q⟩
    · obtain ⟨its, rv, p', hz⟩ := I1.list hq
      refine call_enumerate_list p'.isList fun h' he hit hsz hk => wpAny_pyIter_enum he ?_
      have I2 : Inv X pins σ H1 { s1 with heap := h' } := I1.kept (t' := s1.toks) hk
      exact ⟨s1.heap.objs.size + 1, [s1.heap.objs.size + 1, s1.heap.objs.size], _, _, H1, rfl, I2, turn_enum a (s1.heap.objs.size + 1) s1.heap.objs.size, ⟨⟨.none, he⟩, hit, Nat.succ_ne_self _⟩, fun b hb => fp b (by simpa using hb) I2, q⟩
    · obtain ⟨its, rv, p', hz⟩ := I1.tuple hq
      have p2 : s1.heap.IsTuple a its.toArray := p'
      have la : a < s1.heap.objs.size := by obtain ⟨_, z, _⟩ := p2; exact Heap.lt_size z
      refine mi_enum (begins_tuple a its.toArray) p2 fun h' he hit hk => wpAny_pyIter_enum he ?_
      have I2 : Inv X pins σ H1 { s1 with heap := h' } := I1.kept (t' := s1.toks) hk
      exact ⟨s1.heap.objs.size + 1, [s1.heap.objs.size + 1, s1.heap.objs.size], _, _, H1, rfl, I2, mi_turn a (s1.heap.objs.size + 1) s1.heap.objs.size, ⟨⟨.none, he⟩, ⟨_, hit, rfl, rfl⟩, Nat.succ_ne_self _, Nat.ne_of_lt la, Nat.ne_of_lt (Nat.lt_succ_of_lt la)⟩, fun b hb => fp b (by simpa using hb) I2, q⟩
theorem zw_get {l : List MV} {i : Nat} {d : MV} (h : (numd l)[i]? = some d) : ∃ x, l[i]? = some x ∧ d = .tup [.int (i : Nat), x] := by
  unfold numd at h
  rw [List.getElem?_zipWith] at h
  cases e : l[i]? with
  | none => rw [e] at h; cases h' : (List.range l.length)[i]? <;> rw [h'] at h <;> cases h
  | some x =>
    have hi : i < l.length := (List.getElem?_eq_some_iff.mp e).1
    rw [e, List.getElem?_range hi] at h
    exact ⟨x, rfl, (Option.some.inj h).symm⟩
@[simp] theorem zw_len {l : List MV} : (numd l).length = l.length := by simp [numd]
/-- a new pair is laid -/
theorem lay_pair {x y : MV} {u v : V} {T : Addr} (M : RM K β H m) (h1 : RV K β H x u) (h2 : RV K β H y v) (hT : H T = none) : Ext β H β (upd H T (.tup [u, v])) ∧ RM K β (upd H T (.tup [u, v])) m ∧ RV K β (upd H T (.tup [u, v])) (.tup [x, y]) (.ref T) := by
  have e : Ext β H β (upd H T (.tup [u, v])) := Ext.tup hT
  exact ⟨e, M.tup hT, .tup (.inl (.inl upd_same)) (.cons (h1.ext M e) (.cons (h2.ext M e) .nil))⟩
theorem walkM_enumT {a : Addr} {l : List MV} {vs : List V} (M : RM K β H m) (h : SqT K H a vs) (r : RVs K β H l vs) : WalkM K β H ⟨numd l, fun _ => True⟩ (ItEt K a) := by
  refine ⟨fun H1 => SqT K H1 a vs, fun i H1 x H2 => ∃ T y, x = .ref T ∧ H1 T = none ∧ H2 = upd H1 T (.tup [.int (i : Nat), y]) ∧ vs[i]? = some y, ⟨fun i H1 hi g => ?_, fun H1 g => ?_, fun i H1 x H2 _ g y => ?_⟩, fun β1 H1 m1 e M1 _ => M.sqt e h, fun i H1 x H2 β1 m1 d e M1 _ hi y => ?_⟩
  · have hi : i < vs.length := by rw [← r.length]; simpa using hi
    exact ⟨vs, vs[i], g, by simp [hi]⟩
  · exact ⟨vs, g, by rw [← r.length]; simp⟩
  · obtain ⟨T, x', q1, q2, q3, q4⟩ := y
    exact ⟨T, x', q1, q2, q3, q4 vs g⟩
  · obtain ⟨T, y, rfl, q2, rfl, q4⟩ := y
    obtain ⟨x, hx, rfl⟩ := zw_get hi
    obtain ⟨v, h1, h2⟩ := (r.ext M e).get hx
    rw [h1] at q4; cases q4
    exact lay_pair M1 (.int _) h2 q2
theorem walkM_enumL {a : Addr} {d : MV} {l : List MV} (M : RM K β H m) (rd : RV K β H d (.ref a)) (h : lstOf m d = some l) : WalkM K β H ⟨numd l, fun m' => lstOf m' d = some l⟩ (Ite K a) := by
  refine ⟨fun H1 => ∃ vs, SqL K H1 a vs ∧ vs.length = l.length, fun i H1 x H2 => ∃ T y, x = .ref T ∧ H1 T = none ∧ H2 = upd H1 T (.tup [.int (i : Nat), y]) ∧ ∀ vs, SqL K H1 a vs → vs[i]? = some y, ⟨fun i H1 hi g => ?_, fun H1 g => ?_, fun i H1 x H2 _ g y => y⟩, fun β1 H1 m1 e M1 hc => ?_, fun i H1 x H2 β1 m1 d' e M1 hc hi y => ?_⟩
  · obtain ⟨vs, g1, g2⟩ := g
    have hi' : i < vs.length := by rw [g2]; simpa using hi
    exact ⟨vs, vs[i], g1, by simp [hi']⟩
  · obtain ⟨vs, g1, g2⟩ := g
    exact ⟨vs, g1, by rw [g2]; simp⟩
  · obtain ⟨a', vs, e1, h1, h2⟩ := M1.lst (rd.ext M e) hc
    cases e1
    exact ⟨vs, h1, h2.length.symm⟩
  · obtain ⟨T, y, rfl, q2, rfl, q4⟩ := y
    obtain ⟨x, hx, rfl⟩ := zw_get hi
    obtain ⟨a', vs, e1, h1, h2⟩ := M1.lst (rd.ext M e) hc
    cases e1
    obtain ⟨v, z1, z2⟩ := h2.get hx
    have := q4 vs h1
    rw [z1] at this; cases this
    exact lay_pair M1 (.int _) z2 q2
theorem ji_enum {e : Expr} {g : MA} {p tpos : Pos} {elts : List Expr} {kk : Nat} (hm : X.mg "enumerate" = none) (ha : JA X W [e] g) (hg : Gl X "enumerate" := by rfl) (hs : starEach [e] X.env = [(false, eval e X.env)] := by rfl) : JI X W (.Tuple elts kk tpos) (.Call (.Name "enumerate" p) [e] [] pos) (mEnum g) := by
  refine ⟨pi_imp (pi_enumA hg hm ha.run hs) fun σ H R ⟨ρ, m, β, hE, hM, p⟩ => ⟨ρ, m, β, hE, hM, ?_⟩⟩
  have p : PostI X W ((g ρ m).bind enumOf) β H σ R := p
  cases hf : g ρ m with
  | stuck => rw [hf] at p; exact p.elim
  | ex x m1 => rw [hf] at p; exact p
  | ok ds m1 =>
    rw [hf] at p
    intro vs H1 β1 e1 M1 V1
    have p : PostI X W (enumOf ds m1) β H σ R := p
    unfold enumOf at p
    split at p
    · cases V1 with
      | cons V1 V2 =>
        cases V2
        cases V1 with
        | tup h1 h2 => exact ⟨_, _, rfl, .inr ⟨h1, p _ _ _ e1 M1 (walkM_enumT M1 h1 h2)⟩⟩
    · cases V1 with
      | cons V1 V2 =>
        cases V2
        split at p
        · rename_i l hl
          obtain ⟨a, vs, rfl, h1, h2⟩ := M1.lst V1 hl
          exact ⟨a, vs, rfl, .inl ⟨h1, p _ _ _ e1 M1 (walkM_enumL M1 V1 hl)⟩⟩
        · exact p.elim
    · exact p.elim
end
end MI
namespace PySem
open Sem (wp)
structure ZSet (z TI TO i1 i2 l1 l2 S N : Addr) : Prop where
  D : ZipApart z TI TO i1 i2 l1 l2
  Sz : S ≠ z
  SI : S ≠ TI
  SO : S ≠ TO
  S1 : S ≠ i1
  S2 : S ≠ i2
  Sl1 : S ≠ l1
  Sl2 : S ≠ l2
  Lz : z < N
  LI : TI < N
  LO : TO < N
  L1 : i1 < N
  L2 : i2 < N
  LS : S < N
structure ZFin (h0 : Heap) (S N : Addr) (xs ys acc : Array Value) (h : Heap) : Prop where
  keep : ∀ b o, h0.get? b = some o → h.get? b = some o
  lst : ∃ c, h.get? S = some { cls := .type "list", dict := none, data := .seq acc c, slots := #[] }
  items : ∀ (j : Nat) (v : Value), acc[j]? = some v → ∃ T x y, v = .ref T ∧ N ≤ T ∧ IsPair h T x y ∧ xs[j]? = some x ∧ ys[j]? = some y
  above : h0.objs.size ≤ N
  inc : ∀ (j k T U : Nat), acc[j]? = some (.ref T) → acc[k]? = some (.ref U) → j < k → T < U
structure ZAt (h0 : Heap) (z TI TO i1 i2 l1 l2 S N : Addr) (xs ys : Array Value) (i : Nat) (acc : Array Value) (h : Heap) : Prop extends ZFin h0 S N xs ys acc h where
  zst : IsZip h z TI TO .none ∨ ∃ T f oT, IsZipHeld h z TI TO T f ∧ h.get? T = some oT ∧ N ≤ T
  ti : IsPair h TI (.ref i1) (.ref i2)
  to : ∃ a b, IsPair h TO a b
  it1 : h.IsListIter i1 l1 i
  it2 : h.IsListIter i2 l2 i
  low : N ≤ h.objs.size
  top : ∀ (j T : Nat), acc[j]? = some (.ref T) → T < h.objs.size
  in0 : ∀ b o, h0.get? b = some o → b ≠ z ∧ b ≠ TI ∧ b ≠ TO ∧ b ≠ i1 ∧ b ≠ i2 ∧ b ≠ S
section
variable {prog : Program} {w : World} {A : Around} {R : Result → Shared → Prop} {h0 : Heap} {z TI TO i1 i2 l1 l2 S N : Addr} {xs ys : Array Value}
theorem ZAt.put {i T : Nat} {h : Heap} {acc : Array Value} {x y : Value} {c : Nat} (Z : ZSet z TI TO i1 i2 l1 l2 S N) (a : ZAt h0 z TI TO i1 i2 l1 l2 S N xs ys (i + 1) acc h) (hi : acc.size = i) (hS : h.get? S = some { cls := .type "list", dict := none, data := .seq acc c, slots := #[] })
    (hT : IsPair h T x y) (hN : N ≤ T) (new : ∀ (j U : Nat), acc[j]? = some (.ref U) → U < T) (hx : xs[i]? = some x) (hy : ys[i]? = some y) : ZAt h0 z TI TO i1 i2 l1 l2 S N xs ys (i + 1) (acc.push (.ref T)) (h.update S (Obj.mapSeq (·.push (.ref T)))) := by
  have oth : ∀ b o, b ≠ S → h.get? b = some o → (h.update S (Obj.mapSeq (·.push (.ref T)))).get? b = some o := fun b o hb e => (Heap.get?_update_other _ _ (Ne.symm hb)).trans e
  have ge : ∀ b, N ≤ b → b ≠ S := fun b hb => Nat.ne_of_gt (Nat.lt_of_lt_of_le Z.LS hb)
  exact
    { keep := fun b o e => oth b o (a.in0 b o e).2.2.2.2.2 (a.keep b o e)
      lst := ⟨_, Heap.get?_update_self _ hS rfl⟩
      items := fun j v e => by
        rw [Array.getElem?_push] at e
        split at e
        · rename_i ej
          cases e
          rw [hi] at ej
          subst ej
          exact ⟨T, x, y, rfl, hN, oth _ _ (ge T hN) hT, hx, hy⟩
        · obtain ⟨T', x', y', e1, e2, e3, e4⟩ := a.items j v e
          exact ⟨T', x', y', e1, e2, oth _ _ (ge T' e2) e3, e4⟩
      above := a.above
      inc := fun j k U V e1 e2 hjk => by
        rw [Array.getElem?_push] at e1 e2
        split at e2
        · rename_i ek
          cases e2
          rw [if_neg (by omega)] at e1
          exact new j U e1
        · split at e1
          · have : k < acc.size := by
              rw [Array.getElem?_eq_some_iff] at e2
              exact e2.1
            omega
          · exact a.inc j k U V e1 e2 hjk
      top := fun j U e => by
        rw [Heap.size_update]
        rw [Array.getElem?_push] at e
        split at e
        · cases e; exact Heap.lt_size hT
        · exact a.top j U e
      zst := a.zst.elim (fun q => .inl (oth _ _ (Ne.symm Z.Sz) q)) fun ⟨T', f, oT, q, qT, qN⟩ => .inr ⟨T', f, oT, oth _ _ (Ne.symm Z.Sz) q, oth _ _ (ge T' qN) qT, qN⟩
      ti := oth _ _ (Ne.symm Z.SI) a.ti
      to := let ⟨u, v, q⟩ := a.to; ⟨u, v, oth _ _ (Ne.symm Z.SO) q⟩
      it1 := a.it1.at fun o e => oth _ _ (Ne.symm Z.S1) e
      it2 := a.it2.at fun o e => oth _ _ (Ne.symm Z.S2) e
      low := by rw [Heap.size_update]; exact a.low
      in0 := a.in0 }
end
end PySem
namespace MI
open PySem L2
variable [Nms]
section
variable {X : Cx} {W : WX} {pins : List (Addr × Obj)} {σ : L2.St} {H : Hp} {s : Shared} {pos : Pos} {K : PySem.W.Frag} {β : List Addr} {m : Mem}
/-- the items of both, side by side -/
def gZip : List MV → Mem → Re MV
  | [d, e], m => match lstOf m d, lstOf m e with
    | some l, some k => .ok (.tup ((l.zip k).map fun p => .tup [p.1, p.2])) m
    | _, _ => .stuck
  | _, _ => .stuck
end
end MI
namespace MI
open PySem L2
variable [Nms]
section
variable {X : Cx} {W : WX} {pos : Pos} {K : PySem.W.Frag} {β : List Addr} {H : Hp} {m : Mem}
def rEqE (K : PySem.W.Frag) : R2 := fun x y H Q => ∃ a b xs ys, x = .ref a ∧ y = .ref b ∧ SqL K H a xs ∧ SqL K H b ys ∧ ((xs = [] ∧ Q (.bl ys.isEmpty) H) ∨ (ys = [] ∧ Q (.bl xs.isEmpty) H))
theorem op_eqE (hu : X.A.units < cLine) : OpR X (compareOp .Eq) (rEqE X.K) := by
  intro pins s σ H x y v u Q I rx ry h
  obtain ⟨a, b, xs, ys, rfl, rfl, hx, hy, q⟩ := h
  cases rx
  cases ry
  obtain ⟨i1, r1, p1, _⟩ := I.list hx
  obtain ⟨i2, r2, p2, _⟩ := I.list hy
  have n1 := r1.length
  have n2 := r2.length
  have both : ∀ {c : Bool}, (i1.toArray.size = 0 ∨ i2.toArray.size = 0) → c = (decide (i1.length = i2.length)) → Q (.bl c) H → wpAny (model X.prog X.w) X.A (compareOp .Eq (.ref a) (.ref b)) (EP X pins σ Q) X.xe s := by
    intro c he hc z
    by_cases e : i1.length = i2.length
    · refine SeqAt.eq_listAt (e := fun _ => true) p1.isList p2.isList (by simpa using e) hu (fun j h1 h2 => ?_) ?_
      · rcases he with he | he <;> omega
      · rw [hc, decide_eq_true e] at z
        have : ((List.range i1.toArray.size).all fun _ => true) = true := List.all_eq_true.mpr fun _ _ => rfl
        rw [this]
        exact ⟨.bl true, H, I, rfl, z⟩
    · refine SeqAt.eq_list_lengthsAt p1.isList p2.isList (by simpa using e) hu ?_
      rw [hc, decide_eq_false e] at z
      exact ⟨.bl false, H, I, rfl, z⟩
  rcases q with ⟨rfl, q⟩ | ⟨rfl, q⟩
  · refine both (.inl (by simp; simpa using n1.symm)) ?_ q
    cases ys with
    | nil => simp only [List.isEmpty_nil]; exact (decide_eq_true (by simp at n1 n2; omega)).symm
    | cons y r => simp only [List.isEmpty_cons]; exact (decide_eq_false (by simp at n1 n2; omega)).symm
  · refine both (.inr (by simp; simpa using n2.symm)) ?_ q
    cases xs with
    | nil => simp only [List.isEmpty_nil]; exact (decide_eq_true (by simp at n1 n2; omega)).symm
    | cons y r => simp only [List.isEmpty_cons]; exact (decide_eq_false (by simp at n1 n2; omega)).symm
def gEqE (a b : MV) (m : Mem) : Re MV := match lstOf m a, lstOf m b with
  | some l, some [] => .ok (.bl l.isEmpty) m
  | _, _ => .stuck
theorem om_eqE : OpM X (rEqE X.K) gEqE := by
  intro W σ d e m β H x y Q M rx ry p
  unfold gEqE at p
  split at p
  · rename_i l h1 h2
    obtain ⟨a, xs, rfl, q1, q2⟩ := M.lst rx h1
    obtain ⟨b, ys, rfl, q3, q4⟩ := M.lst ry h2
    have n1 := q2.length
    have n2 := q4.length
    have e2 : ys = [] := by cases ys with | nil => rfl | cons _ _ => simp at n2
    refine ⟨a, b, xs, ys, rfl, rfl, q1, q3, .inr ⟨e2, ?_⟩⟩
    have : xs.isEmpty = l.isEmpty := by cases xs <;> cases l <;> simp_all
    rw [this]
    exact p.ok M (.bl _)
  · exact p.not_stuck
def fV : MV → Option V
  | .non => some .non
  | .bl b => some (.bl b)
  | .int i => some (.int i)
  | .str s => some (.str s)
  | _ => none
def fVs : List MV → Option (List V)
  | [] => some []
  | d :: r => match fV d, fVs r with
    | some v, some vs => some (v :: vs)
    | _, _ => none
def gCnt (d : MV) (ds : List MV) (m : Mem) : Re MV := match ds with
  | [e] => match (lstOf m d).bind fVs, fV e with
    | some us, some u => .ok (.int ((us.countP fun z => eqV z u : Nat) : Int)) m
    | _, _ => .stuck
  | _ => .stuck
def gIdx (d : MV) (ds : List MV) (m : Mem) : Re MV := match ds with
  | [e] => match (lstOf m d).bind fVs, fV e with
    | some us, some u => match us.findIdx? fun z => eqV z u with
      | some j => .ok (.int (j : Nat)) m
      | none => .stuck
    | _, _ => .stuck
  | _ => .stuck
def leS (a b : Str) : Bool := !Spec.ltCps b.cps.toList a.cps.toList
def sortM (xs : List Str) : List Str := xs.mergeSort leS
theorem leS_iff {a b : Str} : leS a b = true ↔ a.cps.toList ≤ b.cps.toList := by
  unfold leS
  rw [PyProof.Rows.ltCps_eq]
  simp [List.not_lt]
theorem leS_trans (a b c : Str) (h1 : leS a b = true) (h2 : leS b c = true) : leS a c = true := leS_iff.mpr (List.le_trans (leS_iff.mp h1) (leS_iff.mp h2))
theorem leS_total (a b : Str) : (leS a b || leS b a) = true := by
  rw [Bool.or_eq_true, leS_iff, leS_iff]
  exact List.le_total _ _
theorem str_ext {a b : Str} (h : a.cps.toList = b.cps.toList) : a = b := by
  cases a with
  | mk x => cases b with
    | mk y => congr; exact Array.toList_inj.mp h
theorem leS_anti {a b : Str} (h1 : leS a b = true) (h2 : leS b a = true) : a = b := str_ext (List.le_antisymm (leS_iff.mp h1) (leS_iff.mp h2))
theorem pair_rising : ∀ (l : List Str) (p : Str), PyProof.Rows.risingS p l = true → (p :: l).Pairwise fun a b => leS a b = true
  | [], p, _ => List.pairwise_singleton _ _
  | x :: r, p, h => by
    have h' : (leS p x && PyProof.Rows.risingS x r) = true := by simpa [PyProof.Rows.risingS, leS] using h
    rw [Bool.and_eq_true] at h'
    have ih := pair_rising r x h'.2
    refine List.pairwise_cons.mpr ⟨fun y hy => ?_, ih⟩
    rcases List.mem_cons.mp hy with rfl | hy
    · exact h'.1
    · exact leS_trans _ _ _ h'.1 ((List.pairwise_cons.mp ih).1 y hy)
theorem sortM_only {ys xs : List Str} (hp : ys.Perm xs) (hs : PyProof.Rows.sortedS ys = true) : ys = sortM xs := by
  have h1 : ys.Pairwise fun a b => leS a b = true := by
    cases ys with
    | nil => exact .nil
    | cons y r => exact pair_rising r y hs
  exact List.Perm.eq_of_pairwise (fun a b _ _ => leS_anti) h1 (List.pairwise_mergeSort leS_trans leS_total xs) (hp.trans (List.mergeSort_perm xs leS).symm)
def gSortS : List MV → Mem → Re MV
  | [d], m => match (lstOf m d).bind strsOf with
    | some xs => if xs.length < 64 then alloc (.lst ((sortM xs).map .str)) m else .stuck
    | none => .stuck
  | _, _ => .stuck
theorem RVs.ofStrs : ∀ xs : List Str, RVs K β H (xs.map .str) (xs.map .str)
  | [] => .nil
  | x :: r => .cons (.str x) (RVs.ofStrs r)
theorem lst_strs {d : MV} {ns : List Str} (h : (lstOf m d).bind strsOf = some ns) : ∃ l, lstOf m d = some l ∧ strsOf l = some ns := by
  cases e : lstOf m d with
  | none => rw [e] at h; cases h
  | some l => rw [e] at h; exact ⟨l, rfl, h⟩
theorem cm_sortS : CrM X (rSortedS X.K) gSortS := by
  intro W σ ds m β H vs Q M V p
  unfold gSortS at p
  split at p
  · cases V with
    | cons h r =>
      cases r
      split at p
      · rename_i xs e
        split at p
        · rename_i hl
          obtain ⟨l, h1, h2⟩ := lst_strs e
          obtain ⟨a, us, rfl, q1, q2⟩ := M.lst h h1
          have e2 := q2.strs h2
          subst e2
          refine ⟨a, xs, rfl, q1, hl, fun ys pp hp hs hn => ?_⟩
          obtain rfl := sortM_only hp hs
          have V1 : RVs X.K (β ++ [pp]) (upd H pp (.lst ((sortM xs).map .str))) ((sortM xs).map .str) ((sortM xs).map V.str) := RVs.ofStrs _
          exact p.alloc M hn ⟨_, upd_same, V1⟩
        · exact p.not_stuck
      · exact p.not_stuck
  · exact p.not_stuck
end
end MI
namespace MI
open PySem L2
variable [Nms]
section
variable {X : Cx} {W : WX} {pos : Pos} {K : PySem.W.Frag} {β : List Addr} {H : Hp} {m : Mem}
inductive Ents (K : PySem.W.Frag) : List DictEntry → List (Str × MV) → Prop
  | nil : Ents K [] []
  | cons {e : DictEntry} {k : Str} {t : Tok} {u : Value} {v : V} {d : MV} {l : List DictEntry} {r : List (Str × MV)} : e.key = .str k t → e.val = u → RelV v u → (∀ β H, RV K β H d v) → Ents K l r → Ents K (e :: l) ((k, d) :: r)
structure KTab (K : PySem.W.Frag) (w : World) (mg : Str → Option Value) (x : Str) (tbl : List (Str × MV)) : Prop where
  ex : ∃ (d : Addr) (es : Array DictEntry) (n : Nat), mg x = some (.ref d) ∧ KDict K w d es n ∧ Ents K es.toList tbl
theorem Ents.find {z : Str} : ∀ {l : List DictEntry} {r : List (Str × MV)}, Ents K l r → l.any (·.refKey) = false ∧ match r.lookup z with
    | some d => ∃ (e : DictEntry) (v : V), l.find? (·.key.isStr z) = some e ∧ RelV v e.val ∧ ∀ β H, RV K β H d v
    | none => l.find? (·.key.isStr z) = none
  | _, _, .nil => ⟨rfl, rfl⟩
  | _, _, .cons (e := e) (k := k) (v := v) (d := d) (l := l) (r := r) h1 h2 h3 h4 h5 => by
    obtain ⟨i1, i2⟩ := Ents.find (z := z) h5
    refine ⟨?_, ?_⟩
    · rw [List.any_cons, i1, Bool.or_false]
      unfold DictEntry.refKey
      rw [h1]
    · rw [List.lookup_cons, List.find?_cons]
      have e1 : e.key.isStr z = (k == z) := by rw [h1]; rfl
      rw [e1]
      by_cases hk : k = z
      · subst hk
        simp only [beq_self_eq_true]
        exact ⟨e, v, rfl, by rw [h2]; exact h3, h4⟩
      · rw [beq_eq_false_iff_ne.mpr hk, beq_eq_false_iff_ne.mpr (Ne.symm hk)]
        exact i2
theorem KTab.at_ {w : World} {mg : Str → Option Value} {x : Str} {tbl : List (Str × MV)} (T : KTab K w mg x tbl) : ∃ (d : Addr) (es : Array DictEntry) (n : Nat), mg x = some (.ref d) ∧ KDict K w d es n ∧ ∀ z, match tbl.lookup z with
    | some c => ∃ (u : Value) (v : V), PySem.W.nsIn K d z = some (some u) ∧ RelV v u ∧ ∀ β H, RV K β H c v
    | none => PySem.W.nsIn K d z = some none := by
  obtain ⟨d, es, n, h1, h2, h3⟩ := T.ex
  refine ⟨d, es, n, h1, h2, fun z => ?_⟩
  obtain ⟨i1, i2⟩ := h3.find (z := z)
  have e : PySem.W.nsIn K d z = match es.toList.find? (·.key.isStr z) with
      | some e => some (some e.val)
      | none => if es.toList.any (·.refKey) then none else some none := by
    unfold PySem.W.nsIn
    rw [h2.at_] <;> rfl
  cases hl : tbl.lookup z with
  | some c =>
    rw [hl] at i2
    obtain ⟨en, v, q1, q2, q3⟩ := i2
    exact ⟨en.val, v, by rw [e, q1], q2, q3⟩
  | none =>
    rw [hl] at i2
    rw [e, i2, i1]
    rfl
def mInK (tbl : List (Str × MV)) (f : ME) : ME := fun ρ m => (f ρ m).bind fun d m1 => match d with
  | .str z => .ok (.bl (tbl.lookup z).isSome) m1
  | _ => .stuck
def mItemK (tbl : List (Str × MV)) (f : ME) : ME := fun ρ m => (f ρ m).bind fun d m1 => match d with
  | .str z => match tbl.lookup z with
    | some c => .ok c m1
    | none => .stuck
  | _ => .stuck
end
end MI
namespace MI
open PySem L2
variable [Nms]
section
variable {X : Cx} {W : WX} {pos : Pos} {K : PySem.W.Frag} {β : List Addr} {H : Hp} {m : Mem}
/-- a list, a tuple, or a text by its signs -/
def seqIt : MV → Mem → Re IterM
  | .str z, m => .ok ⟨z.cps.toList.map fun c => .str ⟨#[c]⟩, fun _ => True⟩ m
  | .tup l, m => .ok ⟨l, fun _ => True⟩ m
  | .ref n, m => match lstOf m (.ref n) with
    | some l => .ok ⟨l, fun m' => lstOf m' (.ref n) = some l⟩ m
    | none => .stuck
  | _, _ => .stuck
def mAnyI (f : ME) : MI' := fun ρ m => (f ρ m).bind seqIt
theorem walkM_str {z : Str} : WalkM K β H ⟨z.cps.toList.map fun c => .str ⟨#[c]⟩, fun _ => True⟩ (Its z) := by
  refine ⟨fun _ => True, fun i H v H' => H' = H ∧ ∃ c, z.cps[i]? = some c ∧ v = .str ⟨#[c]⟩, ?_, fun _ _ _ _ _ _ => trivial, fun i H1 x H2 β1 m1 d e M1 _ hi y => ?_⟩
  · show Walk _ (List.map _ _).length _ _
    rw [List.length_map, Array.length_toList]
    exact walk_str
  · obtain ⟨rfl, c, h1, rfl⟩ := y
    rw [List.getElem?_map, Array.getElem?_toList, h1] at hi
    cases hi
    exact ⟨Ext.refl, M1, .str _⟩
theorem ji_any {tg e : Expr} {f : ME} (h : JE X W e f) : JI X W tg e (mAnyI f) := by
  refine ⟨pi_imp (pi_or (pi_str h.run) (pi_or (pi_list h.run) (pi_tup h.run))) fun σ H R ⟨ρ, m, β, hE, hM, p⟩ => ?_⟩
  have p : PostI X W ((f ρ m).bind seqIt) β H σ R := p
  have go : ∀ (t : V → Hp → Prop), (∀ d m1 β1 H1 v, f ρ m = .ok d m1 → Ext β H β1 H1 → RM X.K β1 H1 m1 → RV X.K β1 H1 d v → t v H1) → tE X W f σ H t := by
    intro t q
    refine ⟨ρ, m, β, hE, hM, ?_⟩
    cases hf : f ρ m with
    | stuck => rw [hf] at p; exact p.elim
    | ex x m1 => rw [hf] at p; exact p
    | ok d m1 => exact fun v H1 β1 e1 M1 V1 => q d m1 β1 H1 v hf e1 M1 V1
  cases hf : f ρ m with
  | stuck => rw [hf] at p; exact p.elim
  | ex x m1 => exact .inl (go _ fun d m2 β1 H1 v e => by rw [hf] at e; cases e)
  | ok d m1 =>
    rw [hf] at p
    have p : PostI X W (seqIt d m1) β H σ R := p
    cases d with
    | str z =>
      refine .inl (go _ fun d m2 β1 H1 v e e1 M1 V1 => ?_)
      rw [hf] at e
      cases e
      cases V1
      exact ⟨z, rfl, p _ _ _ e1 M1 walkM_str⟩
    | tup l =>
      refine .inr (.inr (go _ fun d m2 β1 H1 v e e1 M1 V1 => ?_))
      rw [hf] at e
      cases e
      cases V1 with
      | tup h1 h2 => exact ⟨_, rfl, ⟨_, h1⟩, p _ _ _ e1 M1 (walkM_tup M1 h1 h2)⟩
    | ref n =>
      refine .inr (.inl (go _ fun d m2 β1 H1 v e e1 M1 V1 => ?_))
      rw [hf] at e
      cases e
      have p : PostI X W (match lstOf m1 (.ref n) with
        | some l => .ok ⟨l, fun m' => lstOf m' (.ref n) = some l⟩ m1
        | none => .stuck) β H σ R := p
      cases hl : lstOf m1 (.ref n) with
      | none => rw [hl] at p; exact p.elim
      | some l =>
        rw [hl] at p
        obtain ⟨a, vs, rfl, h1, h2⟩ := M1.lst V1 hl
        exact ⟨a, rfl, ⟨vs, h1⟩, p _ _ _ e1 M1 (walkM_lst M1 V1 hl)⟩
    | non => exact p.elim
    | bl _ => exact p.elim
    | int _ => exact p.elim
    | kl _ => exact p.elim
    | clo _ _ => exact p.elim
/-- which classes a clause by that name takes -/
structure HndN (K : PySem.W.Frag) (mg : Str → Option Value) (x : Str) (P : Str → Option Bool) : Prop where
  ex : ∃ C : Addr, mg x = some (.ref C) ∧ Exm K (.ref C) P
/-- what isinstance(.., x) says of exceptions -/
structure IsxN (K : PySem.W.Frag) (mg : Str → Option Value) (x : Str) (P : Str → Option Bool) : Prop where
  ex : ∃ (c : V) (cv : Value), RelV c cv ∧ (∀ u, RelV c u → u = cv) ∧ ClsV c cv ∧ (mg x = some cv ∨ (mg x = none ∧ bootBuiltins x = some cv)) ∧ Isx K cv P
theorem je_isxN {e : Expr} {x : Str} {p q : Pos} {f : ME} {P : Str → Option Bool} (h : JE X W e f) (T : IsxN X.K X.mg x P) (hm : X.mg "isinstance" = none) (hg : Gl X "isinstance" := by rfl) (hgx : Gl X x := by rfl) (hn : x ≠ "__name__" := by decide) (hd : (x == ("__debug__" : Str)) = false := by decide)
    (he : starEach (e :: [.Name x q]) X.env = (false, eval e X.env) :: starEach [.Name x q] X.env := by rfl) (he2 : starEach (.Name x q :: []) X.env = (false, eval (.Name x q) X.env) :: starEach [] X.env := by rfl) (hpl : (backTo pos (starEach [.Name x q] X.env)).any (·.1) = false := by rfl) : JE X W (.Call (.Name "isinstance" p) [e, .Name x q] [] pos) (mIsx P f) := by
  obtain ⟨c, cv, r, hcv, hcl, hx, T⟩ := T.ex
  rcases hx with hx | ⟨hx, hb⟩
  · exact je_isx h hcv hcl (pe_glob hgx hx r hd) T hm hg he he2 hpl
  · exact je_isx h hcv hcl (pe_bltn hgx hx hb r hn hd) T hm hg he he2 hpl
section
variable {body : List Stmt} {f : MS} {P : Str → Option Bool}
theorem jx_tryKN (i j : Nat) {x n y : Str} {np py pn' spos pos' : Pos} (hs : X.stack = X.env :: X.outer) (hf : X.env.frame = some X.env.locals) (hex : X.ex = []) (hN : X.N.Nodup) (T : HndN X.K X.mg x P) (tk : Takes X W)
    (hb : ∀ (W' : WX) (pn : List (Addr × Obj)) (xe : Value → Shared → Prop), Takes (X.tr pn xe) W' → PassesOwn (model X.prog X.w) X.A X.env xe → JB (X.tr pn xe) W' body f)
    (hg : Gl X x := by rfl) (hdb : (x == ("__debug__" : Str)) = false := by decide) (hi : X.N[i]? = some n := by rfl) (hln : X.env.kindOf n = some .local := by rfl) (hj : X.N[j]? = some y := by rfl) (hly : X.env.kindOf y = some .local := by rfl)
    (hd1 : (n == ("__debug__" : Str)) = false := by decide) (hd2 : (n == ("__classdict__" : Str)) = false := by decide) :
    JS X W (.Try body [.ExceptHandler (some (.Name x np)) (some n) [.Assign [.Name y py] (.Name n pn') spos] pos'] [] [] pos) (mTryK P i j f) := by
  obtain ⟨C, h1, h2⟩ := T.ex
  exact jx_tryK i j hs hf hex hN ⟨hg, hdb, .inl h1⟩ h2 tk hb hi hln hj hly hd1 hd2
end
end
end MI
namespace MI
open PySem L2
variable [Nms]
theorem hu0 {k : Nat} {X : L2.Cx} (hr : L2.Room k X.A) : X.A.units < PySem.cLine := Nat.lt_of_succ_lt (hu1 hr)
/-- a def of the module -/
structure DefAt (K : PySem.W.Frag) (mg : Str → Option Value) (x : Str) (st : Stmt) (ps : List Str) : Prop where
  ex : ∃ (f : Addr) (fd : FuncData), Fun K x x st f fd ∧ mg x = some (.ref f) ∧ PySem.W.keepIn K (.ref f) = true ∧ Binds K fd ps []
section
variable {K : PySem.W.Frag} {h : Heap} {mg : Str → Option Value} {w : World}
theorem def_mk {x : Str} {st : Stmt} {ps : List Str} {f : Addr} {oc : Value} {od an : Option Addr} {osl : Array (Option Value)} {kV doc pm cdv ct : Value} (X : K.In h) (G : h.Ns mainGlobals mg)
    (a : PySem.W.nsIn K mainGlobals x = some (some (.ref f))) (l : K.lookup f = some ⟨oc, od, .func (PySem.W.fnOf x x (defArgs st) (defBody st) (defScope st) .none kV doc pm an cdv ct), osl⟩) (c : PySem.W.codeIn K cdv x = true) (k : PySem.W.keepIn K (.ref f) = true)
    (b : ∀ (kV doc pm : Value) (an : Option Addr) (cdv ct : Value) (us : List Value), us.length = ps.length → bindArgs (PySem.W.fnOf x x (defArgs st) (defBody st) (defScope st) .none kV doc pm an cdv ct) ⟨us, []⟩ = pure (ps.zip us)) : DefAt K mg x st ps :=
  ⟨f, _, fun_mk l c k, PySem.W.mg_of X G a, k, (fun_mk l c k).binds b⟩
theorem DefAt.fnx {P : Program} {base : Heap} {M : Mode} {x : Str} {st : Stmt} {ps : List Str} {k n : Nat} {F : MF} (D : DefAt K mg x st ps) (hok : ∀ f fd, Fun K x x st f fd → FnOk P w K mg base (M.CX P w) k f fd ps (spM K n F)) : FnX M P w K mg base k x n F := by
  obtain ⟨f, fd, h1, h2, h3, h4⟩ := D.ex
  exact ⟨f, fd, ps, hok f fd h1, h2, h3, h4⟩
theorem DefAt.fn0 {P : Program} {base : Heap} {M : Mode} {x : Str} {st : Stmt} {ps : List Str} {n : Nat} (D : DefAt K mg x st ps) (hn : ps.length = n) : FnX M P w K mg base 0 x n (fun _ _ => .stuck) := by
  obtain ⟨f, fd, h1, h2, h3, h4⟩ := D.ex
  exact fnx_0 hn h2 h3 h4
/-- a written constant, as it stands in the fragment; n bounds the depth -/
def conB (K : PySem.W.Frag) : Nat → MV → Value → Bool
  | _, .non, .none => true
  | _, .bl a, .bool b => a == b
  | _, .int a, .int b _ => a == b
  | _, .str a, .str b _ => a == b
  | n + 1, .tup l, .ref a => match K.lookup a with
    | some ⟨.type c, _, .seq its _, _⟩ => c == "tuple" && (l.length == its.size && decide (its.size ≤ 1000)) && (l.zip its.toList).all fun p => conB K n p.1 p.2
    | _ => false
  | _, _, _ => false
theorem conB_ok : ∀ {n : Nat} {d : MV} {u : Value}, conB K n d u = true → ∃ v, RelV v u ∧ ∀ β H, RV K β H d v := by
  intro n
  induction n with
  | zero =>
    intro d u e
    cases d <;> cases u <;> simp [conB] at e
    · exact ⟨.non, rfl, fun _ _ => .non⟩
    · subst e; exact ⟨.bl _, rfl, fun _ _ => .bl _⟩
    · subst e; exact ⟨.int _, ⟨_, rfl⟩, fun _ _ => .int _⟩
    · subst e; exact ⟨.str _, ⟨_, rfl⟩, fun _ _ => .str _⟩
  | succ n ih =>
    intro d u e
    cases d <;> cases u <;> simp [conB] at e
    · exact ⟨.non, rfl, fun _ _ => .non⟩
    · subst e; exact ⟨.bl _, rfl, fun _ _ => .bl _⟩
    · subst e; exact ⟨.int _, ⟨_, rfl⟩, fun _ _ => .int _⟩
    · subst e; exact ⟨.str _, ⟨_, rfl⟩, fun _ _ => .str _⟩
    · rename_i l a
      split at e
      · rename_i c dd its k sl hl
        rw [Bool.and_eq_true, Bool.and_eq_true, Bool.and_eq_true, beq_iff_eq, beq_iff_eq, decide_eq_true_eq, List.all_eq_true] at e
        obtain ⟨⟨rfl, e2, e4⟩, e3⟩ := e
        have key : ∀ (l : List MV) (us : List Value), l.length = us.length → (∀ p ∈ l.zip us, conB K n p.1 p.2 = true) → ∃ vs, Vals vs us ∧ ∀ β H, RVs K β H l vs := by
          intro l
          induction l with
          | nil =>
            intro us h1 _
            cases us with
            | nil => exact ⟨[], .nil, fun _ _ => .nil⟩
            | cons _ _ => simp at h1
          | cons d l il =>
            intro us h1 h2
            cases us with
            | nil => simp at h1
            | cons u us =>
              obtain ⟨v, r1, r2⟩ := ih (h2 (d, u) (by simp))
              obtain ⟨vs, r3, r4⟩ := il us (by simpa using h1) fun p hp => h2 p (by simp [hp])
              exact ⟨v :: vs, .cons r1 r3, fun β H => .cons (r2 β H) (r4 β H)⟩
        obtain ⟨vs, r1, r2⟩ := key l its.toList (by simpa using e2) (fun p hp => e3 p hp)
        refine ⟨.ref a, rfl, fun β H => .tup (.inr ⟨_, its, k, hl, rfl, rfl, Nat.le_of_lt (small1000 e4), r1⟩) (r2 β H)⟩
      · cases e
theorem con_any {x : Str} {d : MV} {u : Value} (n : Nat) (X : K.In h) (G : h.Ns mainGlobals mg) (a : PySem.W.nsIn K mainGlobals x = some (some u)) (e : conB K n d u = true) : Con K mg x d := by
  obtain ⟨v, r1, r2⟩ := conB_ok e
  exact ⟨u, v, PySem.W.mg_of X G a, r1, r2⟩
theorem exf_mk {x : Str} {C : Addr} (X : K.In h) (G : h.Ns mainGlobals mg) (a : PySem.W.nsIn K mainGlobals x = some (some (.ref C))) (b : PySem.W.excIn K C [.type "ValueError", .type "Exception", .type "BaseException", .type "object"] "ValueError.__new__" = true)
    (c : PySem.W.keepIn K (.ref C) = true) (d : PySem.W.subIn K (.ref C) (.type "BaseException") = some true) (e : PySem.W.typeIn K (.ref C) = some (.type "type")) : ExF K mg x := ⟨C, a, PySem.W.mg_of X G a, b, c, d, e⟩
def hndB (K : PySem.W.Frag) (c : Value) (l : List (Str × Bool)) : Bool := l.all fun p => match PySem.W.nsIn K mainGlobals p.1 with
  | some (some (.ref C)) => PySem.W.exmOne K (.ref C) c == some p.2
  | _ => false
theorem lookup_mem {α : Type} : ∀ {l : List (Str × α)} {y : Str} {b : α}, l.lookup y = some b → (y, b) ∈ l
  | (k, c) :: l, y, b, h => by
    rw [List.lookup_cons] at h
    split at h
    · rename_i e
      cases h
      rw [eq_of_beq e]
      exact List.mem_cons_self
    · exact List.mem_cons_of_mem _ (lookup_mem h)
theorem hnd_mk {x : Str} {C : Addr} {l : List (Str × Bool)} (X : K.In h) (G : h.Ns mainGlobals mg) (a : PySem.W.nsIn K mainGlobals x = some (some (.ref C))) (e : hndB K (.ref C) l = true) : HndN K mg x (fun y => l.lookup y) := by
  refine ⟨C, PySem.W.mg_of X G a, fun y D b hy hb => ?_⟩
  have q := List.all_eq_true.mp e (y, b) (lookup_mem hb)
  have hy : PySem.W.nsIn K mainGlobals y = some (some (.ref D)) := hy
  simp only [hy] at q
  exact eq_of_beq q
def excB (K : PySem.W.Frag) (D : Addr) : Bool :=
  PySem.W.findIn K (.ref D) "__getattribute__" == some (some (.builtin "BaseException.__getattribute__")) && PySem.W.findIn K (.ref D) "__getattr__" == some none && PySem.W.subIn K (.ref D) (.type "BaseException") == some true && PySem.W.hasDictIn K D &&
    PySem.W.findIn K (.ref D) "__class__" == some (some (.builtin "object.__class__")) && PySem.W.specialIn K (.builtin "object.__class__") "__get__" == some (some (.builtin "getset_descriptor.__get__")) && PySem.W.takesIn K (.builtin "object.__class__") == some true && PySem.W.mroIn K D (.type "object") == some true
theorem excB_ok {D : Addr} (e : excB K D = true) : ExcC K D := by
  unfold excB at e
  simp only [Bool.and_eq_true, beq_iff_eq] at e
  obtain ⟨⟨⟨⟨⟨⟨⟨e1, e2⟩, e3⟩, e4⟩, e5⟩, e6⟩, e7⟩, e8⟩ := e
  exact ⟨e1, e2, e3, e4, e5, e6, e7, e8⟩
def isxB (K : PySem.W.Frag) (c : Value) (l : List (Str × Bool)) : Bool := PySem.W.kitOne K (.type "NoneType") c == some false && l.all fun p => match PySem.W.nsIn K mainGlobals p.1 with
  | some (some (.ref D)) => excB K D && PySem.W.kitOne K (.ref D) c == some p.2
  | _ => false
theorem isx_of {c : Value} {l : List (Str × Bool)} (e : isxB K c l = true) : Isx K c (fun y => l.lookup y) := by
  unfold isxB at e
  rw [Bool.and_eq_true] at e
  refine ⟨fun y D b hy hb => ?_, eq_of_beq e.1⟩
  have q := List.all_eq_true.mp e.2 (y, b) (lookup_mem hb)
  have hy : PySem.W.nsIn K mainGlobals y = some (some (.ref D)) := hy
  simp only [hy, Bool.and_eq_true] at q
  exact ⟨excB_ok q.1, eq_of_beq q.2⟩
theorem isx_own {x : Str} {C : Addr} {l : List (Str × Bool)} (X : K.In h) (G : h.Ns mainGlobals mg) (a : PySem.W.nsIn K mainGlobals x = some (some (.ref C))) (e : isxB K (.ref C) l = true) : IsxN K mg x (fun y => l.lookup y) :=
  ⟨.ref C, .ref C, rfl, fun _ r => r, .own C, .inl (PySem.W.mg_of X G a), isx_of e⟩
theorem isx_blt {x : Str} {T : String} {l : List (Str × Bool)} (X : K.In h) (G : h.Ns mainGlobals mg) (a : PySem.W.nsIn K mainGlobals x = some none) (hb : bootBuiltins x = some (.type T)) (e : isxB K (.type T) l = true) : IsxN K mg x (fun y => l.lookup y) :=
  ⟨.ty T, .type T, rfl, fun _ r => r, .ty T, .inr ⟨PySem.W.mg_none_of X G a, hb⟩, isx_of e⟩
theorem kl_of {H : Hp} {a : Addr} {xs : List V} (hO : Only H) (hS : SqL K H a xs) : KL K [] H a xs := by
  rcases hS with (h | ⟨ob, h⟩) | h
  · rcases hO a with z | ⟨o, ys, z⟩
    · rw [z] at h; cases h
    · rw [z] at h; cases h
  · exact .inl ⟨List.not_mem_nil, ob, h⟩
  · exact .inr h
theorem ints_rv {β : List Addr} {H : Hp} : ∀ ns : List Int, RVs K β H (ns.map MV.int) (ns.map V.int)
  | [] => .nil
  | n :: r => .cons (.int n) (ints_rv r)
theorem spM_law {F : MF} {H : Hp} {a : Addr} {ns : List Int} (ht : Nms.tb K = []) (hO : Only H) (hS : SqL K H a (ns.map V.int)) (hF : ∃ m', F [.kl (ns.map .int)] [] = .ok (.bl true) m') : spM K 1 F [.ref a] H (fun v _ => v = .bl true) fun _ _ _ => False := by
  refine ⟨rfl, [.kl (ns.map .int)], [], [], .cons (.kl (kl_of hO hS) (ints_rv ns)) .nil, ⟨fun P r => ?_, rfl, List.nodup_nil, fun n o a h => by simp at h⟩, ?_⟩
  · have no : ∀ Q, Rch (Nms.tb K) H Q → False := fun Q r => by
      induction r with
      | st h => rw [ht] at h; cases h
      | en _ _ _ _ _ ih => exact ih
    exact (no P r).elim
  obtain ⟨m', e⟩ := hF
  rw [e]
  intro v H' β' _ _ V
  cases V
  rfl
theorem walkM {l : PySem.W.OpenLaw} {k : Nat} {q : Program} {loose : List Str} {XP : (Str → Option Value) → Heap → Prop} {YP : World → Heap → Prop} {d : DefRec} {K : Params → PySem.W.Frag} {x : Str} {F : MF}
    (ht : ∀ K : PySem.W.Frag, Nms.tb K = []) (hn : l.most = some 63) (hdf : d.params.defaults = []) (hr : Room k callerA) (hY : ∀ (w : World) (h : Heap), YP w h → (K w.params).In h)
    (G : ∀ (w : World) (mg : Str → Option Value) (fa : Addr) (h : Heap), (K w.params).In h → h.Ns mainGlobals mg → mg d.name = some (.ref fa) →
      ∃ fd : FuncData, (∀ (s : Shared) (u : Value), BindsTo s fd ⟨[u], []⟩ [(x, u)]) ∧ ∀ base : Heap, FnOk l.prog w (K w.params) mg base (L2.CX l.prog w) k fa fd [x] (spM (K w.params) 1 F))
    (hF : ∀ ns : List Int, ns.length ≤ 63 → (∀ z ∈ ns, Builtin.Int.intBits z ≤ 1048576) → ∃ m', F [.kl (ns.map .int)] [] = .ok (.bl true) m') :
    PySem.W.WalkO q loose XP YP l.row.toRowW d [] (fun f vs => PySem.call f vs) :=
  walk_ofB (n := 63) (k := k) (x := x) (CX := fun w => L2.CX l.prog w) (sp := fun w => spM (K w.params) 1 F) hn (by decide) hdf hr hY (fun w mg fa h X N e => let ⟨fd, b, f⟩ := G w mg fa h X N e; ⟨fd, b, fun base _ _ => f base⟩)
    (fun w H a ns hl hb hO hS => spM_law (ht _) hO hS (hF ns hl hb)) fun w H s e s' z => by
      obtain ⟨_, _, _, _, _, _, _, _, _, _, _, _, z⟩ := z
      exact z
end
end MI
namespace MI
open PySem L2
@[irreducible] def W {α : Type} (r : Re α) (Q : α → Mem → Prop) (E : Exn → Mem → Prop) : Prop := match r with
  | .ok a m => Q a m
  | .ex x m => E x m
  | .stuck => False
section
variable {α γ : Type} {Q Q' : α → Mem → Prop} {E E' : Exn → Mem → Prop}
@[simp] theorem W_ok {a : α} {m : Mem} : W (.ok a m) Q E = Q a m := by with_unfolding_all rfl
@[simp] theorem W_ex {x : Exn} {m : Mem} : W (.ex x m : Re α) Q E = E x m := by with_unfolding_all rfl
@[simp] theorem W_stuck : W (.stuck : Re α) Q E = False := by with_unfolding_all rfl
@[simp] theorem W_bind {r : Re γ} {f : γ → Mem → Re α} : W (r.bind f) Q E = W r (fun a m => W (f a m) Q E) E := by with_unfolding_all
  cases r <;> rfl
theorem W.mono {r : Re α} (h : W r Q' E') (hq : ∀ a m, Q' a m → Q a m) (he : ∀ x m, E' x m → E x m := by first | (intro _ _ h; exact h.elim) | (intro _ _ h; exact h)) : W r Q E := by with_unfolding_all
  cases r with
  | ok a m => exact hq a m h
  | ex x m => exact he x m h
  | stuck => exact h
theorem W_ite {c : Prop} [Decidable c] {a b : Re α} : W (if c then a else b) Q E = if c then W a Q E else W b Q E := by with_unfolding_all split <;> rfl
end
abbrev E0 : Exn → Mem → Prop := fun _ _ => False
section
variable {ρ : Env} {m : Mem} {Q : Fl → Mem → Prop} {E : Exn → Mem → Prop}
@[simp] theorem W_onE {α : Type} {r : Re α} {k : α → Mem → Re Fl} : W (onE ρ r k) Q E = W r (fun a m => W (k a m) Q E) (fun x m => Q (.ex x ρ) m) := by with_unfolding_all
  cases r <;> rfl
/-- on to the next statement -/
def nxt (f : MS) (Q : Fl → Mem → Prop) (E : Exn → Mem → Prop) : Fl → Mem → Prop := fun a m => match a with
  | .nx ρ => W (f ρ m) Q E
  | a => Q a m
@[simp] theorem W_seq {f g : MS} : W (mSeq f g ρ m) Q E = W (f ρ m) (nxt g Q E) E := by with_unfolding_all
  unfold mSeq
  cases f ρ m with
  | ok a m => cases a <;> rfl
  | ex x m => rfl
  | stuck => rfl
@[simp] theorem nxt_nx {f : MS} : nxt f Q E (.nx ρ) m = W (f ρ m) Q E := by with_unfolding_all rfl
@[simp] theorem nxt_rt {f : MS} {d : MV} : nxt f Q E (.rt d) m = Q (.rt d) m := rfl
@[simp] theorem nxt_ex {f : MS} {x : Exn} : nxt f Q E (.ex x ρ) m = Q (.ex x ρ) m := rfl
def fin (Q : MV → Mem → Prop) (E : Exn → Mem → Prop) : Fl → Mem → Prop := fun a m => match a with
  | .nx _ => Q .non m
  | .rt d => Q d m
  | .ex x _ => E x m
  | _ => False
@[simp] theorem W_end {r : Re Fl} {Q : MV → Mem → Prop} : W (endOf r) Q E = W r (fin Q E) E0 := by with_unfolding_all
  cases r with
  | ok a m => cases a <;> rfl
  | ex x m => rfl
  | stuck => rfl
@[simp] theorem fin_nx {Q : MV → Mem → Prop} : fin Q E (.nx ρ) m = Q .non m := rfl
@[simp] theorem fin_rt {Q : MV → Mem → Prop} {d : MV} : fin Q E (.rt d) m = Q d m := rfl
@[simp] theorem fin_ex {Q : MV → Mem → Prop} {x : Exn} : fin Q E (.ex x ρ) m = E x m := rfl
@[simp] theorem W_ifS {c : MT} {f g : MS} : W (mIfS c f g ρ m) Q E = W (c ρ m) (fun b m => if b = true then W (f ρ m) Q E else W (g ρ m) Q E) (fun x m => Q (.ex x ρ) m) := by with_unfolding_all
  unfold mIfS
  rw [W_onE]
  congr 1
  funext b m
  rw [W_ite]
@[simp] theorem W_asg {f : ME} {i : Nat} : W (mAsg f (nName i) ρ m) Q E = W (f ρ m) (fun d m => Q (.nx (ρ.set i (some d))) m) (fun x m => Q (.ex x ρ) m) := by with_unfolding_all
  unfold mAsg nName
  rw [W_onE]
  rfl
@[simp] theorem W_ret {f : ME} : W (mRet f ρ m) Q E = W (f ρ m) (fun d m => Q (.rt d) m) (fun x m => Q (.ex x ρ) m) := by with_unfolding_all
  unfold mRet
  rw [W_onE]
  rfl
@[simp] theorem W_drop {f : ME} : W (mDrop f ρ m) Q E = W (f ρ m) (fun _ m => Q (.nx ρ) m) (fun x m => Q (.ex x ρ) m) := by with_unfolding_all
  unfold mDrop
  rw [W_onE]
  rfl
@[simp] theorem W_skip : W (mSkip ρ m) Q E = Q (.nx ρ) m := by with_unfolding_all rfl
@[simp] theorem W_retN : W (mRetN ρ m) Q E = Q (.rt .non) m := by with_unfolding_all rfl
@[simp] theorem W_raise {x : Str} : W (mRaise x ρ m) Q E = Q (.ex ⟨x, []⟩ ρ) m := by with_unfolding_all rfl
end
section
variable {ρ : Env} {m : Mem} {Q : MV → Mem → Prop} {E : Exn → Mem → Prop}
@[simp] theorem W_C {d : MV} : W (mC d ρ m) Q E = Q d m := by with_unfolding_all rfl
@[simp] theorem W_bin {g : MV → MV → Mem → Re MV} {f k : ME} : W (mBin g f k ρ m) Q E = W (f ρ m) (fun a m => W (k ρ m) (fun b m => W (g a b m) Q E) E) E := by with_unfolding_all
  unfold mBin
  simp only [W_bind]
@[simp] theorem W_call {F : MF} {g : MA} : W (mCall F g ρ m) Q E = W (g ρ m) (fun ds m => W (F ds m) Q E) E := by with_unfolding_all
  unfold mCall
  simp only [W_bind]
@[simp] theorem W_nil {Q : List MV → Mem → Prop} : W (mNil ρ m) Q E = Q [] m := by with_unfolding_all rfl
@[simp] theorem W_cons {f : ME} {g : MA} {Q : List MV → Mem → Prop} : W (mCons f g ρ m) Q E = W (f ρ m) (fun d m => W (g ρ m) (fun ds m => Q (d :: ds) m) E) E := by with_unfolding_all
  unfold mCons
  simp only [W_bind, W_ok]
@[simp] theorem W_B {f : ME} {Q : Bool → Mem → Prop} : W (mB f ρ m) Q E = W (f ρ m) (fun d m => match d with | .bl b => Q b m | _ => False) E := by with_unfolding_all
  unfold mB
  rw [W_bind]
  congr 1
  funext d m
  cases d <;> rfl
@[simp] theorem W_tru {f : ME} {Q : Bool → Mem → Prop} : W (mTru f ρ m) Q E = W (f ρ m) (fun d m => match tru m d with | some b => Q b m | none => False) E := by with_unfolding_all
  unfold mTru
  rw [W_bind]
  congr 1
  funext d m
  cases tru m d <;> rfl
@[simp] theorem W_notT {f : MT} {Q : Bool → Mem → Prop} : W (mNotT f ρ m) Q E = W (f ρ m) (fun b m => Q (!b) m) E := by with_unfolding_all
  unfold mNotT
  rw [W_bind]
  rfl
@[simp] theorem W_andT {f g : MT} {Q : Bool → Mem → Prop} : W (mAndT f g ρ m) Q E = W (f ρ m) (fun b m => if b = true then W (g ρ m) Q E else Q false m) E := by with_unfolding_all
  unfold mAndT
  rw [W_bind]
  congr 1
  funext b m
  rw [W_ite]
  rfl
@[simp] theorem W_orT {f g : MT} {Q : Bool → Mem → Prop} : W (mOrT f g ρ m) Q E = W (f ρ m) (fun b m => if b = true then Q true m else W (g ρ m) Q E) E := by with_unfolding_all
  unfold mOrT
  rw [W_bind]
  congr 1
  funext b m
  rw [W_ite]
  rfl
@[simp] theorem W_and {f g : ME} : W (mAnd f g ρ m) Q E = W (f ρ m) (fun d m => match tru m d with | some true => W (g ρ m) Q E | some false => Q d m | none => False) E := by with_unfolding_all
  unfold mAnd
  rw [W_bind]
  congr 1
  funext d m
  cases tru m d with
  | none => rfl
  | some b => cases b <;> rfl
@[simp] theorem W_or {f g : ME} : W (mOr f g ρ m) Q E = W (f ρ m) (fun d m => match tru m d with | some true => Q d m | some false => W (g ρ m) Q E | none => False) E := by with_unfolding_all
  unfold mOr
  rw [W_bind]
  congr 1
  funext d m
  cases tru m d with
  | none => rfl
  | some b => cases b <;> rfl
@[simp] theorem W_not {f : ME} : W (mNot f ρ m) Q E = W (f ρ m) (fun d m => match tru m d with | some b => Q (.bl (!b)) m | none => False) E := by with_unfolding_all
  unfold mNot
  rw [W_bind]
  congr 1
  funext d m
  cases tru m d <;> rfl
@[simp] theorem W_if {c : MT} {f g : ME} : W (mIf c f g ρ m) Q E = W (c ρ m) (fun b m => if b = true then W (f ρ m) Q E else W (g ρ m) Q E) E := by with_unfolding_all
  unfold mIf
  rw [W_bind]
  congr 1
  funext b m
  rw [W_ite]
@[simp] theorem W_tup {g : MA} : W (mTup g ρ m) Q E = W (g ρ m) (fun ds m => ds.length ≤ sizeLine ∧ Q (.tup ds) m) E := by with_unfolding_all
  unfold mTup
  rw [W_bind]
  congr 1
  funext ds m
  rw [W_ite]
  by_cases h : ds.length ≤ sizeLine
  · rw [if_pos h]; simp [h]
  · rw [if_neg h]; simp [h]
@[simp] theorem W_lst {g : MA} : W (mLst g ρ m) Q E = W (g ρ m) (fun ds m => ds.length ≤ sizeLine ∧ Q (.ref m.length) (m ++ [.lst ds])) E := by with_unfolding_all
  unfold mLst
  rw [W_bind]
  congr 1
  funext ds m
  rw [W_ite]
  by_cases h : ds.length ≤ sizeLine
  · rw [if_pos h]; simp [h, alloc]
  · rw [if_neg h]; simp [h]
@[simp] theorem W_star {f : ME} {g : MA} {Q : List MV → Mem → Prop} : W (mStar f g ρ m) Q E = W (f ρ m) (fun d m => match seqOf m d with | some l => W (g ρ m) (fun ds m => Q (l ++ ds) m) E | none => False) E := by with_unfolding_all
  unfold mStar
  rw [W_bind]
  congr 1
  funext d m
  cases seqOf m d with
  | none => rfl
  | some l => simp
@[simp] theorem W_sl {f : ME} {l h : MO'} : W (mSl f l h ρ m) Q E = W (f ρ m) (fun d m => W (l ρ m) (fun lo m => W (h ρ m) (fun hi m => W (gSl d lo hi m) Q E) E) E) E := by with_unfolding_all
  unfold mSl
  simp only [W_bind]
@[simp] theorem W_no {Q : Option Int → Mem → Prop} : W (mNo ρ m) Q E = Q none m := by with_unfolding_all rfl
@[simp] theorem W_endO {f : ME} {Q : Option Int → Mem → Prop} : W (mEnd f ρ m) Q E = W (f ρ m) (fun d m => match d with | .int i => Q (some i) m | _ => False) E := by with_unfolding_all
  unfold mEnd
  rw [W_bind]
  congr 1
  funext d m
  cases d <;> rfl
@[simp] theorem W_dnew : W (mDNew ρ m) Q E = Q (.ref m.length) (m ++ [.dct []]) := by with_unfolding_all rfl
@[simp] theorem W_isi {T : String} {f : ME} : W (mIsi T f ρ m) Q E = W (f ρ m) (fun d m => match (tyM m d).bind fun t => kitB t T with | some b => Q (.bl b) m | none => False) E := by with_unfolding_all
  unfold mIsi
  rw [W_bind]
  congr 1
  funext d m
  cases (tyM m d).bind fun t => kitB t T <;> rfl
@[simp] theorem W_bm {g : MV → List MV → Mem → Re MV} {f : ME} {a : MA} : W (mBM g f a ρ m) Q E = W (f ρ m) (fun d m => if (lstOf m d).isSome = true then W (a ρ m) (fun ds m => W (g d ds m) Q E) E else False) E := by with_unfolding_all
  unfold mBM
  rw [W_bind]
  congr 1
  funext d m
  rw [W_ite]
  simp only [W_bind, W_stuck]
@[simp] theorem W_chain {g g' : MV → MV → Mem → Re MV} {fa fb fc : ME} : W (mChain g g' fa fb fc ρ m) Q E = W (fa ρ m) (fun a m => W (fb ρ m) (fun b m => W (g a b m) (fun r m => match r with | .bl true => W (fc ρ m) (fun c m => W (g' b c m) Q E) E | .bl false => Q (.bl false) m | _ => False) E) E) E := by with_unfolding_all
  unfold mChain
  simp only [W_bind]
  congr 1
  funext a m
  congr 1
  funext b m
  congr 1
  funext r m
  cases r with
  | bl b => cases b <;> simp
  | _ => rfl
@[simp] theorem W_neg {f : ME} : W (mNeg f ρ m) Q E = W (f ρ m) (fun d m => match d with | .int i => Q (.int (-i)) m | _ => False) E := by with_unfolding_all
  unfold mNeg
  rw [W_bind]
  congr 1
  funext d m
  cases d <;> rfl
end
section
variable {ρ : Env} {m : Mem} {E : Exn → Mem → Prop}
@[simp] theorem W_for {h : MI'} {g : MG} {body : MS} {Q : Fl → Mem → Prop} : W (mFor h g body ρ m) Q E = W (h ρ m) (fun it m => W (loopM it.chk g body it.items ρ m) Q E) (fun x m => Q (.ex x ρ) m) := by with_unfolding_all
  unfold mFor
  rw [W_onE]
@[simp] theorem W_lc {h : MI'} {g : NG} {t : MT} {e : ME} {vs : List Nat} {Q : MV → Mem → Prop} : W (mLc h g t e vs ρ m) Q E = W (h ρ m) (fun it m => W (lcM it.chk g t e (wipeM ρ vs) it.items [] m) (fun l m => Q (.ref m.length) (m ++ [.lst l])) E) E := by with_unfolding_all
  unfold mLc
  simp only [W_bind]
  rfl
/-- a for loop over names: what holds at every turn -/
theorem W_loop {chk : Mem → Prop} {i : Nat} {body : MS} {Q : Fl → Mem → Prop} (I : List MV → Env → Mem → Prop) : ∀ (l : List MV) (ρ : Env) (m : Mem), I l ρ m → (∀ l ρ m, I l ρ m → chk m) →
    (∀ d l ρ m, I (d :: l) ρ m → W (body (ρ.set i (some d)) m) (fun a m => match a with | .nx ρ' => I l ρ' m | .ct ρ' => I l ρ' m | .bk ρ' => Q (.nx ρ') m | a => Q a m) E) → (∀ ρ m, I [] ρ m → Q (.nx ρ) m) → W (loopM chk (nName i) body l ρ m) Q E
  | [], ρ, m, h, hc, _, hd => by with_unfolding_all
    unfold loopM
    rw [if_pos (hc _ _ _ h)]
    exact hd _ _ h
  | d :: l, ρ, m, h, hc, hs, hd => by with_unfolding_all
    unfold loopM
    rw [if_pos (hc _ _ _ h)]
    show W (match body (ρ.set i (some d)) m with
      | .ok (.nx ρ2) m2 => loopM chk (nName i) body l ρ2 m2
      | .ok (.ct ρ2) m2 => loopM chk (nName i) body l ρ2 m2
      | .ok (.bk ρ2) m2 => .ok (.nx ρ2) m2
      | q => q) Q E
    have q := hs d l ρ m h
    cases hb : body (ρ.set i (some d)) m with
    | stuck => rw [hb] at q; exact q
    | ex x m' => rw [hb] at q; exact q
    | ok a m' =>
      rw [hb] at q
      cases a with
      | nx ρ' => exact W_loop I l ρ' m' q hc hs hd
      | ct ρ' => exact W_loop I l ρ' m' q hc hs hd
      | bk ρ' => exact q
      | rt d => exact q
      | ex x ρ' => exact q
/-- a comprehension: what holds at every turn -/
theorem W_lcs {chk : Mem → Prop} {g : NG} {t : MT} {e : ME} {Q : List MV → Mem → Prop} (I : List MV → List MV → Mem → Prop) : ∀ (l acc : List MV) (m : Mem), I l acc m → (∀ l acc m, I l acc m → chk m) →
    (∀ d l acc m, I (d :: l) acc m → ∃ as, g d m = some as ∧ W (t (setE ρ as) m) (fun b m => if b = true then W (e (setE ρ as) m) (fun y m => acc.length < sizeLine ∧ I l (acc ++ [y]) m) E0 else I l acc m) E0) → (∀ acc m, I [] acc m → Q acc m) → W (lcM chk g t e ρ l acc m) Q E
  | [], acc, m, h, hc, _, hd => by with_unfolding_all
    unfold lcM
    rw [if_pos (hc _ _ _ h)]
    exact hd _ _ h
  | d :: l, acc, m, h, hc, hs, hd => by with_unfolding_all
    unfold lcM
    rw [if_pos (hc _ _ _ h)]
    obtain ⟨as, e1, q⟩ := hs d l acc m h
    rw [e1]
    dsimp only
    cases ht : t (setE ρ as) m with
    | stuck => rw [ht] at q; exact q.elim
    | ex x m' => rw [ht] at q; exact q.elim
    | ok b m' =>
      rw [ht] at q
      cases b with
      | false => exact W_lcs I l acc m' q hc hs hd
      | true =>
        have q : W (e (setE ρ as) m') (fun y m => acc.length < sizeLine ∧ I l (acc ++ [y]) m) E0 := q
        dsimp only
        cases he : e (setE ρ as) m' with
        | stuck => rw [he] at q; exact q.elim
        | ex x m2 => rw [he] at q; exact q.elim
        | ok y m2 =>
          rw [he] at q
          dsimp only
          rw [if_pos q.1]
          exact W_lcs I l (acc ++ [y]) m2 q.2 hc hs hd
end
section
variable {ρ : Env} {m : Mem} {E : Exn → Mem → Prop}
@[simp] theorem W_vr {i : Nat} {Q : MV → Mem → Prop} : W (mVar i ρ m) Q E = match ρ[i]? with | some (some d) => Q d m | _ => False := by with_unfolding_all
  unfold mVar
  cases ρ[i]? with
  | none => rfl
  | some o => cases o <;> rfl
theorem W_asgT {f : ME} {n : Nat} {k : MGs} {Q : Fl → Mem → Prop} : W (mAsg f (nTup n k) ρ m) Q E = W (f ρ m) (fun d m => match seqOf m d with
    | some l => if l.length = n then (match k l ρ m with | .ok ρ' m' => Q (.nx ρ') m' | _ => False) else False
    | none => False) (fun x m => Q (.ex x ρ) m) := by with_unfolding_all
  unfold mAsg nTup
  rw [W_onE]
  congr 1
  funext d m
  cases seqOf m d with
  | none => rfl
  | some l =>
    by_cases h : l.length = n
    · simp only [h, if_true]
      cases k l ρ m <;> rfl
    · simp only [h, if_false]
      rfl
@[simp] theorem W_store {fo fi fv : ME} {Q : Fl → Mem → Prop} : W (mStore fo fi fv ρ m) Q E = W (fv ρ m) (fun v m1 => W (fo ρ m1) (fun d m2 => match dctOf m2 d with
    | some _ => W (fi ρ m2) (fun k m3 => match dctOf m3 d, keyOf k with
      | some (n, l), some q => if l.length < sizeLine then Q (.nx ρ) (m3.set n (.dct (putM l q v))) else False
      | _, _ => False) (fun x m => Q (.ex x ρ) m)
    | none => W (fi ρ m2) (fun k m3 => match k with
      | .int k => match mutOf m3 d with
        | some (n, l) => match ixN l.length k with
          | some j => Q (.nx ρ) (m3.set n (.lst (l.set j v)))
          | none => False
        | none => False
      | _ => False) E0) (fun x m => Q (.ex x ρ) m)) (fun x m => Q (.ex x ρ) m) := by with_unfolding_all
  unfold mStore
  simp only [W_onE]
  congr 1
  funext v m1
  congr 1
  funext d m2
  cases dctOf m2 d with
  | some p =>
    simp only [W_onE]
    congr 1
    funext k m3
    cases dctOf m3 d with
    | none => rfl
    | some p =>
      obtain ⟨n, l⟩ := p
      cases keyOf k with
      | none => rfl
      | some q => simp only [W_ite, W_ok, W_stuck]
  | none =>
    dsimp only
    cases fi ρ m2 with
    | stuck => rfl
    | ex x m => rfl
    | ok k m3 =>
      cases k with
      | int k =>
        simp only [W_ok]
        cases mutOf m3 d with
        | none => rfl
        | some p =>
          obtain ⟨n, l⟩ := p
          dsimp only
          cases ixN l.length k <;> rfl
      | _ => rfl
@[simp] theorem W_aug {i : Nat} {g : MV → MV → Mem → Re MV} {f : ME} {Q : Fl → Mem → Prop} : W (mAug i g f ρ m) Q E = match ρ[i]? with
    | some (some d) => W (f ρ m) (fun e m1 => W (g d e m1) (fun r m2 => Q (.nx (ρ.set i (some r))) m2) (fun x m => Q (.ex x ρ) m)) (fun x m => Q (.ex x ρ) m)
    | _ => False := by with_unfolding_all
  unfold mAug
  cases ρ[i]? with
  | none => rfl
  | some o =>
    cases o with
    | none => rfl
    | some d =>
      simp only [W_onE]
      rfl
end
end MI
namespace MI
open PySem L2
section
variable {m : Mem} {Q : MV → Mem → Prop} {E : Exn → Mem → Prop}
@[simp] theorem W_add_i {i j : Int} : W (gAdd (.int i) (.int j) m) Q E = Q (.int (i + j)) m := by with_unfolding_all rfl
@[simp] theorem W_add_t {a b : List MV} : W (gAdd (.tup a) (.tup b) m) Q E = (a.length + b.length ≤ sizeLine ∧ Q (.tup (a ++ b)) m) := by with_unfolding_all
  show W (if a.length + b.length ≤ sizeLine then .ok (.tup (a ++ b)) m else .stuck) Q E = _
  by_cases h : a.length + b.length ≤ sizeLine <;> simp [h]
@[simp] theorem W_addI_i {i j : Int} : W (gAddI (.int i) (.int j) m) Q E = Q (.int (i + j)) m := by with_unfolding_all rfl
theorem W_add_l {a b : Nat} {xs ys : List MV} (h1 : m[a]? = some (.lst xs)) (h2 : m[b]? = some (.lst ys)) : W (gAdd (.ref a) (.ref b) m) Q E = (xs.length + ys.length ≤ sizeLine ∧ Q (.ref m.length) (m ++ [.lst (xs ++ ys)])) := by with_unfolding_all
  have e1 : mutOf m (.ref a) = some (a, xs) := by with_unfolding_all simp [mutOf, h1]
  have e2 : mutOf m (.ref b) = some (b, ys) := by with_unfolding_all simp [mutOf, h2]
  show W (match mutOf m (.ref a), mutOf m (.ref b) with
    | some (_, xs), some (_, ys) => if xs.length + ys.length ≤ sizeLine then alloc (.lst (xs ++ ys)) m else .stuck
    | _, _ => .stuck) Q E = _
  rw [e1, e2]
  by_cases h : xs.length + ys.length ≤ sizeLine <;> simp [h, alloc]
@[simp] theorem W_sub_i {i j : Int} : W (gSub (.int i) (.int j) m) Q E = Q (.int (i - j)) m := by with_unfolding_all rfl
@[simp] theorem W_mul_i {i j : Int} : W (gMul (.int i) (.int j) m) Q E = (((-(2 ^ 64) < i ∧ i < 2 ^ 64) ∨ (-(2 ^ 64) < j ∧ j < 2 ^ 64)) ∧ Q (.int (i * j)) m) := by with_unfolding_all
  show W (if (-(2 ^ 64) < i ∧ i < 2 ^ 64) ∨ (-(2 ^ 64) < j ∧ j < 2 ^ 64) then .ok (.int (i * j)) m else .stuck) Q E = _
  by_cases h : (-(2 ^ 64) < i ∧ i < 2 ^ 64) ∨ (-(2 ^ 64) < j ∧ j < 2 ^ 64)
  · rw [if_pos h]; simp only [W_ok, eq_iff_iff]; exact ⟨fun q => ⟨h, q⟩, fun q => q.2⟩
  · rw [if_neg h]; simp only [W_stuck, eq_iff_iff]; exact ⟨fun q => q.elim, fun q => h q.1⟩
@[simp] theorem W_mul_t {a : List MV} {k : Int} : W (gMul (.tup a) (.int k) m) Q E = ((0 < a.length ∧ 2 ≤ k ∧ k ≤ 1000 ∧ a.length ≤ 1000) ∧ Q (.tup (List.replicate k.toNat a).flatten) m) := by with_unfolding_all
  show W (if 0 < a.length ∧ 2 ≤ k ∧ k ≤ 1000 ∧ a.length ≤ 1000 then .ok (.tup (List.replicate k.toNat a).flatten) m else .stuck) Q E = _
  by_cases h : 0 < a.length ∧ 2 ≤ k ∧ k ≤ 1000 ∧ a.length ≤ 1000
  · rw [if_pos h]; simp only [W_ok, eq_iff_iff]; exact ⟨fun q => ⟨h, q⟩, fun q => q.2⟩
  · rw [if_neg h]; simp only [W_stuck, eq_iff_iff]; exact ⟨fun q => q.elim, fun q => h q.1⟩
@[simp] theorem W_mod_i {i j : Int} : W (gMod (.int i) (.int j) m) Q E = (0 < j ∧ Q (.int (i % j)) m) := by with_unfolding_all
  show W (if 0 < j then .ok (.int (i % j)) m else .stuck) Q E = _
  by_cases h : 0 < j <;> simp [h]
@[simp] theorem W_div_i {i j : Int} : W (gDiv (.int i) (.int j) m) Q E = (CDivW i j ∧ Q (.int (i / j)) m) := by with_unfolding_all
  show W (if CDivW i j then .ok (.int (i / j)) m else .stuck) Q E = _
  by_cases h : CDivW i j <;> simp [h]
@[simp] theorem W_pow_i {i j : Int} : W (gPow (.int i) (.int j) m) Q E = (CPowW i j ∧ Q (.int (i ^ j.toNat)) m) := by with_unfolding_all
  show W (if CPowW i j then .ok (.int (i ^ j.toNat)) m else .stuck) Q E = _
  by_cases h : CPowW i j <;> simp [h]
@[simp] theorem W_lt_i {i j : Int} : W (gLt (.int i) (.int j) m) Q E = Q (.bl (decide (i < j))) m := by with_unfolding_all rfl
@[simp] theorem W_gt_i {i j : Int} : W (gGt (.int i) (.int j) m) Q E = Q (.bl (decide (j < i))) m := by with_unfolding_all rfl
@[simp] theorem W_ge_i {i j : Int} : W (gGe (.int i) (.int j) m) Q E = Q (.bl (decide (j ≤ i))) m := by with_unfolding_all rfl
@[simp] theorem W_le_i {i j : Int} : W (gLeS (.int i) (.int j) m) Q E = Q (.bl (decide (i ≤ j))) m := by with_unfolding_all rfl
@[simp] theorem W_le_s {a b : Str} : W (gLeS (.str a) (.str b) m) Q E = Q (.bl (!decide (b.cps.toList < a.cps.toList))) m := by with_unfolding_all rfl
@[simp] theorem W_isN {d : MV} : W (gIsN d .non m) Q E = Q (.bl (match d with | .non => true | _ => false)) m := by with_unfolding_all rfl
@[simp] theorem W_notN {d : MV} : W (gNotN d .non m) Q E = Q (.bl (match d with | .non => false | _ => true)) m := by with_unfolding_all rfl
@[simp] theorem W_int_i {i : Int} : W (gInt [.int i] m) Q E = Q (.int i) m := by with_unfolding_all rfl
@[simp] theorem W_int_b {b : Bool} : W (gInt [.bl b] m) Q E = Q (.int (if b = true then 1 else 0)) m := by with_unfolding_all rfl
@[simp] theorem W_abs_i {i : Int} : W (gAbs [.int i] m) Q E = Q (.int (if i < 0 then -i else i)) m := by with_unfolding_all rfl
@[simp] theorem W_min2 {i j : Int} : W (gMin [.int i, .int j] m) Q E = Q (.int (if j < i then j else i)) m := by with_unfolding_all rfl
@[simp] theorem W_min3 {i j k : Int} : W (gMin [.int i, .int j, .int k] m) Q E = Q (.int (if k < (if j < i then j else i) then k else (if j < i then j else i))) m := by with_unfolding_all rfl
@[simp] theorem W_len {d : MV} : W (gLen [d] m) Q E = match lenM m d with | some n => Q (.int (n : Int)) m | none => False := by with_unfolding_all
  show W (match lenM m d with | some n => .ok (.int (n : Int)) m | none => .stuck) Q E = _
  cases lenM m d <;> rfl
@[simp] theorem W_list {d : MV} : W (gList [d] m) Q E = match seqOf m d with | some l => Q (.ref m.length) (m ++ [.lst l]) | none => False := by with_unfolding_all
  show W (match seqOf m d with | some l => alloc (.lst l) m | none => .stuck) Q E = _
  cases seqOf m d <;> rfl
@[simp] theorem W_tuple {d : MV} : W (gTuple [d] m) Q E = match seqOf m d with | some l => Q (.tup l) m | none => False := by with_unfolding_all
  show W (match seqOf m d with | some l => .ok (.tup l) m | none => .stuck) Q E = _
  cases seqOf m d <;> rfl
@[simp] theorem lstOf_ref {n : Nat} : lstOf m (.ref n) = match m[n]? with | some (.lst l) => some l | some (.frz l) => some l | _ => none := rfl
@[simp] theorem lstOf_kl {l : List MV} : lstOf m (.kl l) = some l := rfl
@[simp] theorem lstOf_tup {l : List MV} : lstOf m (.tup l) = none := rfl
@[simp] theorem lstOf_str {z : Str} : lstOf m (.str z) = none := rfl
@[simp] theorem lstOf_int {z : Int} : lstOf m (.int z) = none := rfl
@[simp] theorem lstOf_non : lstOf m .non = none := rfl
@[simp] theorem seqOf_tup {l : List MV} : seqOf m (.tup l) = some l := rfl
@[simp] theorem seqOf_ref {n : Nat} : seqOf m (.ref n) = match m[n]? with | some (.lst l) => some l | some (.frz l) => some l | _ => none := rfl
@[simp] theorem seqOf_kl {l : List MV} : seqOf m (.kl l) = some l := rfl
@[simp] theorem mutOf_ref {n : Nat} : mutOf m (.ref n) = match m[n]? with | some (.lst l) => some (n, l) | _ => none := rfl
@[simp] theorem mutOf_tup {l : List MV} : mutOf m (.tup l) = none := rfl
@[simp] theorem dctOf_ref {n : Nat} : dctOf m (.ref n) = match m[n]? with | some (.dct l) => some (n, l) | _ => none := rfl
@[simp] theorem dctOf_tup {l : List MV} : dctOf m (.tup l) = none := rfl
@[simp] theorem dctOf_str {l : Str} : dctOf m (.str l) = none := rfl
@[simp] theorem dctOf_kl {l : List MV} : dctOf m (.kl l) = none := rfl
@[simp] theorem lenM_tup {l : List MV} : lenM m (.tup l) = some l.length := rfl
@[simp] theorem lenM_kl {l : List MV} : lenM m (.kl l) = some l.length := rfl
@[simp] theorem lenM_str {z : Str} : lenM m (.str z) = if z.length ≤ sizeLine then some z.length else none := rfl
@[simp] theorem lenM_ref {n : Nat} : lenM m (.ref n) = match m[n]? with | some (.lst l) => some l.length | some (.frz l) => some l.length | some (.dct l) => some l.length | _ => none := by
  show (match dctOf m (.ref n) with
    | some (_, l) => some l.length
    | none => (lstOf m (.ref n)).map List.length) = _
  simp only [dctOf_ref, lstOf_ref]
  cases m[n]? with
  | none => rfl
  | some o => cases o <;> rfl
@[simp] theorem W_item_t {l : List MV} {i : Int} : W (gItem (.tup l) (.int i) m) Q E = match atM l i with | some e => Q e m | none => False := by with_unfolding_all
  show W (match atM l i with | some e => .ok e m | none => .stuck) Q E = _
  cases atM l i <;> rfl
@[simp] theorem W_item_k {l : List MV} {i : Int} : W (gItem (.kl l) (.int i) m) Q E = match atM l i with | some e => Q e m | none => False := by with_unfolding_all
  show W (match atM l i with | some e => .ok e m | none => .stuck) Q E = _
  cases atM l i <;> rfl
@[simp] theorem W_item_r {n : Nat} {i : Int} : W (gItem (.ref n) (.int i) m) Q E = match m[n]? with
    | some (.lst l) => (match atM l i with | some e => Q e m | none => False)
    | some (.frz l) => (match atM l i with | some e => Q e m | none => False)
    | some (.dct l) => (match valM l (.inl i) with | some e => Q e m | none => False)
    | _ => False := by with_unfolding_all
  unfold gItem gDGet gIx
  simp only [dctOf_ref, seqOf_ref]
  cases h : m[n]? with
  | none => simp [h]
  | some o =>
    cases o with
    | lst l => cases h2 : atM l i <;> simp [h, h2]
    | frz l => cases h2 : atM l i <;> simp [h, h2]
    | dct l => cases h2 : valM l (.inl i) <;> simp [h, h2, keyOf]
    | exn x => simp [h]
    | own c l => simp [h]
    | dN l => simp [h]
@[simp] theorem W_sl_t {l : List MV} {lo hi : Option Int} : W (gSl (.tup l) lo hi m) Q E = Q (.tup (cutM l lo hi)) m := by with_unfolding_all rfl
@[simp] theorem W_sl_k {l : List MV} {lo hi : Option Int} : W (gSl (.kl l) lo hi m) Q E = Q (.ref m.length) (m ++ [.lst (cutM l lo hi)]) := by with_unfolding_all rfl
@[simp] theorem W_append {n : Nat} {e : MV} : W (gAppend (.ref n) [e] m) Q E = match m[n]? with | some (.lst l) => l.length < sizeLine ∧ Q .non (m.set n (.lst (l ++ [e]))) | _ => False := by with_unfolding_all
  unfold gAppend
  simp only [mutOf_ref]
  cases h : m[n]? with
  | none => rfl
  | some o =>
    cases o with
    | lst l => by_cases q : l.length < sizeLine <;> simp [q]
    | _ => rfl
@[simp] theorem W_extend {n k : Nat} : W (gExtend (.ref n) [.ref k] m) Q E = match m[n]?, m[k]? with | some (.lst l), some (.lst l') => l.length + l'.length ≤ sizeLine ∧ Q .non (m.set n (.lst (l ++ l'))) | _, _ => False := by with_unfolding_all
  unfold gExtend
  simp only [mutOf_ref]
  cases h : m[n]? with
  | none => rfl
  | some o =>
    cases o with
    | lst l =>
      cases h2 : m[k]? with
      | none => rfl
      | some o2 =>
        cases o2 with
        | lst l' => by_cases q : l.length + l'.length ≤ sizeLine <;> simp [q]
        | _ => rfl
    | _ => rfl
@[simp] theorem W_pop {n : Nat} : W (gPop (.ref n) [] m) Q E = match m[n]? with | some (.lst l) => (match l[l.length - 1]? with | some e => Q e (m.set n (.lst l.dropLast)) | none => False) | _ => False := by with_unfolding_all
  unfold gPop
  simp only [mutOf_ref]
  cases h : m[n]? with
  | none => rfl
  | some o =>
    cases o with
    | lst l => cases q : l[l.length - 1]? <;> simp [q]
    | _ => rfl
@[simp] theorem W_eq_s {a b : Str} {neg : Bool} : W (gEqA neg (.str a) (.str b) m) Q E = Q (.bl (if neg = true then !decide (a = b) else decide (a = b))) m := by with_unfolding_all
  unfold gEqA gEqS
  simp [eqS]
@[simp] theorem W_eq_i {a b : Int} {neg : Bool} : W (gEqA neg (.int a) (.int b) m) Q E = Q (.bl (if neg = true then !decide (a = b) else decide (a = b))) m := by with_unfolding_all
  unfold gEqA gEqS
  simp [eqS]
@[simp] theorem tru_bl {b : Bool} : tru m (.bl b) = some b := rfl
@[simp] theorem tru_non : tru m .non = some false := rfl
@[simp] theorem tru_int {i : Int} : tru m (.int i) = some (i != 0) := rfl
@[simp] theorem tru_tup {l : List MV} : tru m (.tup l) = some (!l.isEmpty) := rfl
@[simp] theorem tru_ref {n : Nat} : tru m (.ref n) = truO m[n]? := rfl
@[simp] theorem W_any {ρ : Env} {f : ME} {Q : IterM → Mem → Prop} : W (mAnyI f ρ m) Q E = W (f ρ m) (fun d m => W (seqIt d m) Q E) E := by with_unfolding_all
  unfold mAnyI
  simp only [W_bind]
@[simp] theorem W_it_t {l : List MV} {Q : IterM → Mem → Prop} : W (seqIt (.tup l) m) Q E = Q ⟨l, fun _ => True⟩ m := by with_unfolding_all rfl
@[simp] theorem W_it_s {z : Str} {Q : IterM → Mem → Prop} : W (seqIt (.str z) m) Q E = Q ⟨z.cps.toList.map fun c => .str ⟨#[c]⟩, fun _ => True⟩ m := by with_unfolding_all rfl
@[simp] theorem W_it_r {n : Nat} {Q : IterM → Mem → Prop} : W (seqIt (.ref n) m) Q E = match m[n]? with
    | some (.lst l) => Q ⟨l, fun m' => lstOf m' (.ref n) = some l⟩ m
    | some (.frz l) => Q ⟨l, fun m' => lstOf m' (.ref n) = some l⟩ m
    | _ => False := by with_unfolding_all
  unfold seqIt
  simp only [lstOf_ref]
  cases h : m[n]? with
  | none => rfl
  | some o => cases o <;> rfl
@[simp] theorem W_rng {ρ : Env} {g : MA} {Q : IterM → Mem → Prop} : W (mRng g ρ m) Q E = W (g ρ m) (fun ds m => W (rngOf ds m) Q E) E := by with_unfolding_all
  unfold mRng
  simp only [W_bind]
@[simp] theorem W_rng1 {j : Int} {Q : IterM → Mem → Prop} : W (rngOf [.int j] m) Q E = ((-(2 ^ 62) ≤ j ∧ j < 2 ^ 62) ∧ Q ⟨rngL 0 j.toNat, fun _ => True⟩ m) := by with_unfolding_all
  show W (if -(2 ^ 62) ≤ j ∧ j < 2 ^ 62 then .ok ⟨rngL 0 j.toNat, fun _ => True⟩ m else .stuck) Q E = _
  by_cases h : -(2 ^ 62) ≤ j ∧ j < 2 ^ 62
  · rw [if_pos h]; simp only [W_ok, eq_iff_iff]; exact ⟨fun q => ⟨h, q⟩, fun q => q.2⟩
  · rw [if_neg h]; simp only [W_stuck, eq_iff_iff]; exact ⟨fun q => q.elim, fun q => h q.1⟩
@[simp] theorem W_enum {ρ : Env} {g : MA} {Q : IterM → Mem → Prop} : W (mEnum g ρ m) Q E = W (g ρ m) (fun ds m => W (enumOf ds m) Q E) E := by with_unfolding_all
  unfold mEnum
  simp only [W_bind]
@[simp] theorem W_enum_t {l : List MV} {Q : IterM → Mem → Prop} : W (enumOf [.tup l] m) Q E = Q ⟨numd l, fun _ => True⟩ m := by with_unfolding_all rfl
end
end MI
namespace MI
open PySem L2
section
variable {m : Mem} {E : Exn → Mem → Prop}
theorem szl {n : Nat} (h : n ≤ 1000) : n ≤ sizeLine := Nat.le_of_lt (small1000 h)
/-- a comprehension that changes nothing -/
theorem lc_pure {chk : Mem → Prop} {i : Nat} {t : MT} {e : ME} {ρ : Env} (φ : MV → MV) (ψ : MV → Bool) : ∀ (l acc : List MV), chk m → (∀ d ∈ l, t (ρ.set i (some d)) m = .ok (ψ d) m ∧ (ψ d = true → e (ρ.set i (some d)) m = .ok (φ d) m)) → acc.length + l.length ≤ 1000 →
    lcM chk (ngName i) t e ρ l acc m = .ok (acc ++ (l.filter ψ).map φ) m
  | [], acc, hc, _, _ => by
    unfold lcM
    rw [if_pos hc]
    simp
  | d :: l, acc, hc, h, hl => by
    unfold lcM
    rw [if_pos hc]
    obtain ⟨h1, h2⟩ := h d List.mem_cons_self
    show (match t (ρ.set i (some d)) m with
      | .ok true m2 => match e (ρ.set i (some d)) m2 with
        | .ok y m3 => if acc.length < sizeLine then lcM chk (ngName i) t e ρ l (acc ++ [y]) m3 else .stuck
        | _ => .stuck
      | .ok false m2 => lcM chk (ngName i) t e ρ l acc m2
      | _ => .stuck) = _
    rw [h1]
    simp only [List.length_cons] at hl
    cases hp : ψ d with
    | false =>
      dsimp only
      rw [lc_pure φ ψ l acc hc (fun x hx => h x (List.mem_cons_of_mem _ hx)) (by omega), List.filter_cons, hp]
      simp
    | true =>
      dsimp only
      rw [h2 hp]
      dsimp only
      rw [if_pos (Nat.lt_of_lt_of_le (by omega) (szl (n := 1000) (Nat.le_refl _))), lc_pure φ ψ l (acc ++ [φ d]) hc (fun x hx => h x (List.mem_cons_of_mem _ hx)) (by simp; omega), List.filter_cons, hp]
      simp
theorem W_pure {chk : Mem → Prop} {i : Nat} {t : MT} {e : ME} {ρ : Env} {Q : List MV → Mem → Prop} (φ : MV → MV) (ψ : MV → Bool) {l : List MV} (hc : chk m) (h : ∀ d ∈ l, t (ρ.set i (some d)) m = .ok (ψ d) m ∧ (ψ d = true → e (ρ.set i (some d)) m = .ok (φ d) m)) (hl : l.length ≤ 1000) (q : Q ((l.filter ψ).map φ) m) :
    W (lcM chk (ngName i) t e ρ l [] m) Q E := by with_unfolding_all
  rw [lc_pure φ ψ l [] hc h (by simpa using hl)]
  simpa using q
theorem filter_all {l : List MV} : l.filter (fun _ => true) = l := by simp
/-- a for loop over any target -/
theorem W_loopG {chk : Mem → Prop} {g : MG} {body : MS} {Q : Fl → Mem → Prop} (I : List MV → Env → Mem → Prop) : ∀ (l : List MV) (ρ : Env) (m : Mem), I l ρ m → (∀ l ρ m, I l ρ m → chk m) →
    (∀ d l ρ m, I (d :: l) ρ m → ∃ ρ1, g d ρ m = .ok ρ1 m ∧ W (body ρ1 m) (fun a m => match a with | .nx ρ' => I l ρ' m | .ct ρ' => I l ρ' m | .bk ρ' => Q (.nx ρ') m | a => Q a m) E) → (∀ ρ m, I [] ρ m → Q (.nx ρ) m) → W (loopM chk g body l ρ m) Q E
  | [], ρ, m, h, hc, _, hd => by with_unfolding_all
    unfold loopM
    rw [if_pos (hc _ _ _ h)]
    exact hd _ _ h
  | d :: l, ρ, m, h, hc, hs, hd => by with_unfolding_all
    unfold loopM
    rw [if_pos (hc _ _ _ h)]
    obtain ⟨ρ1, e1, q⟩ := hs d l ρ m h
    rw [e1]
    dsimp only
    cases hb : body ρ1 m with
    | stuck => rw [hb] at q; exact q
    | ex x m' => rw [hb] at q; exact q
    | ok a m' =>
      rw [hb] at q
      cases a with
      | nx ρ' => exact W_loopG I l ρ' m' q hc hs hd
      | ct ρ' => exact W_loopG I l ρ' m' q hc hs hd
      | bk ρ' => exact q
      | rt d => exact q
      | ex x ρ' => exact q
@[simp] theorem W_inK {tbl : List (Str × MV)} {f : ME} {ρ : Env} {Q : MV → Mem → Prop} : W (mInK tbl f ρ m) Q E = W (f ρ m) (fun d m => match d with | .str z => Q (.bl (tbl.lookup z).isSome) m | _ => False) E := by with_unfolding_all
  unfold mInK
  rw [W_bind]
  congr 1
  funext d m
  cases d <;> rfl
@[simp] theorem W_itemK {tbl : List (Str × MV)} {f : ME} {ρ : Env} {Q : MV → Mem → Prop} : W (mItemK tbl f ρ m) Q E = W (f ρ m) (fun d m => match d with | .str z => (match tbl.lookup z with | some c => Q c m | none => False) | _ => False) E := by with_unfolding_all
  unfold mItemK
  rw [W_bind]
  congr 1
  funext d m
  cases d with
  | str z => dsimp only; cases tbl.lookup z <;> rfl
  | _ => rfl
end
end MI
namespace MI
open PySem L2
mutual
def pu : MV → Bool
  | .non => true
  | .int _ => true
  | .str s => PyData.strOk s
  | .tup l => pus l
  | _ => false
def pus : List MV → Bool
  | [] => true
  | d :: l => pu d && pus l
end
mutual
def pd : MV → PyData
  | .non => .none
  | .int i => .int i
  | .str s => .str s
  | .tup l => .tuple (pds l)
  | _ => .none
def pds : List MV → List PyData
  | [] => []
  | d :: l => pd d :: pds l
end
mutual
/-- the fuel that it takes -/
def fl : MV → Nat
  | .tup l => 1 + fls l
  | _ => 0
def fls : List MV → Nat
  | [] => 0
  | d :: l => 1 + max (fl d) (fls l)
end
mutual
/-- how deep it is -/
def dp : MV → Nat
  | .tup l => dps l + 1
  | _ => 0
def dps : List MV → Nat
  | [] => 0
  | d :: l => max (dp d) (dps l)
end
mutual
theorem dat_pu (m : Mem) : ∀ (d : MV) (n : Nat), pu d = true → fl d ≤ n → dat m n d = some (pd d)
  | .non, n, _, _ => by unfold dat; rfl
  | .int _, n, _, _ => by unfold dat; rfl
  | .str _, n, _, _ => by unfold dat; rfl
  | .bl _, _, h, _ => by simp [pu] at h
  | .ref _, _, h, _ => by simp [pu] at h
  | .kl _, _, h, _ => by simp [pu] at h
  | .clo _ _, _, h, _ => by simp [pu] at h
  | .tup l, 0, _, h => by simp [fl] at h
  | .tup l, n + 1, h, hn => by
    unfold dat
    rw [dats_pu m l n (by simpa [pu] using h) (by simp [fl] at hn; omega)]
    rfl
theorem dats_pu (m : Mem) : ∀ (l : List MV) (n : Nat), pus l = true → fls l ≤ n → dats m n l = some (pds l)
  | [], n, _, _ => by unfold dats; rfl
  | d :: l, 0, _, h => by simp [fls] at h
  | d :: l, n + 1, h, hn => by
    simp [pus] at h
    simp [fls] at hn
    unfold dats
    rw [dat_pu m d n h.1 (by omega), dats_pu m l n h.2 (by omega)]
    rfl
end
mutual
theorem lay_pu : ∀ (d : MV), pu d = true → (pd d).canLay0 = true
  | .non, _ => rfl
  | .int _, _ => rfl
  | .str s, h => by simpa [pd, PyData.canLay0, pu] using h
  | .bl _, h => by simp [pu] at h
  | .ref _, h => by simp [pu] at h
  | .kl _, h => by simp [pu] at h
  | .clo _ _, h => by simp [pu] at h
  | .tup l, h => by
    have := lays_pu l (by simpa [pu] using h)
    simpa [pd, PyData.canLay0] using this
theorem lays_pu : ∀ (l : List MV), pus l = true → PyData.canLayAll0 (pds l) = true
  | [], _ => rfl
  | d :: l, h => by
    simp [pus] at h
    simp [pds, PyData.canLayAll0, lay_pu d h.1, lays_pu l h.2]
end
mutual
theorem depth_pu : ∀ (d : MV), (pd d).depth = dp d
  | .non => by simp [pd, PyData.depth, dp]
  | .int _ => by simp [pd, PyData.depth, dp]
  | .str s => by simp [pd, PyData.depth, dp]
  | .bl _ => by simp [pd, PyData.depth, dp]
  | .ref _ => by simp [pd, PyData.depth, dp]
  | .kl _ => by simp [pd, PyData.depth, dp]
  | .clo _ _ => by simp [pd, PyData.depth, dp]
  | .tup l => by simp [pd, PyData.depth, dp, depths_pu l]
theorem depths_pu : ∀ (l : List MV), PyData.depthAll (pds l) = dps l
  | [] => by simp [pds, PyData.depthAll, dps]
  | d :: l => by simp [pds, PyData.depthAll, dps, depth_pu d, depths_pu l]
end
mutual
theorem eqv_pu : ∀ (a b : MV), pu a = true → pu b = true → (PyData.eqv (pd a) (pd b) = true ↔ a = b)
  | .bl _, _, h, _ => by simp [pu] at h
  | .ref _, _, h, _ => by simp [pu] at h
  | .kl _, _, h, _ => by simp [pu] at h
  | .clo _ _, _, h, _ => by simp [pu] at h
  | .non, b, _, h => by cases b <;> simp_all [pd, PyData.eqv, pu]
  | .int _, b, _, h => by cases b <;> simp_all [pd, PyData.eqv, pu]
  | .str _, b, _, h => by cases b <;> simp_all [pd, PyData.eqv, pu]
  | .tup l, b, h1, h => by
    cases b with
    | tup k =>
      have := eqvs_pu l k (by simpa [pu] using h1) (by simpa [pu] using h)
      simpa [pd, PyData.eqv] using this
    | _ => simp_all [pd, PyData.eqv, pu]
theorem eqvs_pu : ∀ (a b : List MV), pus a = true → pus b = true → (PyData.eqvAll (pds a) (pds b) = true ↔ a = b)
  | [], [], _, _ => by simp [pds, PyData.eqvAll]
  | [], _ :: _, _, _ => by simp [pds, PyData.eqvAll]
  | _ :: _, [], _, _ => by simp [pds, PyData.eqvAll]
  | a :: l, b :: k, h1, h2 => by
    simp [pus] at h1 h2
    simp [pds, PyData.eqvAll, eqv_pu a b h1.1 h2.1, eqvs_pu l k h1.2 h2.2]
end
theorem shaped_pu {d : MV} (h : pu d = true) (hd : dp d ≤ 64) : SeqAt.shaped (pd d) = true := by
  unfold SeqAt.shaped
  rw [lay_pu d h, depth_pu]
  simp [hd]
theorem shaped_pus {l : List MV} (h : pus l = true) (hd : dps l ≤ 63) : SeqAt.shaped (.list (pds l)) = true := by
  unfold SeqAt.shaped
  simp only [PyData.canLay0, PyData.depth, lays_pu l h, depths_pu]
  simp
  omega
/-- data that == can look at -/
structure Da (d : MV) : Prop where
  pu : MI.pu d = true
  fl : MI.fl d ≤ 1900
  dp : MI.dp d ≤ 60
structure Das (l : List MV) : Prop where
  pu : MI.pus l = true
  fl : MI.fls l ≤ 1900
  dp : MI.dps l ≤ 60
section
variable {m : Mem} {E : Exn → Mem → Prop} {Q : MV → Mem → Prop}
theorem eqS_pu {a b : MV} {k : Bool} (ha : pu a = true) (h : eqS a b = some k) : (k = true ↔ a = b) := by
  cases a <;> cases b <;> simp [eqS] at h <;> first | (subst h; simp) | (simp [pu] at ha)
theorem gEqA_pu {a b : MV} {neg : Bool} (ha : Da a) (hb : Da b) : ∃ k : Bool, (k = true ↔ a = b) ∧ gEqA neg a b m = .ok (.bl (if neg = true then !k else k)) m := by
  unfold gEqA
  cases h : eqS a b with
  | some k =>
    refine ⟨k, eqS_pu ha.pu h, ?_⟩
    dsimp only
    unfold gEqS
    rw [h]
  | none =>
    dsimp only
    unfold gEq
    rw [dat_pu m a fuel ha.pu (Nat.le_trans ha.fl (by decide)), dat_pu m b fuel hb.pu (Nat.le_trans hb.fl (by decide))]
    dsimp only
    rw [if_pos ⟨shaped_pu ha.pu (by have := ha.dp; omega), shaped_pu hb.pu (by have := hb.dp; omega)⟩]
    exact ⟨_, eqv_pu a b ha.pu hb.pu, rfl⟩
theorem W_eqD {a b : MV} {neg : Bool} (ha : Da a) (hb : Da b) (q : ∀ k : Bool, (k = true ↔ a = b) → Q (.bl (if neg = true then !k else k)) m) : W (gEqA neg a b m) Q E := by with_unfolding_all
  obtain ⟨k, h1, h2⟩ := gEqA_pu (m := m) (neg := neg) ha hb
  rw [h2]
  exact q k h1
theorem dat_l {n : Nat} {l : List MV} (h : m[n]? = some (.lst l)) (hl : Das l) : dat m fuel (.ref n) = some (.list (pds l)) := by
  show dat m (1999 + 1) (.ref n) = _
  unfold dat
  rw [(show lstOf m (.ref n) = some l by simp [h])]
  dsimp only
  rw [dats_pu m l 1999 hl.pu (Nat.le_trans hl.fl (by decide))]
  rfl
theorem W_eqL {a b : Nat} {l k : List MV} {neg : Bool} (ha : m[a]? = some (.lst l)) (hb : m[b]? = some (.lst k)) (da : Das l) (db : Das k) (q : ∀ z : Bool, (z = true ↔ l = k) → Q (.bl (if neg = true then !z else z)) m) : W (gEqA neg (.ref a) (.ref b) m) Q E := by with_unfolding_all
  unfold gEqA
  show W (gEq neg (.ref a) (.ref b) m) Q E
  unfold gEq
  rw [dat_l ha da, dat_l hb db]
  dsimp only
  rw [if_pos ⟨shaped_pus da.pu (by have := da.dp; omega), shaped_pus db.pu (by have := db.dp; omega)⟩]
  refine q _ ?_
  show (PyData.eqv (.list _) (.list _) = true ↔ _)
  simp only [PyData.eqv]
  exact eqvs_pu l k da.pu db.pu
end
section
variable {m : Mem} {E : Exn → Mem → Prop} {Q : MV → Mem → Prop}
@[simp] theorem W_sl_r {n : Nat} {lo hi : Option Int} : W (gSl (.ref n) lo hi m) Q E = match lstOf m (.ref n) with | some l => Q (.ref m.length) (m ++ [.lst (cutM l lo hi)]) | none => False := by with_unfolding_all
  show W (match lstOf m (.ref n) with | some l => alloc (.lst (cutM l lo hi)) m | none => .stuck) Q E = _
  cases lstOf m (.ref n) <;> rfl
@[simp] theorem W_zip {a b : MV} : W (gZip [a, b] m) Q E = match lstOf m a, lstOf m b with | some l, some k => Q (.tup ((l.zip k).map fun p => .tup [p.1, p.2])) m | _, _ => False := by with_unfolding_all
  show W (match lstOf m a, lstOf m b with | some l, some k => .ok (.tup ((l.zip k).map fun p => .tup [p.1, p.2])) m | _, _ => .stuck) Q E = _
  cases lstOf m a <;> cases lstOf m b <;> rfl
end
end MI
namespace MI
open PySem L2
section
variable {m : Mem} {E : Exn → Mem → Prop} {Q : MV → Mem → Prop} {ρ : Env}
@[simp] theorem W_max {d : MV} : W (gMax [d] m) Q E = match ((lstOf m d).bind intsOf).bind maxL with | some k => Q (.int k) m | none => False := by with_unfolding_all
  show W (match ((lstOf m d).bind intsOf).bind maxL with | some k => .ok (.int k) m | none => .stuck) Q E = _
  cases ((lstOf m d).bind intsOf).bind maxL <;> rfl
@[simp] theorem W_sum {d : MV} : W (gSum [d] m) Q E = match (lstOf m d).bind intsOf with | some ns => Q (.int ns.sum) m | none => False := by with_unfolding_all
  show W (match (lstOf m d).bind intsOf with | some ns => .ok (.int ns.sum) m | none => .stuck) Q E = _
  cases (lstOf m d).bind intsOf <;> rfl
@[simp] theorem W_sortS {d : MV} : W (gSortS [d] m) Q E = match (lstOf m d).bind strsOf with | some xs => xs.length < 64 ∧ Q (.ref m.length) (m ++ [.lst ((sortM xs).map .str)]) | none => False := by with_unfolding_all
  show W (match (lstOf m d).bind strsOf with | some xs => (if xs.length < 64 then alloc (.lst ((sortM xs).map .str)) m else .stuck) | none => .stuck) Q E = _
  cases (lstOf m d).bind strsOf with
  | none => rfl
  | some xs => by_cases h : xs.length < 64 <;> simp [h, alloc]
theorem strs_map : ∀ ns : List Str, strsOf (ns.map .str) = some ns
  | [] => rfl
  | s :: r => by simp [strsOf, strs_map r]
@[simp] theorem W_isx {P : Str → Option Bool} {f : ME} : W (mIsx P f ρ m) Q E = W (f ρ m) (fun d m => match isxV P m d with | some b => Q (.bl b) m | none => False) E := by with_unfolding_all
  unfold mIsx
  rw [W_bind]
  congr 1
  funext d m
  cases isxV P m d <;> rfl
@[simp] theorem W_cnt {d e : MV} : W (gCnt d [e] m) Q E = match (lstOf m d).bind fVs, fV e with | some us, some u => Q (.int ((us.countP fun z => eqV z u : Nat) : Int)) m | _, _ => False := by with_unfolding_all
  show W (match (lstOf m d).bind fVs, fV e with | some us, some u => .ok (.int ((us.countP fun z => eqV z u : Nat) : Int)) m | _, _ => .stuck) Q E = _
  cases (lstOf m d).bind fVs <;> cases fV e <;> rfl
@[simp] theorem W_idx {d e : MV} : W (gIdx d [e] m) Q E = match (lstOf m d).bind fVs, fV e with | some us, some u => (match us.findIdx? fun z => eqV z u with | some j => Q (.int (j : Nat)) m | none => False) | _, _ => False := by with_unfolding_all
  show W (match (lstOf m d).bind fVs, fV e with | some us, some u => (match us.findIdx? fun z => eqV z u with | some j => .ok (.int (j : Nat)) m | none => .stuck) | _, _ => .stuck) Q E = _
  cases (lstOf m d).bind fVs with
  | none => rfl
  | some us => cases fV e with
    | none => rfl
    | some u => dsimp only; cases us.findIdx? fun z => eqV z u <;> rfl
@[simp] theorem W_eqE {a b : MV} : W (gEqE a b m) Q E = match lstOf m a, lstOf m b with | some l, some [] => Q (.bl l.isEmpty) m | _, _ => False := by with_unfolding_all
  unfold gEqE
  cases lstOf m a with
  | none => rfl
  | some l => cases lstOf m b with
    | none => rfl
    | some k => cases k <;> rfl
theorem inV_str {s : Str} : ∀ {ns : List Str}, (inV (toV (.str s)) ((ns.map MV.str).map toV) = true ↔ s ∈ ns)
  | [] => ⟨(fun h => by cases h), (fun h => by cases h)⟩
  | x :: r => by
    have ih := inV_str (s := s) (ns := r)
    show (((x == s) || inV (toV (.str s)) ((r.map MV.str).map toV)) = true ↔ _)
    rw [Bool.or_eq_true, ih, List.mem_cons, beq_iff_eq, eq_comm]
theorem W_inStr {s : Str} {n : Nat} {ns : List Str} {neg : Bool} (hn : m[n]? = some (.lst (ns.map .str))) (q : ∀ z : Bool, (z = true ↔ s ∈ ns) → Q (.bl (if neg = true then !z else z)) m) : W (gInA neg (.str s) (.ref n) m) Q E := by with_unfolding_all
  unfold gInA
  have hf : (ns.map MV.str).all MI.flat = true := by with_unfolding_all simp [MI.flat]
  rw [if_neg (by rintro ⟨z, hz⟩; cases hz), if_neg (by simp [hn]), if_pos ⟨ns.map .str, by simp [hn], rfl, hf⟩]
  unfold gInF
  rw [(show seqOf m (.ref n) = some (ns.map .str) by simp [hn])]
  dsimp only
  rw [if_pos ⟨rfl, hf⟩]
  exact q _ inV_str
section
variable {Q : Fl → Mem → Prop}
@[simp] theorem W_tryK {P : Str → Option Bool} {i j : Nat} {f : MS} : W (mTryK P i j f ρ m) Q E = W (f ρ m) (fun a m' => match a with
    | .ex x ρ' => (match P x.cls with
      | some true => Q (.nx (((ρ'.set i (some (.ref m'.length))).set j (some (.ref m'.length))).set i none)) (m' ++ [.exn x])
      | some false => Q (.ex x ρ') m'
      | none => False)
    | a => Q a m') E := by with_unfolding_all
  unfold mTryK
  cases f ρ m with
  | stuck => rfl
  | ex x m => rfl
  | ok a m =>
    cases a with
    | ex x ρ' =>
      simp only [W_ok]
      cases P x.cls with
      | none => rfl
      | some b => cases b <;> rfl
    | _ => rfl
@[simp] theorem W_tryF {P : Str → Option Bool} {y : Str} {f : MS} : W (mTryF P y f ρ m) Q E = W (f ρ m) (fun a m' => match a with
    | .ex x ρ' => (match P x.cls with
      | some true => Q (.ex ⟨y, []⟩ ρ') m'
      | some false => Q (.ex x ρ') m'
      | none => False)
    | a => Q a m') E := by with_unfolding_all
  unfold mTryF
  cases f ρ m with
  | stuck => rfl
  | ex x m => rfl
  | ok a m =>
    cases a with
    | ex x ρ' =>
      simp only [W_ok]
      cases P x.cls with
      | none => rfl
      | some b => cases b <;> rfl
    | _ => rfl
end
/-- a comprehension that changes nothing, at any memory, with what its function and test are said of each -/
theorem W_pureN {chk : Mem → Prop} {i : Nat} {t : MT} {e : ME} {Q : List MV → Mem → Prop} (φ : MV → MV) (ψ : MV → Bool) {l : List MV} (hc : chk m) (h : ∀ d ∈ l, t (ρ.set i (some d)) m = .ok (ψ d) m ∧ (ψ d = true → e (ρ.set i (some d)) m = .ok (φ d) m)) (hl : l.length ≤ 1000) (q : ∀ k, k = (l.filter ψ).map φ → Q k m) :
    W (lcM chk (ngName i) t e ρ l [] m) Q E := by with_unfolding_all exact (W_pure φ ψ hc h hl (q _ rfl))
end
end MI
namespace MI
open PySem L2
variable [Nms]
section
variable {X : Cx} {W : WX} {pos : Pos} {K : PySem.W.Frag} {β : List Addr} {H : Hp} {m : Mem}
def mStuck : MS := fun _ _ => .stuck
def foldM (tbl acc : List (Key × MV)) : List (Key × MV) := tbl.foldl (fun acc kv => putM acc kv.1 kv.2) acc
def mDisp (tbl : List (Key × MV)) : ME := fun _ m => alloc (.dct (foldM tbl [])) m
def gGet (d k x : MV) (m : Mem) : Re MV := match dctOf m d, keyOf k with
  | some (_, l), some q => .ok ((valM l q).getD x) m
  | _, _ => .stuck
def mGet2 (fd fy fx : ME) : ME := fun ρ m => (fd ρ m).bind fun d m1 => if (dctOf m1 d).isSome = true then (fy ρ m1).bind fun y m2 => (fx ρ m2).bind fun x m3 => gGet d y x m3 else .stuck
def mGet1 (fd fy : ME) : ME := fun ρ m => (fd ρ m).bind fun d m1 => if (dctOf m1 d).isSome = true then (fy ρ m1).bind fun y m2 => gGet d y .non m2 else .stuck
end
section
variable {m : Mem} {ρ : Env} {E : Exn → Mem → Prop} {Q : MV → Mem → Prop}
@[simp] theorem W_disp {tbl : List (Key × MV)} : MI.W (mDisp tbl ρ m) Q E = Q (.ref m.length) (m ++ [.dct (foldM tbl [])]) := by with_unfolding_all rfl
@[simp] theorem W_gGet {d k x : MV} : MI.W (gGet d k x m) Q E = match dctOf m d, keyOf k with | some (_, l), some q => Q ((valM l q).getD x) m | _, _ => False := by with_unfolding_all
  unfold gGet
  cases dctOf m d with
  | none => rfl
  | some p => cases keyOf k <;> rfl
@[simp] theorem W_get2 {fd fy fx : ME} : MI.W (mGet2 fd fy fx ρ m) Q E = MI.W (fd ρ m) (fun d m => if (dctOf m d).isSome = true then MI.W (fy ρ m) (fun y m => MI.W (fx ρ m) (fun x m => MI.W (gGet d y x m) Q E) E) E else False) E := by with_unfolding_all
  unfold mGet2
  rw [W_bind]
  congr 1
  funext d m
  rw [W_ite]
  simp only [W_bind, W_stuck]
@[simp] theorem W_get1 {fd fy : ME} : MI.W (mGet1 fd fy ρ m) Q E = MI.W (fd ρ m) (fun d m => if (dctOf m d).isSome = true then MI.W (fy ρ m) (fun y m => MI.W (gGet d y .non m) Q E) E else False) E := by with_unfolding_all
  unfold mGet1
  rw [W_bind]
  congr 1
  funext d m
  rw [W_ite]
  simp only [W_bind, W_stuck]
@[simp] theorem W_mStuck {Q : Fl → Mem → Prop} : MI.W (mStuck ρ m) Q E = False := by with_unfolding_all rfl
end
end MI
namespace MI
open PySem L2
variable [Nms]
section
variable {X : Cx} {W : WX} {pos : Pos} {K : PySem.W.Frag} {β : List Addr} {H : Hp} {m : Mem}
def rInT (K : PySem.W.Frag) (neg : Bool) : R2 := fun x y H Q => ∃ d ds, Dp K H x d ∧ Dp K H y (.tuple ds) ∧ SeqAt.shaped d = true ∧ SeqAt.shaped (.tuple ds) = true ∧ Q (.bl (if neg = true then !ds.any fun z => PyData.eqv z d else ds.any fun z => PyData.eqv z d)) H
theorem roomT {d : PyData} {ds : List PyData} {A : Around} (sd : SeqAt.shaped d = true) (hu : A.units + 65 < cLine) : A.units + 1 + min (PyData.depthAll ds) d.depth < cLine := by
  have h1 := SeqAt.depth_of_shaped sd
  have h2 : min (PyData.depthAll ds) d.depth ≤ d.depth := Nat.min_le_right _ _
  omega
theorem op_inT (hu : X.A.units + 65 < cLine) : OpR X (compareOp .In) (rInT X.K false) := by
  intro pins s σ H x y v u Q I rx ry h
  obtain ⟨d, ds, hd, he, sd, se, q⟩ := h
  obtain ⟨as, r1⟩ := Dp.reads I d x v hd rx
  obtain ⟨bs, r2⟩ := Dp.reads I (.tuple ds) y u he ry
  exact SeqAt.in_tuple_reads r2 r1 (by simpa [PyData.canLay0] using SeqAt.canLay_of_shaped se) (SeqAt.canLay_of_shaped sd) (roomT sd hu) ⟨.bl _, H, I, rfl, q⟩
theorem op_ninT (hu : X.A.units + 65 < cLine) : OpR X (compareOp .NotIn) (rInT X.K true) := by
  intro pins s σ H x y v u Q I rx ry h
  obtain ⟨d, ds, hd, he, sd, se, q⟩ := h
  obtain ⟨as, r1⟩ := Dp.reads I d x v hd rx
  obtain ⟨bs, r2⟩ := Dp.reads I (.tuple ds) y u he ry
  exact SeqAt.notIn_tuple_reads r2 r1 (by simpa [PyData.canLay0] using SeqAt.canLay_of_shaped se) (SeqAt.canLay_of_shaped sd) (roomT sd hu) ⟨.bl _, H, I, rfl, q⟩
def gInT (neg : Bool) (a b : MV) (m : Mem) : Re MV := match dat m fuel a, dat m fuel b with
  | some d, some (.tuple ds) => if SeqAt.shaped d = true ∧ SeqAt.shaped (.tuple ds) = true then .ok (.bl (if neg = true then !ds.any fun z => PyData.eqv z d else ds.any fun z => PyData.eqv z d)) m else .stuck
  | _, _ => .stuck
theorem om_inT {neg : Bool} : OpM X (rInT X.K neg) (gInT neg) := by with_unfolding_all
  intro W σ d e m β H x y Q M rx ry p
  unfold gInT at p
  split at p
  · rename_i a b e1 e2
    split at p
    · rename_i h
      exact ⟨a, b, M.dat1 rx e1, M.dat1 ry e2, h.1, h.2, p.ok M (.bl _)⟩
    · exact p.not_stuck
  · exact p.not_stuck
open Classical in
/-- x in a list, a dict, a text, a tuple -/
noncomputable def gInB (neg : Bool) (a b : MV) (m : Mem) : Re MV := if (∃ l, b = .tup l) ∧ flat a = false then gInT neg a b m else gInA neg a b m
theorem je_inB {a b : Expr} {fa fb : ME} (hu : X.A.units + 1 < cLine) (hu2 : X.A.units + 65 < cLine) (ha : JE X W a fa) (hb : JE X W b fb) (hk : behindInMarks .In b = false := by with_unfolding_all rfl) : JE X W (.Compare a [.In] [b] pos) (mBin (gInB false) fa fb) :=
  JE.or (j_cmp (op_inT hu2) om_inT ha hb hk) (je_in hu hu2 ha hb hk) (mBin_or fun a b m => by with_unfolding_all
    unfold gInB
    by_cases q : (∃ l, b = .tup l) ∧ flat a = false
    · exact .inl (if_pos q)
    · exact .inr (if_neg q))
theorem je_ninB {a b : Expr} {fa fb : ME} (hu : X.A.units + 1 < cLine) (hu2 : X.A.units + 65 < cLine) (ha : JE X W a fa) (hb : JE X W b fb) (hk : behindInMarks .NotIn b = false := by with_unfolding_all rfl) : JE X W (.Compare a [.NotIn] [b] pos) (mBin (gInB true) fa fb) :=
  JE.or (j_cmp (op_ninT hu2) om_inT ha hb hk) (je_nin hu hu2 ha hb hk) (mBin_or fun a b m => by with_unfolding_all
    unfold gInB
    by_cases q : (∃ l, b = .tup l) ∧ flat a = false
    · exact .inl (if_pos q)
    · exact .inr (if_neg q))
theorem jt_inB {a b : Expr} {fa fb : ME} (hu : X.A.units + 1 < cLine) (hu2 : X.A.units + 65 < cLine) (ha : JE X W a fa) (hb : JE X W b fb) (hk : behindInMarks .In b = false := by with_unfolding_all rfl) : JT X W (.Compare a [.In] [b] pos) (mB (mBin (gInB false) fa fb)) :=
  JT.or (jt_cmp (op_inT hu2) om_inT ha hb hk) (jt_in hu hu2 ha hb hk) (mB_or fun a b m => by with_unfolding_all
    unfold gInB
    by_cases q : (∃ l, b = .tup l) ∧ flat a = false
    · exact .inl (if_pos q)
    · exact .inr (if_neg q))
theorem jt_ninB {a b : Expr} {fa fb : ME} (hu : X.A.units + 1 < cLine) (hu2 : X.A.units + 65 < cLine) (ha : JE X W a fa) (hb : JE X W b fb) (hk : behindInMarks .NotIn b = false := by with_unfolding_all rfl) : JT X W (.Compare a [.NotIn] [b] pos) (mB (mBin (gInB true) fa fb)) :=
  JT.or (jt_cmp (op_ninT hu2) om_inT ha hb hk) (jt_nin hu hu2 ha hb hk) (mB_or fun a b m => by with_unfolding_all
    unfold gInB
    by_cases q : (∃ l, b = .tup l) ∧ flat a = false
    · exact .inl (if_pos q)
    · exact .inr (if_neg q))
end
section
variable {m : Mem} {E : Exn → Mem → Prop} {Q : MV → Mem → Prop}
@[simp] theorem gInB_ref {neg : Bool} {a : MV} {n : Nat} : gInB neg a (.ref n) m = gInA neg a (.ref n) m := by
  unfold gInB
  rw [if_neg (by rintro ⟨⟨l, h⟩, _⟩; cases h)]
@[simp] theorem gInB_str {neg : Bool} {a : MV} {z : Str} : gInB neg a (.str z) m = gInA neg a (.str z) m := by
  unfold gInB
  rw [if_neg (by rintro ⟨⟨l, h⟩, _⟩; cases h)]
@[simp] theorem gInB_s {neg : Bool} {s : Str} {b : MV} : gInB neg (.str s) b m = gInA neg (.str s) b m := by
  unfold gInB
  rw [if_neg (by rintro ⟨_, h⟩; cases h)]
end
end MI
namespace MI
open PySem L2
variable [Nms]
section
variable {X : Cx} {W : WX} {pos : Pos} {K : PySem.W.Frag} {β : List Addr} {H : Hp} {m : Mem}
def keyM : Key → MV
  | .inl i => .int i
  | .inr s => .str s
theorem RKs.keys : ∀ {l : List (Key × MV)} {vs : List (Key × V)}, RKs K β H l vs → ∀ {β' : List Addr} {H' : Hp}, RVs K β' H' (l.map fun kv => keyM kv.1) (vs.map fun kv => kV kv.1)
  | _, _, .nil, _, _ => .nil
  | _, _, .cons (k := k) h r, _, _ => by
    refine .cons ?_ (RKs.keys r)
    cases k with
    | inl i => exact .int i
    | inr s => exact .str s
def gListA : List MV → Mem → Re MV
  | [d], m => match dctOf m d with
    | some (_, l) => alloc (.lst (l.map fun kv => keyM kv.1)) m
    | none => gList [d] m
  | _, _ => .stuck
abbrev rListA (K : PySem.W.Frag) : List V → Hp → VK → Prop := fun xs H Q => (∃ (a : Addr) (kvs : List (Key × V)), xs = [.ref a] ∧ Rd H a (.dK kvs) ∧ ∀ p, H p = none → Q (.ref p) (upd H p (.lst (kvs.map fun kv => kV kv.1)))) ∨ ∃ p ys, xs = [.ref p] ∧ (SqL K H p ys ∨ SqT K H p ys) ∧ ∀ l, H l = none → Q (.ref l) (upd H l (.lst ys))
theorem cr_listA (hc : X.calm = true) : CallR X (.type "list") (rListA X.K) := cr_or (call_listD hc) call_list_of
theorem cm_listA : CrM X (rListA X.K) gListA := by with_unfolding_all
  intro W σ ds m β H vs Q M V p
  unfold gListA at p
  split at p
  · rename_i d
    split at p
    · rename_i n l h
      cases V with
      | cons h1 r =>
        cases r
        obtain ⟨a, vs, rfl, hb, hH, hr⟩ := M.dct h1 h
        exact .inl ⟨a, vs, rfl, .inl hH, fun q hq => p.alloc M hq ⟨_, upd_same, hr.keys⟩⟩
    · exact .inr (cm_list W σ _ m β H vs Q M V p)
  · exact p.not_stuck
end
section
variable {m : Mem} {E : Exn → Mem → Prop} {Q : MV → Mem → Prop}
@[simp] theorem W_listA_t {l : List MV} : MI.W (gListA [.tup l] m) Q E = MI.W (gList [.tup l] m) Q E := by with_unfolding_all rfl
@[simp] theorem W_listA_r {n : Nat} : MI.W (gListA [.ref n] m) Q E = match m[n]? with
    | some (.dct l) => Q (.ref m.length) (m ++ [.lst (l.map fun kv => keyM kv.1)])
    | _ => MI.W (gList [.ref n] m) Q E := by with_unfolding_all
  show MI.W (match dctOf m (.ref n) with
    | some (_, l) => alloc (.lst (l.map fun kv => keyM kv.1)) m
    | none => gList [.ref n] m) Q E = _
  simp only [dctOf_ref]
  cases m[n]? with
  | none => rfl
  | some o => cases o <;> rfl
end
end MI
namespace MI
open PySem L2
variable [Nms]
section
variable {X : Cx} {W : WX} {pos : Pos} {K : PySem.W.Frag} {β : List Addr} {H : Hp} {m : Mem}
def gEqT (a b : MV) (m : Mem) : Re MV := match a, b with
  | .tup l, .tup [] => .ok (.bl l.isEmpty) m
  | _, _ => .stuck
end
section
variable {m : Mem} {E : Exn → Mem → Prop} {Q : MV → Mem → Prop}
@[simp] theorem W_eqT {l : List MV} : MI.W (gEqT (.tup l) (.tup []) m) Q E = Q (.bl l.isEmpty) m := by with_unfolding_all rfl
end
end MI
namespace MI
open PySem L2
variable [Nms]
/-- attribute f of the classes that P takes -/
structure FldN (K : PySem.W.Frag) (f : Str) (P : Str → Bool) : Prop where
  ex : ∀ (c : Str) (C : Addr), P c = true → ClsN K c C → Cls K C ∧ NoAttr K C f
def ownOf (m : Mem) : MV → Option (Nat × Str × List (Str × MV))
  | .ref n => match m[n]? with
    | some (.own c l) => some (n, c, l)
    | _ => none
  | _ => none
section
variable {K : PySem.W.Frag} {β : List Addr} {H : Hp} {m : Mem}
theorem RFs.look (f : Str) : ∀ {l : List (Str × MV)} {vs : List (Str × V)}, RFs K β H l vs → ∀ {d : MV}, l.lookup f = some d → ∃ v, vs.lookup f = some v ∧ RV K β H d v
  | _, _, .nil, _, h => by simp at h
  | _, _, @RFs.cons _ _ _ k d' v' ds vs h r, d, q => by
    rw [List.lookup_cons] at q ⊢
    cases hk : f == k with
    | true => rw [hk] at q; cases q; exact ⟨v', by simp, h⟩
    | false => rw [hk] at q; simpa using r.look f q
def putFM (f : Str) (v : MV) : List (Str × MV) → List (Str × MV)
  | [] => [(f, v)]
  | (g, x) :: r => if g = f then (g, v) :: r else (g, x) :: putFM f v r
theorem RFs.put (f : Str) {d : MV} {v : V} (h : RV K β H d v) : ∀ {l : List (Str × MV)} {vs : List (Str × V)}, RFs K β H l vs → RFs K β H (putFM f d l) (putF f v vs)
  | _, _, .nil => .cons h .nil
  | _, _, @RFs.cons _ _ _ k d' v' ds vs h' r => by
    unfold putFM putF
    split
    · exact .cons h r
    · exact .cons h' (r.put f h)
theorem RFs.len : ∀ {l : List (Str × MV)} {vs : List (Str × V)}, RFs K β H l vs → l.length = vs.length
  | _, _, .nil => rfl
  | _, _, .cons _ r => by simp [r.len]
theorem RM.own (R : RM K β H m) {d : MV} {v : V} {n : Nat} {c : Str} {l : List (Str × MV)} (r : RV K β H d v) (h : ownOf m d = some (n, c, l)) : ∃ a C dx vs, v = .ref a ∧ m[n]? = some (.own c l) ∧ β[n]? = some a ∧ ClsN K c C ∧ H a = some (.ins C dx vs) ∧ RFs K β H l vs := by
  cases r with
  | @ref n' a hb =>
    have h : (match m[n']? with | some (.own c l) => some (n', c, l) | _ => none) = some (n, c, l) := h
    split at h
    · rename_i c' l' e
      cases h
      obtain ⟨C, dx, vs, q1, q2, q3⟩ := R.ob n _ a e hb
      exact ⟨a, C, dx, vs, rfl, e, hb, q1, q2, q3⟩
    · cases h
  | _ => cases h
end
section
variable {X : Cx} {W : WX} {pos : Pos}
def gFld (P : Str → Bool) (f : Str) (d : MV) (m : Mem) : Re MV := match ownOf m d with
  | some (_, c, l) => if P c = true then (match l.lookup f with | some v => .ok v m | none => .stuck) else .stuck
  | none => .stuck
def mFld (P : Str → Bool) (f : Str) (g : ME) : ME := fun ρ m => (g ρ m).bind fun d m1 => gFld P f d m1
theorem je_fld {P : Str → Bool} {f : Str} {e : Expr} {g : ME} (h : JE X W e g) (T : FldN X.K f P) (hb : attributeBase e f X.env (eval e X.env) = eval e X.env := by with_unfolding_all rfl) : JE X W (.Attribute e f pos) (mFld P f g) :=
  ⟨pe_imp (pe_fld h.run hb) fun σ H Q ⟨ρ, m, β, hE, hM, p⟩ => ⟨ρ, m, β, hE, hM, p.bind fun d m1 x H1 β1 _ e1 M1 V1 p1 => by with_unfolding_all
    unfold gFld at p1
    split at p1
    · rename_i n c l ho
      obtain ⟨a, C, dx, vs, rfl, h1, h2, h3, h4, h5⟩ := M1.own V1 ho
      split at p1
      · rename_i hP
        split at p1
        · rename_i v hv
          obtain ⟨u, q1, q2⟩ := h5.look f hv
          obtain ⟨c1, c2⟩ := T.ex c C hP h3
          exact ⟨a, C, dx, vs, u, rfl, h4, c1, c2, q1, p1.ok M1 q2⟩
        · exact p1.not_stuck
      · exact p1.not_stuck
    · exact p1.not_stuck⟩⟩
def mFldS (P : Str → Bool) (f : Str) (fo fv : ME) : MS := fun ρ m => onE ρ (fv ρ m) fun y m1 => onE ρ (fo ρ m1) fun d m2 => match ownOf m2 d with
  | some (n, c, l) => if P c = true ∧ l.length < 1000 then .ok (.nx ρ) (m2.set n (.own c (putFM f y l))) else .stuck
  | none => .stuck
theorem js_fld {P : Str → Bool} {f : Str} {o value : Expr} {pos' : Pos} {fo fv : ME} (ho : JE X W o fo) (hv : JE X W value fv) (T : FldN X.K f P) (hs : swapsWith value (some (.Attribute o f pos')) pos.line X.env = pure false := by with_unfolding_all rfl) :
    JS X W (.Assign [.Attribute o f pos'] value pos) (mFldS P f fo fv) :=
  ⟨ps_imp (ps_fld ho.run hv.run hs) fun D σ H ⟨ρ, m, β, hE, hM, p⟩ => ⟨ρ, m, β, hE, hM,
    PostS.on (D := D) (R := fun β' H' d v => RV X.K β' H' d v) hE hM p fun y m1 v H1 β1 _ e M V q => ⟨ρ, m1, β1, hE.ext hM e, M,
      PostS.on (D := D) (R := fun β' H' d v => RV X.K β' H' d v) (hE.ext hM e) M q fun d m2 x H2 β2 _ e2 M2 V2 q2 => by with_unfolding_all
        split at q2
        · rename_i n c l hown
          obtain ⟨a, C, dx, vs, rfl, h1, h2, h3, h4, h5⟩ := M2.own V2 hown
          split at q2
          · rename_i hP
            obtain ⟨c1, c2⟩ := T.ex c C hP.1 h3
            refine ⟨a, C, dx, vs, rfl, h4, c1, c2, by rw [← h5.len]; exact hP.2, ?_⟩
            have eX : Ext β2 H2 β2 (upd H2 a (.ins C dx (putF f v vs))) := Ext.wr (List.mem_of_getElem? h2)
            have V' := V.ext M e2
            exact q2 σ _ β2 eX (M2.wr h2 ⟨C, dx, _, h3, upd_same, (h5.put f V').ext M2 eX⟩) (((hE.ext hM e).ext M e2).ext M2 eX)
          · exact q2.elim
        · exact q2.elim⟩⟩⟩
/-- a class of the module whose __init__ does F; n arguments behind the object itself -/
structure MkX (M : Mode) (P : Program) (w : World) (K : PySem.W.Frag) (mg : Str → Option Value) (base : Heap) (k : Nat) (c : Str) (n : Nat) (F : MF) : Prop where
  ex : ∃ (C f : Addr) (fd : FuncData) (ps : List Str), FnOk P w K mg base (M.CX P w) k f fd ps (spM K (n + 1) F) ∧ ClsN K c C ∧ mg c = some (.ref C) ∧ Mk K C f ∧ Binds K fd ps []
def gMake (c : Str) (F : MF) (ds : List MV) (m : Mem) : Re MV := match F (.ref m.length :: ds) (m ++ [.own c []]) with
  | .ok .non m' => .ok (.ref m.length) m'
  | _ => .stuck
theorem jx_make {M : Mode} {k j n : Nat} {c : Str} {F : MF} {e : Expr} {es : List Expr} {g : MA} {p pos : Pos} (Fk : MkX M X.prog X.w X.K X.mg X.base k c n F) (hr : Room j X.A) (hk : k + 1 ≤ j) (ha : JA X W (e :: es) g)
    (hg : Gl X c := by with_unfolding_all rfl) (hdb : (c == ("__debug__" : Str)) = false := by with_unfolding_all decide) (he : starEach (e :: es) X.env = (false, eval e X.env) :: starEach es X.env := by with_unfolding_all rfl) (hpl : (backTo pos (starEach es X.env)).any (·.1) = false := by with_unfolding_all rfl)
    (hlen : ∀ ρ m ds m1, g ρ m = .ok ds m1 → ds.length = n) : JE X W (.Call (.Name c p) (e :: es) [] pos) (mCall (gMake c F) g) := by with_unfolding_all
  obtain ⟨C, f, fd, ps, h1, h2, h3, h4, h5⟩ := Fk.ex
  refine ⟨pe_imp (pe_make (E := fun _ _ _ => False) h4 h1 (hr.mono hk) hg h3 h5 .nil (fun _ _ _ _ _ _ _ z => (M.no z).elim) ha.run hdb he hpl) fun σ H Q ⟨ρ, m, β, hE, hM, p⟩ => ⟨ρ, m, β, hE, hM, ?_⟩⟩
  refine p.bind fun ds m1 vs H1 β1 e0 e1 M1 V1 p1 x dx nx ndx ne => ?_
  have nx' : upd H1 dx (.own x) x = none := by with_unfolding_all rw [upd_ne (Ne.symm ne)]; exact nx
  have eX : Ext β1 H1 (β1 ++ [x]) (upd (upd H1 dx (.own x)) x (.ins C dx [])) := (Ext.tup ndx).trans (Ext.push nx')
  have MX : RM X.K (β1 ++ [x]) (upd (upd H1 dx (.own x)) x (.ins C dx [])) (m1 ++ [.own c []]) := (M1.tup ndx).push nx' ⟨C, dx, [], h2, upd_same, .nil⟩
  have hx : (β1 ++ [x])[m1.length]? = some x := by with_unfolding_all rw [← M1.len]; simp
  refine ⟨by simp [← V1.length, hlen ρ m ds m1 e0], .ref m1.length :: ds, m1 ++ [.own c []], β1 ++ [x], .cons (.ref hx) (by rw [List.append_nil]; exact V1.ext M1 eX), MX, ?_⟩
  unfold gMake at p1
  revert p1
  generalize F (.ref m1.length :: ds) (m1 ++ [.own c []]) = r
  intro p1
  cases r with
  | ok d m2 =>
    cases d with
    | non =>
      intro v H' β' e' M' V'
      cases V'
      exact ⟨rfl, p1 (.ref x) H' β' (eX.trans e') M' (.ref (e'.get hx))⟩
    | _ => exact p1.not_stuck
  | ex x m2 => exact p1.not_stuck
  | stuck => exact p1.not_stuck
end
def lv (k : Nat) : Nat := Nat.rec 0 (fun _ n => n + 1) k
def clsS (st : Stmt) (j : Nat) : Stmt := match st with
  | .ClassDef _ _ _ body _ _ _ _ _ _ _ => body.getD j (.Pass ⟨0, 0, 0, 0⟩)
  | _ => .Pass ⟨0, 0, 0, 0⟩
/-- __init__ of a class of the module -/
structure IniAt (K : PySem.W.Frag) (mg : Str → Option Value) (c : Str) (qual : Str) (st : Stmt) (ps : List Str) : Prop where
  ex : ∃ (C f : Addr) (fd : FuncData), Fun K "__init__" qual st f fd ∧ ClsN K c C ∧ mg c = some (.ref C) ∧ Mk K C f ∧ Binds K fd ps []
section
variable {K : PySem.W.Frag} {h : Heap} {mg : Str → Option Value} {w : World}
theorem ini_mk {c qual : Str} {st : Stmt} {ps : List Str} {C f : Addr} {oc : Value} {od an : Option Addr} {osl : Array (Option Value)} {kV doc pm cdv ct : Value} (X : K.In h) (G : h.Ns mainGlobals mg)
    (a : PySem.W.nsIn K mainGlobals c = some (some (.ref C))) (i : PySem.W.findIn K (.ref C) "__init__" = some (some (.ref f))) (fn : PySem.W.isFn K (.ref f) = true) (mk : PySem.W.makesIn K C = true) (kp : PySem.W.keepIn K (.ref C) = true)
    (l : K.lookup f = some ⟨oc, od, .func (PySem.W.fnOf "__init__" qual (defArgs st) (defBody st) (defScope st) .none kV doc pm an cdv ct), osl⟩) (cd : PySem.W.codeIn K cdv qual = true) (k : PySem.W.keepIn K (.ref f) = true)
    (b : ∀ (kV doc pm : Value) (an : Option Addr) (cdv ct : Value) (us : List Value), us.length = ps.length → bindArgs (PySem.W.fnOf "__init__" qual (defArgs st) (defBody st) (defScope st) .none kV doc pm an cdv ct) ⟨us, []⟩ = pure (ps.zip us)) : IniAt K mg c qual st ps :=
  ⟨C, f, _, fun_mk l cd k, a, PySem.W.mg_of X G a, ⟨mk, i, fn, kp⟩, (fun_mk l cd k).binds b⟩
theorem IniAt.mkx {P : Program} {base : Heap} {M : Mode} {c qual : Str} {st : Stmt} {ps : List Str} {k n : Nat} {F : MF} (D : IniAt K mg c qual st ps) (hok : ∀ f fd, Fun K "__init__" qual st f fd → FnOk P w K mg base (M.CX P w) k f fd ps (spM K (n + 1) F)) : MkX M P w K mg base k c n F := by
  obtain ⟨C, f, fd, h1, h2, h3, h4, h5⟩ := D.ex
  exact ⟨C, f, fd, ps, hok f fd h1, h2, h3, h4, h5⟩
theorem IniAt.mk0 {P : Program} {base : Heap} {M : Mode} {c qual : Str} {st : Stmt} {ps : List Str} {n : Nat} (D : IniAt K mg c qual st ps) (hn : ps.length = n + 1) : MkX M P w K mg base 0 c n (fun _ _ => .stuck) := by
  obtain ⟨C, f, fd, h1, h2, h3, h4, h5⟩ := D.ex
  exact ⟨C, f, fd, ps, ⟨fun vs H Q E h => by rw [hn]; exact h.1, fun A outer s H args us vs Q E _ _ _ _ h => by obtain ⟨_, _, _, _, _, _, q⟩ := h; exact q.elim⟩, h2, h3, h4, h5⟩
theorem fld_mk {c f : Str} {C : Addr} (a : PySem.W.nsIn K mainGlobals c = some (some (.ref C))) (pg : PySem.W.plainGet K C Str.empty = true) (hd : PySem.W.hasDictIn K C = true) (po : PySem.W.plainOver K C = true)
    (sa : PySem.W.findIn K (.ref C) "__setattr__" = some (some (.builtin "object.__setattr__"))) (n : PySem.W.findIn K (.ref C) f = some none) : FldN K f (fun y => y == c) := by with_unfolding_all
  refine ⟨fun y D hy hD => ?_⟩
  have e : y = c := eq_of_beq hy
  subst e
  have hD : PySem.W.nsIn K mainGlobals y = some (some (.ref D)) := hD
  rw [a] at hD
  cases hD
  exact ⟨⟨pg, hd, po, sa⟩, n⟩
theorem FldN.or {f : Str} {P Q : Str → Bool} (p : FldN K f P) (q : FldN K f Q) : FldN K f (fun y => P y || Q y) :=
  ⟨fun c C h hc => by
    rcases Bool.or_eq_true_iff.mp h with h | h
    · exact p.ex c C h hc
    · exact q.ex c C h hc⟩
end
end MI
namespace MI
open PySem L2
section
variable {E : Exn → Mem → Prop} {ρ : Env} {m : Mem}
@[simp] theorem W_fld {P : Str → Bool} {f : Str} {g : ME} {Q : MV → Mem → Prop} : W (mFld P f g ρ m) Q E = W (g ρ m) (fun d m1 => W (gFld P f d m1) Q E) E := by with_unfolding_all
  unfold mFld
  rw [W_bind]
theorem W_gFld {P : Str → Bool} {f c : Str} {n : Nat} {l : List (Str × MV)} {v : MV} {Q : MV → Mem → Prop} (h : m[n]? = some (.own c l)) (hP : P c = true) (hl : l.lookup f = some v) (q : Q v m) : W (gFld P f (.ref n) m) Q E := by with_unfolding_all
  unfold gFld ownOf
  simp only [h, hP, hl, if_true]
  exact q
@[simp] theorem W_fldS {P : Str → Bool} {f : Str} {fo fv : ME} {Q : Fl → Mem → Prop} : W (mFldS P f fo fv ρ m) Q E = W (fv ρ m) (fun y m1 => W (fo ρ m1) (fun d m2 => match ownOf m2 d with
    | some (n, c, l) => if P c = true ∧ l.length < 1000 then Q (.nx ρ) (m2.set n (.own c (putFM f y l))) else False
    | none => False) (fun x m => Q (.ex x ρ) m)) (fun x m => Q (.ex x ρ) m) := by with_unfolding_all
  unfold mFldS
  simp only [W_onE]
  congr 1
  funext y m1
  congr 1
  funext d m2
  cases h : ownOf m2 d with
  | none => rfl
  | some q =>
    obtain ⟨n, c, l⟩ := q
    simp only
    split <;> rfl
theorem ownOf_at {n : Nat} {c : Str} {l : List (Str × MV)} (h : m[n]? = some (.own c l)) : ownOf m (.ref n) = some (n, c, l) := by
  unfold ownOf
  simp only [h]
end
end MI
section
set_option maxHeartbeats 4000000
namespace MI
open PySem PySem.Spec PyProof.Rows L2
end MI
end
namespace MI
open PySem L2
variable [Nms]
section
variable {X : Cx}
def gMulB (d e : MV) (m : Mem) : Re MV := match d, e with
  | .tup xs, .int k => if 0 < xs.length ∧ k = 1 then .ok (.tup xs) m else if 0 < xs.length ∧ k = 0 then .ok (.tup []) m else if 1 ≤ xs.length ∧ xs.length ≤ 10 ∧ 2 ≤ k ∧ k ≤ 4000 then .ok (.tup (List.replicate k.toNat xs).flatten) m else gMul (.tup xs) (.int k) m
  | d, e => gMul d e m
end
section
variable {E : Exn → Mem → Prop} {m : Mem} {Q : MV → Mem → Prop}
@[simp] theorem W_mulB_1 {a : MV} {l : List MV} : W (gMulB (.tup (a :: l)) (.int 1) m) Q E = Q (.tup (a :: l)) m := by with_unfolding_all
  unfold gMulB
  simp
@[simp] theorem W_mulB_0 {a : MV} {l : List MV} : W (gMulB (.tup (a :: l)) (.int 0) m) Q E = Q (.tup []) m := by with_unfolding_all
  unfold gMulB
  simp
end
end MI
namespace MI
open PySem L2
variable [Nms]
section
variable {X : Cx} {W : WX} {pos : Pos}
def mPar2 (i j : Nat) (g : MA) : MS := fun ρ m => onE ρ (g ρ m) fun ds m1 => match ds with
  | [u, v] => .ok (.nx ((ρ.set i (some u)).set j (some v))) m1
  | _ => .stuck
def mPar3 (i j l : Nat) (g : MA) : MS := fun ρ m => onE ρ (g ρ m) fun ds m1 => match ds with
  | [u, v, w] => .ok (.nx (((ρ.set i (some u)).set j (some v)).set l (some w))) m1
  | _ => .stuck
end
section
variable {E : Exn → Mem → Prop} {ρ : Env} {m : Mem} {Q : Fl → Mem → Prop}
@[simp] theorem W_par2 {i j : Nat} {g : MA} : W (mPar2 i j g ρ m) Q E = W (g ρ m) (fun ds m1 => match ds with | [u, v] => Q (.nx ((ρ.set i (some u)).set j (some v))) m1 | _ => False) (fun x m => Q (.ex x ρ) m) := by with_unfolding_all
  unfold mPar2
  rw [W_onE]
  congr 1
  funext ds m1
  split <;> simp_all
@[simp] theorem W_par3 {i j l : Nat} {g : MA} : W (mPar3 i j l g ρ m) Q E = W (g ρ m) (fun ds m1 => match ds with | [u, v, w] => Q (.nx (((ρ.set i (some u)).set j (some v)).set l (some w))) m1 | _ => False) (fun x m => Q (.ex x ρ) m) := by with_unfolding_all
  unfold mPar3
  rw [W_onE]
  congr 1
  funext ds m1
  split <;> simp_all
end
/-- the slots that a target writes -/
def Wr (g : NG) (vs : List Nat) : Prop := ∀ d m as, g d m = some as → ∀ p ∈ as, p.1 ∈ vs
def Wrs (g : NGs) (vs : List Nat) : Prop := ∀ ds m as, g ds m = some as → ∀ p ∈ as, p.1 ∈ vs
theorem wr_name {i : Nat} {vs : List Nat} (h : i ∈ vs) : Wr (ngName i) vs := fun d m as e p hp => by
  unfold ngName at e
  cases e
  simp at hp
  subst hp
  exact h
theorem wr_nil {vs : List Nat} : Wrs ngNil vs := fun ds m as e p hp => by
  unfold ngNil at e
  split at e
  · cases e; cases hp
  · cases e
theorem wr_cons {g : NG} {k : NGs} {vs : List Nat} (h : Wr g vs) (q : Wrs k vs) : Wrs (ngCons g k) vs := fun ds m as e p hp => by
  unfold ngCons at e
  split at e
  · split at e
    · rename_i a b e1 e2
      cases e
      rcases List.mem_append.mp hp with hp | hp
      · exact h _ _ _ e1 p hp
      · exact q _ _ _ e2 p hp
    · cases e
  · cases e
theorem wr_tup {n : Nat} {k : NGs} {vs : List Nat} (q : Wrs k vs) : Wr (ngTup n k) vs := fun d m as e p hp => by
  unfold ngTup at e
  split at e
  · split at e
    · exact q _ _ _ e p hp
    · cases e
  · cases e
end MI
namespace MI
open PySem L2
end MI
namespace MI
open PySem L2
end MI
namespace MI
open PySem L2
variable [Nms]
/-- method m of the class c does F; n arguments behind the object itself -/
structure MthX (M : Mode) (P : Program) (w : World) (K : PySem.W.Frag) (mg : Str → Option Value) (base : Heap) (k : Nat) (c m : Str) (n : Nat) (F : MF) : Prop where
  ex : ∃ (C f : Addr) (fd : FuncData) (ps : List Str), FnOk P w K mg base (M.CX P w) k f fd ps (spM K (n + 1) F) ∧ (∀ D, ClsN K c D → D = C) ∧ Cls K C ∧ Meth K C m f ∧ Binds K fd ps []
theorem RFs.lookN {K : PySem.W.Frag} {β : List Addr} {H : Hp} (f : Str) : ∀ {l : List (Str × MV)} {vs : List (Str × V)}, RFs K β H l vs → l.lookup f = none → vs.lookup f = none
  | _, _, .nil, _ => by with_unfolding_all simp
  | _, _, @RFs.cons _ _ _ k d' v' ds vs h r, q => by with_unfolding_all
    rw [List.lookup_cons] at q ⊢
    cases hk : f == k with
    | true => rw [hk] at q; cases q
    | false => rw [hk] at q; simpa using r.lookN f q
/-- the object is of the class c, and no attribute hides its method m -/
def hasM (c m : Str) (d : MV) (me : Mem) : Bool := match ownOf me d with
  | some (_, c', l) => c' == c && (l.lookup m).isNone
  | none => false
def mMeth (c m : Str) (F : MF) (g : ME) (ga : MA) : ME := fun ρ me => (g ρ me).bind fun d m1 => if hasM c m d m1 = true then (ga ρ m1).bind fun ds m2 => F (d :: ds) m2 else .stuck
section
variable {X : Cx} {W : WX} {pos : Pos}
theorem hasM_ex {K : PySem.W.Frag} {β : List Addr} {H : Hp} {m1 : Mem} {c m : Str} {d : MV} {v : V} {C : Addr} (R : RM K β H m1) (r : RV K β H d v) (h : hasM c m d m1 = true) (hC : ∀ D, ClsN K c D → D = C) : ∃ a dx fs, v = .ref a ∧ H a = some (.ins C dx fs) ∧ fs.lookup m = none := by with_unfolding_all
  unfold hasM at h
  split at h
  · rename_i n c' l ho
    rw [Bool.and_eq_true] at h
    obtain ⟨a, C', dx, vs, rfl, h1, h2, h3, h4, h5⟩ := R.own r ho
    have e : c' = c := eq_of_beq h.1
    subst e
    cases hC _ h3
    refine ⟨a, dx, vs, rfl, h4, h5.lookN m ?_⟩
    simpa using h.2
  · cases h
theorem jx_meth {M : Mode} {k j n : Nat} {c m : Str} {F : MF} {o e : Expr} {es : List Expr} {g : ME} {ga : MA} {apos : Pos} {pl : Sem Bool} (Fk : MthX M X.prog X.w X.K X.mg X.base k c m n F) (hr : Room j X.A) (hk : k ≤ j) (tk : M.Tk X W) (ho : JE X W o g) (ha : JA X W (e :: es) ga)
    (hst : starEach (e :: es) X.env = (false, eval e X.env) :: starEach es X.env := by with_unfolding_all rfl) (hpl : (backTo pos (starEach es X.env)).any (·.1) = false := by with_unfolding_all rfl)
    (ht : eval (.Call (.Attribute o m apos) (e :: es) [] pos) X.env = (do
      let ov ← eval o X.env
      standAt apos.atName
      let (f, first) ← holding [ov] (getMethod ov m pl)
      callWith pos f first (backTo pos (starEach (e :: es) X.env)) (backToKw pos (keywordEach [] X.env))) := by with_unfolding_all rfl)
    (hlen : ∀ ρ m ds m1, ga ρ m = .ok ds m1 → ds.length = n) : JE X W (.Call (.Attribute o m apos) (e :: es) [] pos) (mMeth c m F g ga) := by with_unfolding_all
  obtain ⟨C, f, fd, ps, h1, h2, h3, h4, h5⟩ := Fk.ex
  refine ⟨⟨fun pins s σ H Q I q => ?_⟩⟩
  obtain ⟨ρ, m0, β, hE, hM, p⟩ := q
  refine PySem.W.methodCall_KW (pl := pl) (thn (ho.run.run pins s σ H (fun x H1 => ∃ a dx fs, x = .ref a ∧ H1 a = some (.ins C dx fs) ∧ fs.lookup m = none ∧ tA X W ga σ H1 fun vs H2 => spM X.K (n + 1) F (x :: vs) H2 Q (WE W σ)) I ⟨ρ, m0, β, hE, hM, ?_⟩) fun u s1 ⟨x, H1, I1, rx, a, dx, fs, ex, ea, l, q⟩ => ?_) ht
  · refine p.bind fun d m1 x H1 β1 _ e1 M1 V1 p1 => ?_
    split at p1
    · rename_i hm
      obtain ⟨a, dx, fs, rfl, q1, q2⟩ := hasM_ex M1 V1 hm h2
      refine ⟨a, dx, fs, rfl, q1, q2, ρ, m1, β1, hE.ext hM e1, M1, ?_⟩
      refine p1.bind fun ds m2 vs H2 β2 e0 e2 M2 V2 p2 => ⟨by simp [← V2.length, hlen ρ m1 ds m2 e0], d :: ds, m2, β2, .cons (V1.ext M1 e2) V2, M2, ?_⟩
      revert p2
      generalize F (d :: ds) m2 = r
      intro p2
      cases r with
      | ok d m2 => exact p2
      | ex x m2 => exact p2
      | stuck => exact p2
    · exact p1.not_stuck
  · subst ex
    obtain rfl : u = Value.ref a := rx
    refine getmeth_ok I1 ea h3 h4 l ?_
    refine PySem.W.callWith_K (first := [.ref a]) (h₀ := X.base) I.ok.mod.kin h4.kp (thn (ha.run.run pos pins s1 σ H1 _ I1 q) fun us s2 ⟨vs, H2, I2, r, q2⟩ => ⟨I2.kIn, ?_⟩) hst hpl
    exact run_fnSD (E := WE W) (us := .ref a :: us) (vs := .ref a :: vs) h1 (hr.mono hk) h5 .nil (M.pass tk σ) I2 (.cons rfl r) (by rw [List.append_nil]; exact q2)
end
/-- a method of a class of the module -/
structure MthAt (K : PySem.W.Frag) (c m qual : Str) (st : Stmt) (ps : List Str) : Prop where
  ex : ∃ (C f : Addr) (fd : FuncData), Fun K m qual st f fd ∧ (∀ D, ClsN K c D → D = C) ∧ Cls K C ∧ Meth K C m f ∧ Binds K fd ps []
section
variable {K : PySem.W.Frag} {h : Heap} {mg : Str → Option Value} {w : World}
theorem mth_mk {c m qual : Str} {st : Stmt} {ps : List Str} {C f : Addr} {oc : Value} {od an : Option Addr} {osl : Array (Option Value)} {kV doc pm cdv ct : Value}
    (a : PySem.W.nsIn K mainGlobals c = some (some (.ref C))) (i : PySem.W.findIn K (.ref C) m = some (some (.ref f))) (fn : PySem.W.isFn K (.ref f) = true)
    (pg : PySem.W.plainGet K C Str.empty = true) (hd : PySem.W.hasDictIn K C = true) (po : PySem.W.plainOver K C = true) (sa : PySem.W.findIn K (.ref C) "__setattr__" = some (some (.builtin "object.__setattr__")))
    (l : K.lookup f = some ⟨oc, od, .func (PySem.W.fnOf m qual (defArgs st) (defBody st) (defScope st) .none kV doc pm an cdv ct), osl⟩) (cd : PySem.W.codeIn K cdv qual = true) (k : PySem.W.keepIn K (.ref f) = true)
    (b : ∀ (kV doc pm : Value) (an : Option Addr) (cdv ct : Value) (us : List Value), us.length = ps.length → bindArgs (PySem.W.fnOf m qual (defArgs st) (defBody st) (defScope st) .none kV doc pm an cdv ct) ⟨us, []⟩ = pure (ps.zip us)) : MthAt K c m qual st ps :=
  ⟨C, f, _, fun_mk l cd k, fun D hD => by with_unfolding_all
    have hD : PySem.W.nsIn K mainGlobals c = some (some (.ref D)) := hD
    rw [a] at hD
    cases hD
    rfl, ⟨pg, hd, po, sa⟩, ⟨i, fn, k⟩, (fun_mk l cd k).binds b⟩
theorem MthAt.mthx {P : Program} {base : Heap} {M : Mode} {c m qual : Str} {st : Stmt} {ps : List Str} {k n : Nat} {F : MF} (D : MthAt K c m qual st ps) (hok : ∀ f fd, Fun K m qual st f fd → FnOk P w K mg base (M.CX P w) k f fd ps (spM K (n + 1) F)) : MthX M P w K mg base k c m n F := by
  obtain ⟨C, f, fd, h1, h2, h3, h4, h5⟩ := D.ex
  exact ⟨C, f, fd, ps, hok f fd h1, h2, h3, h4, h5⟩
theorem MthAt.mth0 {P : Program} {base : Heap} {M : Mode} {c m qual : Str} {st : Stmt} {ps : List Str} {n : Nat} (D : MthAt K c m qual st ps) (hn : ps.length = n + 1) : MthX M P w K mg base 0 c m n (fun _ _ => .stuck) := by
  obtain ⟨C, f, fd, h1, h2, h3, h4, h5⟩ := D.ex
  exact ⟨C, f, fd, ps, ⟨fun vs H Q E h => by rw [hn]; exact h.1, fun A outer s H args us vs Q E _ _ _ _ h => by obtain ⟨_, _, _, _, _, _, q⟩ := h; exact q.elim⟩, h2, h3, h4, h5⟩
end
end MI
namespace MI
open PySem L2
variable [Nms]
section
variable {X : Cx} {W : WX} {pos : Pos}
def mBrk : MS := fun ρ m => .ok (.bk ρ) m
def mCnt : MS := fun ρ m => .ok (.ct ρ) m
theorem js_brk : JS X W (.Break pos) mBrk := by with_unfolding_all exact (js_break)
end
section
variable {K : PySem.W.Frag} {β : List Addr} {H : Hp} {m : Mem}
theorem RVs.reverse : ∀ {l : List MV} {vs : List V}, RVs K β H l vs → RVs K β H l.reverse vs.reverse
  | _, _, .nil => .nil
  | _, _, .cons h r => by rw [List.reverse_cons, List.reverse_cons]; exact r.reverse.app (.cons h .nil)
def mRev (g : ME) : ME := fun ρ m => (g ρ m).bind fun d m1 => match lstOf m1 d with
  | some l => alloc (.lst l.reverse) m1
  | none => .stuck
/-- the pairs of a list, as entries -/
def pairsM : List MV → Option (List (Key × MV))
  | [] => some []
  | .tup [.str s, v] :: r => (pairsM r).map fun ks => (.inr s, v) :: ks
  | .tup [.int i, v] :: r => (pairsM r).map fun ks => (.inl i, v) :: ks
  | _ :: _ => none
def mergeM (kvs more : List (Key × MV)) : List (Key × MV) := more.foldl (fun acc kv => putM acc kv.1 kv.2) kvs
def gDict : List MV → Mem → Re MV
  | [d], m => match dctOf m d with
    | some (_, l) => alloc (.dct l) m
    | none => match lstOf m d with
      | some l => match pairsM l with
        | some ks => alloc (.dct (mergeM [] ks)) m
        | none => .stuck
      | none => .stuck
  | _, _ => .stuck
end
section
variable {m : Mem} {E : Exn → Mem → Prop} {ρ : Env}
@[simp] theorem W_brkS {Q : Fl → Mem → Prop} : MI.W (mBrk ρ m) Q E = Q (.bk ρ) m := by with_unfolding_all rfl
@[simp] theorem W_cntS {Q : Fl → Mem → Prop} : MI.W (mCnt ρ m) Q E = Q (.ct ρ) m := by with_unfolding_all rfl
@[simp] theorem W_rev {g : ME} {Q : MV → Mem → Prop} : MI.W (mRev g ρ m) Q E = MI.W (g ρ m) (fun d m1 => match lstOf m1 d with
  | some l => Q (.ref m1.length) (m1 ++ [.lst l.reverse])
  | none => False) E := by with_unfolding_all
  unfold mRev
  simp only [W_bind]
  congr 1
  funext d m1
  cases lstOf m1 d <;> rfl
@[simp] theorem W_dictC {d : MV} {Q : MV → Mem → Prop} : MI.W (gDict [d] m) Q E = match dctOf m d with
  | some (_, l) => Q (.ref m.length) (m ++ [.dct l])
  | none => match lstOf m d with
    | some l => match pairsM l with
      | some ks => Q (.ref m.length) (m ++ [.dct (mergeM [] ks)])
      | none => False
    | none => False := by with_unfolding_all
  show MI.W (match dctOf m d with
    | some (_, l) => alloc (.dct l) m
    | none => match lstOf m d with
      | some l => match pairsM l with
        | some ks => alloc (.dct (mergeM [] ks)) m
        | none => .stuck
      | none => .stuck) Q E = _
  cases dctOf m d with
  | some p => rfl
  | none =>
    cases lstOf m d with
    | none => rfl
    | some l =>
      dsimp only
      cases pairsM l <;> rfl
end
section
variable {m : Mem} {E : Exn → Mem → Prop} {ρ : Env}
@[simp] theorem W_meth {c x : Str} {F : MF} {g : ME} {ga : MA} {Q : MV → Mem → Prop} : MI.W (mMeth c x F g ga ρ m) Q E = MI.W (g ρ m) (fun d m1 => hasM c x d m1 = true ∧ MI.W (ga ρ m1) (fun ds m2 => MI.W (F (d :: ds) m2) Q E) E) E := by with_unfolding_all
  unfold mMeth
  simp only [W_bind]
  congr 1
  funext d m1
  by_cases h : hasM c x d m1 = true
  · simp [h]
  · simp [h]
end
end MI
namespace MI
open PySem L2
variable [Nms]
open Classical in
noncomputable def dcM (chk : Mem → Prop) (g : NG) (t : MT) (fk fv : ME) (ρ : Env) : List MV → List (Key × MV) → Mem → Re (List (Key × MV))
  | [], acc, m => if chk m then .ok acc m else .stuck
  | d :: r, acc, m => if chk m then (match g d m with
    | some as => match t (setE ρ as) m with
      | .ok true m2 => match fk (setE ρ as) m2 with
        | .ok y m3 => match fv (setE ρ as) m3 with
          | .ok z m4 => match keyOf y with
            | some k => if acc.length < sizeLine then dcM chk g t fk fv ρ r (putM acc k z) m4 else .stuck
            | none => .stuck
          | _ => .stuck
        | _ => .stuck
      | .ok false m2 => dcM chk g t fk fv ρ r acc m2
      | _ => .stuck
    | none => .stuck) else .stuck
noncomputable def mDc (h : MI') (g : NG) (t : MT) (fk fv : ME) (vs : List Nat) : ME := fun ρ m => (h ρ m).bind fun it m1 => (dcM it.chk g t fk fv (wipeM ρ vs) it.items [] m1).bind fun l m2 => alloc (.dct l) m2
section
variable {X : Cx} {W : WX} {pos : Pos} {K : PySem.W.Frag} {β : List Addr} {H : Hp} {m : Mem}
theorem RKs.len : ∀ {l : List (Key × MV)} {vs : List (Key × V)}, RKs K β H l vs → l.length = vs.length
  | _, _, .nil => rfl
  | _, _, .cons _ r => by simp [r.len]
end
end MI
namespace MI
open PySem L2
section
variable {ρ : Env} {m : Mem} {E : Exn → Mem → Prop}
@[simp] theorem W_dc {h : MI'} {g : NG} {t : MT} {fk fv : ME} {vs : List Nat} {Q : MV → Mem → Prop} : W (mDc h g t fk fv vs ρ m) Q E = W (h ρ m) (fun it m => W (dcM it.chk g t fk fv (wipeM ρ vs) it.items [] m) (fun l m => Q (.ref m.length) (m ++ [.dct l])) E) E := by with_unfolding_all
  unfold mDc
  simp only [W_bind]
  rfl
end
end MI
namespace MI
open PySem L2 NdefX
variable [Nms]
/-- what stays of what is not tracked, and of tuples, whatever runs -/
structure Lat (H H' : Hp) (h h' : Heap) : Prop where
  keep : ∀ b o, h.get? b = some o → H b = none → ∃ sl, h'.get? b = some { o with slots := sl }
  free : ∀ b o, h.get? b = some o → H b = none → H' b = none
  tups : ∀ b xs, H b = some (.tup xs) → H' b = some (.tup xs)
  frzs : ∀ b o u, H b = some (.frz o u) → H' b = some (.frz o u)
  tbls : ∀ b ps, H b = some (.tbl ps) → ∃ more, H' b = some (.tbl (ps ++ more))
theorem Lat.refl {H : Hp} {h : Heap} : Lat H H h h := ⟨fun b o q _ => ⟨o.slots, q⟩, fun _ _ _ n => n, fun _ _ q => q, fun _ _ _ q => q, fun _ _ q => ⟨#[], by rw [q]; simp⟩⟩
theorem Lat.trans {H H1 H2 : Hp} {h h1 h2 : Heap} (a : Lat H H1 h h1) (b : Lat H1 H2 h1 h2) : Lat H H2 h h2 where
  keep := fun c o q n => by
    obtain ⟨sl, q1⟩ := a.keep c o q n
    obtain ⟨sl2, q2⟩ := b.keep c _ q1 (a.free c o q n)
    exact ⟨sl2, q2⟩
  free := fun c o q n => by
    obtain ⟨sl, q1⟩ := a.keep c o q n
    exact b.free c _ q1 (a.free c o q n)
  tups := fun c xs q => b.tups c xs (a.tups c xs q)
  frzs := fun c o u q => b.frzs c o u (a.frzs c o u q)
  tbls := fun c ps q => by
    obtain ⟨m1, q1⟩ := a.tbls c ps q
    obtain ⟨m2, q2⟩ := b.tbls c _ q1
    exact ⟨m1 ++ m2, by rw [q2, Array.append_assoc]⟩
theorem Lat.un {fs : List Addr} {H H' : Hp} {h h' : Heap} (u : Un fs [] H H' h h') : Lat H H' h h' :=
  ⟨fun _ _ q n => u.any q n (by simp), fun b o q n => u.free b o q n (by simp), u.tups, u.frzs, u.tbls⟩
theorem Lat.fn {H H' : Hp} {h h' : Heap} {c : Addr} (l : Lat H H' h h') (n : H c = none) (f : PySem.W.FnAt c h) : PySem.W.FnAt c h' := by
  obtain ⟨oc, od, fd, sl, q⟩ := f
  obtain ⟨sl', q'⟩ := l.keep c _ q n
  exact ⟨oc, od, fd, sl', q'⟩
theorem Lat.cell {H H' : Hp} {h h' : Heap} {c : Addr} {v : Option Value} (l : Lat H H' h h') (n : H c = none) (q : h.IsCell c v) : h'.IsCell c v := by
  obtain ⟨o, ho, hd⟩ := q
  obtain ⟨sl', q'⟩ := l.keep c _ ho n
  exact ⟨_, q', hd⟩
theorem among_more {pos : Pos} {cv : Value} (r : List Value) : ∀ l : List Value, codeAmong pos l = some cv → codeAmong pos (l ++ r) = some cv := by
  intro l
  fun_induction codeAmong pos l with
  | case1 a t b u c rest hc => intro h; cases h; simp only [List.cons_append, codeAmong]; rw [if_pos hc]
  | case2 a t b u c rest hc ih => intro h; simp only [List.cons_append, codeAmong]; rw [if_neg hc]; exact ih h
  | case3 l _ => intro h; cases h
theorem Rch.more {tb : List Addr} {H H' : Hp} (hf : ∀ b o u, H b = some (.frz o u) → H' b = some (.frz o u)) (ht : ∀ b ps, H b = some (.tbl ps) → ∃ more, H' b = some (.tbl (ps ++ more))) {P : Addr} (r : Rch tb H P) : Rch tb H' P := by
  induction r with
  | st h => exact .st h
  | en _ h1 h2 h3 h4 ih =>
    obtain ⟨more, h1'⟩ := ht _ _ h1
    exact .en ih h1' (by rw [Array.toList_append]; exact among_more _ _ h2) (hf _ _ _ h3) h4
mutual
/-- no list of the script's kind within -/
def noKl : MV → Bool
  | .kl _ => false
  | .tup l => noKls l
  | _ => true
def noKls : List MV → Bool
  | [] => true
  | d :: l => noKl d && noKls l
end
mutual
theorem RV.later {K : PySem.W.Frag} {β β' : List Addr} {H H' : Hp} {h h' : Heap} (l : Lat H H' h h') (hb : ∀ (n : Nat) (a : Addr), β[n]? = some a → β'[n]? = some a) : ∀ {d : MV} {v : V}, noKl d = true → RV K β H d v → RV K β' H' d v
  | _, _, _, .non => .non
  | _, _, _, .bl b => .bl b
  | _, _, _, .int i => .int i
  | _, _, _, .str x => .str x
  | _, _, q, .tup h r => .tup (by
      rcases h with (h | ⟨o, h⟩) | h
      · exact .inl (.inl (l.tups _ _ h))
      · exact .inl (.inr ⟨o, l.frzs _ _ _ h⟩)
      · exact .inr h) (RVs.later l hb (by unfold noKl at q; exact q) r)
  | _, _, _, .ref h => .ref (hb _ _ h)
  | _, _, q, .kl h r => by unfold noKl at q; cases q
  | _, _, _, .clo h => .clo fun n a q => hb n a (h n a q)
theorem RVs.later {K : PySem.W.Frag} {β β' : List Addr} {H H' : Hp} {h h' : Heap} (l : Lat H H' h h') (hb : ∀ (n : Nat) (a : Addr), β[n]? = some a → β'[n]? = some a) : ∀ {d : List MV} {v : List V}, noKls d = true → RVs K β H d v → RVs K β' H' d v
  | _, _, _, .nil => .nil
  | _, _, q, .cons h r => by
    unfold noKls at q
    rw [Bool.and_eq_true] at q
    exact .cons (RV.later l hb q.1 h) (RVs.later l hb q.2 r)
end
/-- what a run of C promises -/
def PostF (K : PySem.W.Frag) (r : Re MV) (β : List Addr) (H : Hp) (Q : VK) (E : XK) : Prop :=
  match r with
  | .ok d m' => ∀ v H' β', Ext β H β' H' → RM K β' H' m' → RV K β' H' d v → Q v H'
  | .ex x m' => ∀ cls dd H' β', Ext β H β' H' → RM K β' H' m' → XR K β' H' x cls dd → E cls dd H'
  | .stuck => False
/-- the function object at c, made ahead of (s, H), does C from there on: C k where there is room for k steps, k below kb; n arguments -/
structure ActsM (M : Mode) (P : Program) (w : World) (K : PySem.W.Frag) (mg : Str → Option Value) (base : Heap) (kb n : Nat) (c : Addr) (C : Nat → MF) (β : List Addr) (s : Shared) (H : Hp) : Prop where
  free : H c = none
  fn : PySem.W.FnAt c s.heap
  run : ∀ (k : Nat) (_ : k < kb) (A : Around) (outer : List PySem.Env) (s' : Shared) (H' : Hp) (β' : List Addr) (m : Mem) (ds : List MV) (us : List Value) (vs : List V) (Q : VK) (E : XK), Lat H H' s.heap s'.heap → (∀ (n : Nat) (a : Addr), β[n]? = some a → β'[n]? = some a) → Room (lv k) A → Env0 P w K mg base A outer s' H' →
    Vals vs us → vs.length = n → RVs K β' H' ds vs → RM K β' H' m → PostF K (C k ds m) β' H' Q E → codeAny (model P w) A (.call (.ref c) ⟨us, []⟩) (CR (M.CX P w) outer P w H' s' Q E) s'
section
variable {M : Mode} {P : Program} {w : World} {K : PySem.W.Frag} {mg : Str → Option Value} {base : Heap} {kb kb' n : Nat} {c : Addr} {C : Nat → MF} {β β1 : List Addr} {s s1 : Shared} {H H1 : Hp}
theorem ActsM.later (a : ActsM M P w K mg base kb n c C β s H) (l : Lat H H1 s.heap s1.heap) (hb : ∀ (n : Nat) (a : Addr), β[n]? = some a → β1[n]? = some a) : ActsM M P w K mg base kb n c C β1 s1 H1 where
  free := by
    obtain ⟨oc, od, fd, sl, q⟩ := a.fn
    exact l.free c _ q a.free
  fn := l.fn a.free a.fn
  run := fun k hk A outer s' H' β' m ds us vs Q E l' hb' => a.run k hk A outer s' H' β' m ds us vs Q E (l.trans l') fun n x q => hb' n x (hb n x q)
theorem ActsM.mono (a : ActsM M P w K mg base kb n c C β s H) (h : kb' ≤ kb) : ActsM M P w K mg base kb' n c C β s H :=
  ⟨a.free, a.fn, fun k hk => a.run k (Nat.lt_of_lt_of_le hk h)⟩
end
def mThen (i : Nat) (c : Addr) (β0 : List Addr) (C : MF) (g : MA) : ME := fun ρ m => match ρ[i]? with
  | some (some (.clo c' β')) => if c' = c ∧ β' = β0 then (g ρ m).bind fun ds m1 => C ds m1 else .stuck
  | _ => .stuck
end MI
namespace MI
open PySem PySem.Spec PyProof.Rows L2 LamX NdefX
end MI
namespace MI
open PySem PySem.Spec PyProof.Rows L2 LamX NdefX
variable [Nms]
/-- a code object of the name q that a run made stands at d, its table can be come to -/
def Cod (K : PySem.W.Frag) (H : Hp) (d : Addr) (q : Str) : Prop := ∃ o T, H d = some (CodeF o) ∧ CodeIs o q d T ∧ Rch (Nms.tb K) H T
theorem Cod.later {K : PySem.W.Frag} {H H' : Hp} {h h' : Heap} {d : Addr} {q : Str} (l : Lat H H' h h') (c : Cod K H d q) : Cod K H' d q := by
  obtain ⟨o, T, h1, h2, h3⟩ := c
  exact ⟨o, T, l.frzs _ _ _ h1, h2, h3.more l.frzs l.tbls⟩
theorem Rch.ext {K : PySem.W.Frag} {β β' : List Addr} {H H' : Hp} {m : Mem} (R : RM K β H m) (e : Ext β H β' H') {tb : List Addr} {P : Addr} (r : Rch tb H P) : Rch tb H' P := by
  induction r with
  | st h => exact .st h
  | en _ h1 h2 h3 h4 ih =>
    obtain ⟨more, h1'⟩ := e.tab _ _ h1 fun z => (R.noTab z _ h1).1 _ rfl
    exact .en ih h1' (by rw [Array.toList_append]; exact among_more _ _ h2) (e.old _ _ h3 (fun z => (R.noTab z _ h3).2 _ rfl) fun _ z => by unfold CodeF at z; cases z) h4
theorem Cod.ext {K : PySem.W.Frag} {β β' : List Addr} {H H' : Hp} {m : Mem} {d : Addr} {q : Str} (R : RM K β H m) (e : Ext β H β' H') (c : Cod K H d q) : Cod K H' d q := by
  obtain ⟨o, T, h1, h2, h3⟩ := c
  exact ⟨o, T, e.old _ _ h1 (fun z => (R.noTab z _ h1).2 _ rfl) (fun _ z => by unfold CodeF at z; cases z), h2, h3.ext R e⟩
end MI
namespace MI
open PySem L2 NdefX
variable [Nms]
/-- the closure among the arguments -/
def cloAt (ic : Nat) (ds : List MV) : Option (Addr × List Addr) := match ds[ic]? with
  | some (.clo c β) => some (c, β)
  | _ => none
/-- a call that hands the closure on -/
def mCallC (ic : Nat) (c : Addr) (β0 : List Addr) (F : MF) (g : MA) : ME := fun ρ m => (g ρ m).bind fun ds m1 => if cloAt ic ds = some (c, β0) then F ds m1 else .stuck
end MI
namespace MI
open PySem L2 NdefX
variable [Nms]
/-- what a closure's names hold at its start: the arguments, what it captured, nothing -/
def startC (n : Nat) (ds cap : List MV) : Env := ds.map some ++ (cap.map some ++ List.replicate (n - ds.length - cap.length) none)
/-- captured values as slots -/
inductive RVo (K : PySem.W.Frag) (β : List Addr) (H : Hp) : List MV → List (Option V) → Prop
  | nil : RVo K β H [] []
  | cons {d : MV} {v : V} {ds : List MV} {vs : List (Option V)} : RV K β H d v → RVo K β H ds vs → RVo K β H (d :: ds) (some v :: vs)
theorem RVo.length {K : PySem.W.Frag} {β : List Addr} {H : Hp} : ∀ {ds : List MV} {ws : List (Option V)}, RVo K β H ds ws → ds.length = ws.length
  | _, _, .nil => rfl
  | _, _, .cons _ r => by simp [r.length]
theorem RVo.at_ {K : PySem.W.Frag} {β : List Addr} {H : Hp} : ∀ {ds : List MV} {ws : List (Option V)} {i : Nat} {d : MV}, RVo K β H ds ws → ds[i]? = some d → ∃ v, ws[i]? = some (some v) ∧ RV K β H d v
  | _, _, 0, _, .cons h _, e => by simp at e; subst e; exact ⟨_, by simp, h⟩
  | _, _, i + 1, _, .cons _ r, e => by simp at e; obtain ⟨v, e', q⟩ := r.at_ e; exact ⟨v, by simpa using e', q⟩
theorem RVo.later {K : PySem.W.Frag} {β β' : List Addr} {H H' : Hp} {h h' : Heap} (l : Lat H H' h h') (hb : ∀ (n : Nat) (a : Addr), β[n]? = some a → β'[n]? = some a) : ∀ {d : List MV} {v : List (Option V)}, noKls d = true → RVo K β H d v → RVo K β' H' d v
  | _, _, _, .nil => .nil
  | _, _, q, .cons h r => by
    unfold noKls at q
    rw [Bool.and_eq_true] at q
    exact .cons (RV.later l hb q.1 h) (RVo.later l hb q.2 r)
end MI
namespace MI
open PySem PySem.Spec PyProof.Rows L2 LamX NdefX
variable [Nms]
/-- the captured slots of an environment -/
def capOf (ρ : Env) : List Nat → Option (List MV)
  | [] => some []
  | j :: js => match ρ[j]?, capOf ρ js with
    | some (some d), some r => some (d :: r)
    | _, _ => none
/-- what a lambda does: at fuel k + 1 its body, over what it captured -/
def lamC (N : Nat) (cap : List MV) (b : Nat → ME) : Nat → MF
  | 0 => fun _ _ => .stuck
  | k + 1 => fun ds m => b k (startC N ds cap) m
open Classical in
/-- what all choices of an address and of numbers come to, if it is one thing -/
noncomputable def dem (f : Addr → List Addr → Re MV) : Re MV := if h : ∃ r, ∀ c β, f c β = r then Classical.choose h else .stuck
end MI
namespace MI
open PySem PySem.Spec PyProof.Rows L2 LamX NdefX
variable [Nms]
theorem PostF.later {K : PySem.W.Frag} {r : Re MV} {β β1 : List Addr} {H H1 : Hp} {Q : VK} {E : XK} (p : PostF K r β H Q E) (e : Ext β H β1 H1) : PostF K r β1 H1 Q E := by
  cases r with
  | ok d m => exact fun v H' β' e' => p v H' β' (e.trans e')
  | ex x m => exact fun c d H' β' e' => p c d H' β' (e.trans e')
  | stuck => exact p
/-- a call that makes its last argument, a lambda: F of what the lambda does, whatever the address -/
noncomputable def mCallL (F : (Nat → MF) → MF) (g : MA) (js : List Nat) (N : Nat) (b : Nat → ME) : ME := fun ρ m => (g ρ m).bind fun ds m1 => match capOf ρ js with
  | some cap => if noKls cap = true then dem fun c β => F (lamC N cap b) (ds ++ [.clo c β]) m1 else .stuck
  | none => .stuck
end MI
namespace MI
open PySem PySem.Spec PyProof.Rows L2 LamX NdefX
end MI
namespace MI
open PySem PySem.Spec PyProof.Rows L2 LamX NdefX
variable [Nms]
/-- o.m(.., lambda ..) -/
noncomputable def mMethL (c m : Str) (F : (Nat → MF) → MF) (go : ME) (g : MA) (js : List Nat) (N : Nat) (b : Nat → ME) : ME := fun ρ me => (go ρ me).bind fun d m0 => if hasM c m d m0 = true then (g ρ m0).bind fun ds m1 => match capOf ρ js with
  | some cap => if noKls cap = true then dem fun ca β => F (lamC N cap b) (d :: (ds ++ [.clo ca β])) m1 else .stuck
  | none => .stuck else .stuck
end MI
namespace MI
open PySem PySem.Spec PyProof.Rows L2 LamX NdefX
variable [Nms]
section
variable {M : Mode} {P : Program} {w : World} {K : PySem.W.Frag} {mg : Str → Option Value} {base : Heap} {k : Nat}
/-- what a nested def does: at fuel k + 1 its body, over what it captured -/
def defC (N : Nat) (cap : List MV) (b : Nat → MS) : Nat → MF
  | 0 => fun _ _ => .stuck
  | k + 1 => fun ds m => endOf (b k (startC N ds cap) m)
end
end MI
namespace MI
open PySem PySem.Spec PyProof.Rows L2 LamX NdefX
variable [Nms]
/-- the arguments, then the closure that is made of a nested def -/
noncomputable def mCallN (F : (Nat → MF) → MF) (g : MA) (js : List Nat) (N : Nat) (b : Nat → MS) : ME := fun ρ m => (g ρ m).bind fun ds m1 => match capOf ρ js with
  | some cap => if noKls cap = true then dem fun c β => F (defC N cap b) (ds ++ [.clo c β]) m1 else .stuck
  | none => .stuck
/-- def y: ..; return x(.., y), y at slot iy -/
noncomputable def mDefRet (F : (Nat → MF) → MF) (g : MA) (js : List Nat) (N : Nat) (b : Nat → MS) (iy : Nat) : MS := fun ρ m => mRet (mCallN F g js N b) (ρ.set iy none) m
end MI
namespace MI
open PySem PySem.Spec PyProof PyProof.Rows L2 LamX NdefX
end MI
namespace MI
open PySem PySem.Spec PyProof PyProof.Rows L2 LamX NdefX
end MI
namespace MI
open PySem PySem.Spec PyProof PyProof.Rows L2 LamX NdefX
end MI
namespace MI
open PySem PySem.Spec PyProof.Rows L2 LamX NdefX
variable [Nms]
noncomputable def in2 (F : (Nat → MF) → MF) (js1 : List Nat) (N1 : Nat) (b1 : (Nat → MF) → Addr → List Addr → Nat → MS) (N2 : Nat) (b2 : Nat → MS) (i2 : Nat) (cap2 : List MV) (ρ : Env) (ds : List MV) (m1 : Mem) (c2 : Addr) (β2 : List Addr) : Re MV := match capOf (ρ.set i2 (some (.clo c2 β2))) js1 with
  | some cap1 => if noKls cap1 = true then dem fun c β => F (defC N1 cap1 (b1 (defC N2 cap2 b2) c2 β2)) (ds ++ [.clo c β]) m1 else .stuck
  | none => .stuck
noncomputable def mCallN2 (F : (Nat → MF) → MF) (g : MA) (js1 : List Nat) (N1 : Nat) (b1 : (Nat → MF) → Addr → List Addr → Nat → MS) (js2 : List Nat) (N2 : Nat) (b2 : Nat → MS) (i2 : Nat) : ME := fun ρ m => (g ρ m).bind fun ds m1 => match capOf ρ js2 with
  | some cap2 => if noKls cap2 = true then dem (in2 F js1 N1 b1 N2 b2 i2 cap2 ρ ds m1) else .stuck
  | none => .stuck
noncomputable def mDef2Ret (F : (Nat → MF) → MF) (g : MA) (js1 : List Nat) (N1 : Nat) (b1 : (Nat → MF) → Addr → List Addr → Nat → MS) (js2 : List Nat) (N2 : Nat) (b2 : Nat → MS) (i1 i2 : Nat) : MS :=
  fun ρ m => mRet (mCallN2 F g js1 N1 b1 js2 N2 b2 i2) ((ρ.set i1 none).set i2 none) m
end MI
namespace MI
open PySem PySem.Spec PyProof.Rows L2 LamX NdefX
end MI
namespace MI
open PySem PySem.Spec PyProof.Rows L2
end MI
namespace MI
open PySem PySem.Spec PyProof.Rows L2 LamX NdefX
variable [Nms]
noncomputable def mCallLm (F : (Nat → MF) → MF) (g1 g2 : MA) (js : List Nat) (N : Nat) (b : Nat → ME) : ME := fun ρ m => (g1 ρ m).bind fun ds1 m1 => match capOf ρ js with
  | some cap => if noKls cap = true then (g2 ρ m1).bind fun ds2 m2 => dem fun c β => F (lamC N cap b) (ds1 ++ .clo c β :: ds2) m2 else .stuck
  | none => .stuck
end MI
namespace MI
open PySem PySem.Spec PyProof.Rows L2 LamX
end MI
namespace MI
open PySem PySem.Spec PyProof.Rows L2 LamX NdefX
end MI
namespace MI
open PySem PySem.Spec PyProof PyProof.Rows L2 LamX NdefX
end MI
namespace MI
open PySem PySem.Spec PyProof.Rows L2 LamX
variable [Nms]
def TabsOf (K : PySem.W.Frag) : List Str → List (Addr × Addr) → Prop
  | [], [] => True
  | x :: xs, p :: cs => (PySem.W.tabIn K x = some p ∧ PySem.W.codeHdIn K p.1 p.2 = true ∧ K.lookup p.2 = none) ∧ TabsOf K xs cs
  | _, _ => False
theorem TabsOf.mem {K : PySem.W.Frag} : ∀ {xs : List Str} {cs : List (Addr × Addr)}, TabsOf K xs cs → ∀ p ∈ cs, ∃ x ∈ xs, PySem.W.tabIn K x = some p ∧ PySem.W.codeHdIn K p.1 p.2 = true ∧ K.lookup p.2 = none
  | [], [], _, p, h => by cases h
  | x :: xs, q :: cs, t, p, h => by
    obtain ⟨t1, t2⟩ := t
    rcases List.mem_cons.mp h with rfl | h
    · exact ⟨x, List.mem_cons_self, t1⟩
    · obtain ⟨y, hy, r⟩ := TabsOf.mem t2 p h
      exact ⟨y, List.mem_cons_of_mem _ hy, r⟩
  | [], _ :: _, t, _, _ => t.elim
  | _ :: _, [], t, _, _ => t.elim
theorem TabsOf.tb {K : PySem.W.Frag} : ∀ {xs : List Str} {cs : List (Addr × Addr)}, TabsOf K xs cs → (xs.filterMap fun x => (PySem.W.tabIn K x).map (·.2)) = cs.map (·.2)
  | [], [], _ => rfl
  | x :: xs, q :: cs, t => by
    obtain ⟨⟨t0, _⟩, t2⟩ := t
    rw [List.filterMap_cons, t0]
    simp only [Option.map_some, List.map_cons]
    rw [TabsOf.tb t2]
  | [], _ :: _, t => t.elim
  | _ :: _, [], t => t.elim
end MI
namespace MI
open PySem L2
def dropM (l : List (Key × MV)) (k : Key) : List (Key × MV) := l.filter fun kv => decide (kv.1 ≠ k)
theorem RKs.drop {K : PySem.W.Frag} {β : List Addr} {H : Hp} : ∀ {l : List (Key × MV)} {vs : List (Key × V)} {k : Key}, RKs K β H l vs → RKs K β H (dropM l k) (dropK vs k)
  | _, _, _, .nil => .nil
  | _, _, k, .cons (k := q) h r => by
    unfold dropM dropK
    rw [List.filter_cons, List.filter_cons]
    by_cases e : q = k
    · simp only [e, ne_eq, not_true_eq_false, decide_false]; exact RKs.drop r
    · simp only [e, ne_eq, not_false_eq_true, decide_true]; exact .cons h (RKs.drop r)
def gDPop (d k : MV) (m : Mem) : Re MV := match dctOf m d, keyOf k with
  | some (n, l), some q => match valM l q with
    | some e => .ok e (m.set n (.dct (dropM l q)))
    | none => .stuck
  | _, _ => .stuck
def mDPop (fd fy : ME) : ME := fun ρ m => (fd ρ m).bind fun d m1 => if (dctOf m1 d).isSome = true then (fy ρ m1).bind fun k m2 => gDPop d k m2 else .stuck
section
variable {ρ : Env} {m : Mem} {Q : MV → Mem → Prop} {E : Exn → Mem → Prop}
@[simp] theorem W_dpop {f g : ME} : MI.W (mDPop f g ρ m) Q E = MI.W (f ρ m) (fun d m1 => if (dctOf m1 d).isSome = true then MI.W (g ρ m1) (fun k m2 => MI.W (gDPop d k m2) Q E) E else False) E := by
  unfold mDPop
  rw [W_bind]
  congr 1
  funext d m
  rw [W_ite]
  simp only [W_bind, W_stuck]
end
end MI
namespace MI
open PySem L2
def mPos (k : Nat) (f : ME) : ME := match k with
  | 0 => fun _ _ => .stuck
  | _ + 1 => f
theorem je_pos [Nms] {X : Cx} {W : WX} {e : Expr} {k : Nat} {f : ME} (h : 0 < k → JE X W e f) : JE X W e (mPos k f) := by
  cases k with
  | zero => exact ⟨⟨fun pins s σ H Q I h => by obtain ⟨_, _, _, _, _, p⟩ := h; exact p.elim⟩⟩
  | succ k => exact h (Nat.succ_pos k)
theorem lv_pos {k : Nat} (h : 0 < k) : lv (k - 1) + 1 ≤ lv k := by
  cases k with
  | zero => exact absurd h (Nat.lt_irrefl 0)
  | succ k => exact Nat.le_refl _
end MI
namespace MI
open PySem L2
variable [Nms]
section
variable {E : Exn → Mem → Prop} {ρ : Env} {m : Mem}
@[simp] theorem W_then {i : Nat} {c : Addr} {β : List Addr} {C : MF} {g : MA} {Q : MV → Mem → Prop} : W (mThen i c β C g ρ m) Q E = match ρ[i]? with
    | some (some (.clo c' β')) => (c' = c ∧ β' = β) ∧ W (g ρ m) (fun ds m1 => W (C ds m1) Q E) E
    | _ => False := by with_unfolding_all
  unfold mThen
  cases h1 : ρ[i]? with
  | none => rfl
  | some o =>
    cases o with
    | none => rfl
    | some d =>
      cases d with
      | clo c' β' =>
        simp only
        by_cases h : c' = c ∧ β' = β
        · rw [if_pos h, W_bind]; simp [h]
        · rw [if_neg h]; simp [h]
      | _ => rfl
@[simp] theorem W_callC {ic : Nat} {c : Addr} {β : List Addr} {F : MF} {g : MA} {Q : MV → Mem → Prop} : W (mCallC ic c β F g ρ m) Q E = W (g ρ m) (fun ds m1 => cloAt ic ds = some (c, β) ∧ W (F ds m1) Q E) E := by with_unfolding_all
  unfold mCallC
  rw [W_bind]
  congr 1
  funext ds m1
  rw [W_ite]
  by_cases h : cloAt ic ds = some (c, β)
  · rw [if_pos h]; simp [h]
  · rw [if_neg h]; simp [h]
@[simp] theorem W_callL {F : (Nat → MF) → MF} {g : MA} {js : List Nat} {N : Nat} {b : Nat → ME} {Q : MV → Mem → Prop} : W (mCallL F g js N b ρ m) Q E = W (g ρ m) (fun ds m1 => match capOf ρ js with
    | some cap => noKls cap = true ∧ W (dem fun c β => F (lamC N cap b) (ds ++ [.clo c β]) m1) Q E
    | none => False) E := by with_unfolding_all
  unfold mCallL
  rw [W_bind]
  congr 1
  funext ds m1
  cases capOf ρ js with
  | none => rfl
  | some cap =>
    simp only
    by_cases h : noKls cap = true
    · rw [if_pos h]; simp [h]
    · rw [if_neg h]; simp [h]
@[simp] theorem W_callLm {F : (Nat → MF) → MF} {g1 g2 : MA} {js : List Nat} {N : Nat} {b : Nat → ME} {Q : MV → Mem → Prop} : W (mCallLm F g1 g2 js N b ρ m) Q E = W (g1 ρ m) (fun ds1 m1 => match capOf ρ js with
    | some cap => noKls cap = true ∧ W (g2 ρ m1) (fun ds2 m2 => W (dem fun c β => F (lamC N cap b) (ds1 ++ .clo c β :: ds2) m2) Q E) E
    | none => False) E := by with_unfolding_all
  unfold mCallLm
  rw [W_bind]
  congr 1
  funext ds m1
  cases capOf ρ js with
  | none => rfl
  | some cap =>
    simp only
    by_cases h : noKls cap = true
    · rw [if_pos h, W_bind]; simp [h]
    · rw [if_neg h]; simp [h]
@[simp] theorem W_callN {F : (Nat → MF) → MF} {g : MA} {js : List Nat} {N : Nat} {b : Nat → MS} {Q : MV → Mem → Prop} : W (mCallN F g js N b ρ m) Q E = W (g ρ m) (fun ds m1 => match capOf ρ js with
    | some cap => noKls cap = true ∧ W (dem fun c β => F (defC N cap b) (ds ++ [.clo c β]) m1) Q E
    | none => False) E := by with_unfolding_all
  unfold mCallN
  rw [W_bind]
  congr 1
  funext ds m1
  cases capOf ρ js with
  | none => rfl
  | some cap =>
    simp only
    by_cases h : noKls cap = true
    · rw [if_pos h]; simp [h]
    · rw [if_neg h]; simp [h]
@[simp] theorem W_defRet {F : (Nat → MF) → MF} {g : MA} {js : List Nat} {N : Nat} {b : Nat → MS} {iy : Nat} {Q : Fl → Mem → Prop} : W (mDefRet F g js N b iy ρ m) Q E = W (mCallN F g js N b (ρ.set iy none) m) (fun d m => Q (.rt d) m) (fun x m => Q (.ex x (ρ.set iy none)) m) := by with_unfolding_all
  unfold mDefRet
  rw [W_ret]
@[simp] theorem W_def2Ret {F : (Nat → MF) → MF} {g : MA} {js1 : List Nat} {N1 : Nat} {b1 : (Nat → MF) → Addr → List Addr → Nat → MS} {js2 : List Nat} {N2 : Nat} {b2 : Nat → MS} {i1 i2 : Nat} {Q : Fl → Mem → Prop} :
    W (mDef2Ret F g js1 N1 b1 js2 N2 b2 i1 i2 ρ m) Q E = W (mCallN2 F g js1 N1 b1 js2 N2 b2 i2 ((ρ.set i1 none).set i2 none) m) (fun d m => Q (.rt d) m) (fun x m => Q (.ex x ((ρ.set i1 none).set i2 none)) m) := by with_unfolding_all
  unfold mDef2Ret
  rw [W_ret]
@[simp] theorem W_callN2 {F : (Nat → MF) → MF} {g : MA} {js1 : List Nat} {N1 : Nat} {b1 : (Nat → MF) → Addr → List Addr → Nat → MS} {js2 : List Nat} {N2 : Nat} {b2 : Nat → MS} {i2 : Nat} {Q : MV → Mem → Prop} :
    W (mCallN2 F g js1 N1 b1 js2 N2 b2 i2 ρ m) Q E = W (g ρ m) (fun ds m1 => match capOf ρ js2 with
      | some cap2 => noKls cap2 = true ∧ W (dem (in2 F js1 N1 b1 N2 b2 i2 cap2 ρ ds m1)) Q E
      | none => False) E := by with_unfolding_all
  unfold mCallN2
  rw [W_bind]
  congr 1
  funext ds m1
  cases capOf ρ js2 with
  | none => rfl
  | some cap =>
    simp only
    by_cases h : noKls cap = true
    · rw [if_pos h]; simp [h]
    · rw [if_neg h]; simp [h]
@[simp] theorem W_methL {c x : Str} {F : (Nat → MF) → MF} {go : ME} {g : MA} {js : List Nat} {N : Nat} {b : Nat → ME} {Q : MV → Mem → Prop} : W (mMethL c x F go g js N b ρ m) Q E = W (go ρ m) (fun d m0 => hasM c x d m0 = true ∧ W (g ρ m0) (fun ds m1 => match capOf ρ js with
    | some cap => noKls cap = true ∧ W (dem fun ca β => F (lamC N cap b) (d :: (ds ++ [.clo ca β])) m1) Q E
    | none => False) E) E := by with_unfolding_all
  unfold mMethL
  rw [W_bind]
  congr 1
  funext d m0
  rw [W_ite]
  by_cases h0 : hasM c x d m0 = true
  · rw [if_pos h0, W_bind]
    simp only [h0, true_and]
    congr 1
    funext ds m1
    cases capOf ρ js with
    | none => rfl
    | some cap =>
      simp only
      by_cases h : noKls cap = true
      · rw [if_pos h]; simp [h]
      · rw [if_neg h]; simp [h]
  · rw [if_neg h0]; simp [h0]
@[simp] theorem W_pos {k : Nat} {f : ME} {Q : MV → Mem → Prop} : W (mPos (k + 1) f ρ m) Q E = W (f ρ m) Q E := by with_unfolding_all rfl
/-- C does what κ does, from k0 on, below k -/
def Agr (A : MV → Mem → Prop) (k0 k : Nat) (C : Nat → MF) (κ : MV → Mem → Re MV) : Prop := ∀ k1, k0 ≤ k1 → k1 < k → ∀ d m, A d m → C k1 [d] m = κ d m
theorem Agr.mono {A : MV → Mem → Prop} {k0 k k0' k' : Nat} {C : Nat → MF} {κ : MV → Mem → Re MV} (h : Agr A k0 k C κ) (h0 : k0 ≤ k0') (h1 : k' ≤ k) : Agr A k0' k' C κ := fun k1 a b => h k1 (Nat.le_trans h0 a) (Nat.lt_of_lt_of_le b h1)
end
end MI
namespace MI
open PySem PySem.SeqAt
open L2
end MI
namespace MI
open PySem L2
end MI
namespace MI
open PySem L2
variable [Nms]
section
variable {X : Cx} {W : WX} {pos : Pos} {K : PySem.W.Frag} {β : List Addr} {H : Hp} {m : Mem}
def mNinK (tbl : List (Str × MV)) (f : ME) : ME := fun ρ m => (f ρ m).bind fun d m1 => match d with
  | .str z => .ok (.bl (!(tbl.lookup z).isSome)) m1
  | _ => .stuck
def gNeE (a b : MV) (m : Mem) : Re MV := match lstOf m a, lstOf m b with
  | some l, some [] => .ok (.bl (!l.isEmpty)) m
  | _, _ => .stuck
def mIsx2 (P : Str → Option Bool) (f : ME) : ME := fun ρ m => (f ρ m).bind fun d m1 => match (exnOf m1 d).bind fun x => P x.cls with
  | some b => .ok (.bl b) m1
  | none => .stuck
end
section
variable {m : Mem} {E : Exn → Mem → Prop} {Q : MV → Mem → Prop}
@[simp] theorem W_ninK {tbl : List (Str × MV)} {f : ME} {ρ : Env} : MI.W (mNinK tbl f ρ m) Q E = MI.W (f ρ m) (fun d m => match d with | .str z => Q (.bl (!(tbl.lookup z).isSome)) m | _ => False) E := by with_unfolding_all
  unfold mNinK
  cases h : f ρ m with
  | stuck => rfl
  | ex x m' => rfl
  | ok d m' => cases d <;> rfl
@[simp] theorem W_neE {a b : MV} : MI.W (gNeE a b m) Q E = match lstOf m a, lstOf m b with | some l, some [] => Q (.bl (!l.isEmpty)) m | _, _ => False := by with_unfolding_all
  unfold gNeE
  split <;> rfl
@[simp] theorem W_isx2 {P : Str → Option Bool} {f : ME} {ρ : Env} : MI.W (mIsx2 P f ρ m) Q E = MI.W (f ρ m) (fun d m => match (exnOf m d).bind fun x => P x.cls with | some b => Q (.bl b) m | none => False) E := by with_unfolding_all
  unfold mIsx2
  cases h : f ρ m with
  | stuck => rfl
  | ex x m' => rfl
  | ok d m' =>
    show MI.W (match (exnOf m' d).bind fun x => P x.cls with | some b => Re.ok (MV.bl b) m' | none => .stuck) Q E = (match (exnOf m' d).bind fun x => P x.cls with | some b => Q (.bl b) m' | none => False)
    cases (exnOf m' d).bind fun x => P x.cls <;> rfl
end
end MI
namespace MI
open PySem L2 PyProof.Rows
variable [Nms]
/-- the object is of the class c -/
def isOwn (c : Str) (d : MV) (m : Mem) : Bool := match ownOf m d with
  | some (_, c', _) => c' == c
  | none => false
def mGetO (c : Str) (F : MF) (g gi : ME) : ME := fun ρ m => (g ρ m).bind fun d m1 => (gi ρ m1).bind fun i m2 => if isOwn c d m2 = true then F [d, i] m2 else .stuck
def gProp (c : Str) (F : MF) (d : MV) (m : Mem) : Re MV := if isOwn c d m = true then (match F [d] m with
  | .ok v m1 => .ok v m1
  | _ => .stuck) else .stuck
def mProp (c : Str) (F : MF) (g : ME) : ME := fun ρ m => (g ρ m).bind fun d m1 => gProp c F d m1
def builtNames : List String := ["NoneType", "bool", "int", "str", "tuple", "list", "dict"]
def isoV (P : Str → Option Bool) (m : Mem) (d : MV) : Option Bool := match ownOf m d with
  | some (_, c, _) => P c
  | none => (tyM m d).bind fun t => if t ∈ builtNames then some false else none
def mIso (P : Str → Option Bool) (f : ME) : ME := fun ρ m => (f ρ m).bind fun d m1 => match isoV P m1 d with
  | some b => .ok (.bl b) m1
  | none => .stuck
section
variable {E : Exn → Mem → Prop} {ρ : Env} {m : Mem} {Q : MV → Mem → Prop}
@[simp] theorem W_getO {c : Str} {F : MF} {g gi : ME} : MI.W (mGetO c F g gi ρ m) Q E = MI.W (g ρ m) (fun d m1 => MI.W (gi ρ m1) (fun i m2 => if isOwn c d m2 = true then MI.W (F [d, i] m2) Q E else False) E) E := by with_unfolding_all
  unfold mGetO
  simp only [W_bind]
  congr 1
  funext d m1
  congr 1
  funext i m2
  rw [W_ite, W_stuck]
@[simp] theorem W_prop {c : Str} {F : MF} {g : ME} : MI.W (mProp c F g ρ m) Q E = MI.W (g ρ m) (fun d m1 => MI.W (gProp c F d m1) Q E) E := by with_unfolding_all
  unfold mProp
  rw [W_bind]
@[simp] theorem W_iso {P : Str → Option Bool} {f : ME} : MI.W (mIso P f ρ m) Q E = MI.W (f ρ m) (fun d m => match isoV P m d with | some b => Q (.bl b) m | none => False) E := by with_unfolding_all
  unfold mIso
  rw [W_bind]
  congr 1
  funext d m
  cases isoV P m d <;> rfl
end
end MI
namespace MI
open PySem PySem.SeqAt
open L2
end MI
namespace MI
open PySem L2
variable [Nms]
section
variable {X : Cx} {pins : List (Addr × Obj)} {σ : L2.St} {H : Hp} {s : Shared} {β : List Addr}
mutual
theorem RV.nested (I : Inv X pins σ H s) : ∀ {d : MV} {v : V} {k : NestedKey} {u : Value}, RV X.K β H d v → nkOf d = some k → RelV v u → NestedIs s.heap k u
  | _, _, _, _, .non, e, r => by cases e; cases r; exact .none
  | _, _, _, _, .bl b, e, r => by cases e
  | _, _, _, _, .int i, e, r => by cases e; obtain ⟨t, rfl⟩ := r; exact .int _ _
  | _, _, _, _, .str x, e, r => by cases e; obtain ⟨t, rfl⟩ := r; exact .text _ _
  | _, _, _, _, .tup (a := a) (ds := ds) h r, e, q => by
    cases h2 : nksOf ds with
    | none => simp [nkOf, h2] at e
    | some ks =>
      simp [nkOf, h2] at e
      subst e
      cases q
      obtain ⟨its, p1, ⟨o, p2, p3, n, p4⟩, _⟩ := I.tuple h
      exact .tup p2 p3 p4 (by simpa using RVs.nested I r h2 p1)
  | _, _, _, _, .ref h, e, r => by cases e
  | _, _, _, _, .kl h r, e, q => by cases e
  | _, _, _, _, .clo h, e, r => by cases e
theorem RVs.nested (I : Inv X pins σ H s) : ∀ {ds : List MV} {vs : List V} {ks : List NestedKey} {us : List Value}, RVs X.K β H ds vs → nksOf ds = some ks → Vals vs us → NestedAll s.heap ks us
  | _, _, _, _, .nil, e, q => by cases e; cases q; exact .nil
  | _, _, _, _, .cons (d := d) (ds := ds) h r, e, q => by
    cases h1 : nkOf d with
    | none => simp [nksOf, h1] at e
    | some k =>
      cases h2 : nksOf ds with
      | none => simp [nksOf, h1, h2] at e
      | some ks =>
        simp [nksOf, h1, h2] at e
        subst e
        cases q with
        | cons q1 q2 => exact .cons (RV.nested I h h1 q1) (RVs.nested I r h2 q2)
end
/-- the keys that are recorded are there -/
theorem RNs.keys (I : Inv X pins σ H s) : ∀ {l : List (MV × MV)} {xs : List (NestedKey × Addr × Value)}, RNs X.K β H l xs → ∀ x ∈ xs, (nestedKind X.prog X.w).is s.heap x.1 x.2.1
  | _, _, .nil, x, hx => by cases hx
  | _, _, .cons h1 h2 h3 h4 h5 r, x, hx => by
    rcases List.mem_cons.mp hx with e | hx
    · subst e
      exact ⟨RV.nested I h3 h1 rfl, h2⟩
    · exact RNs.keys I r x hx
end
def nOf (m : Mem) : MV → Option (Nat × List (MV × MV))
  | .ref n => match m[n]? with
    | some (.dN l) => some (n, l)
    | some (.dct []) => some (n, [])
    | _ => none
  | _ => none
/-- a key: its word, not too deep -/
def tkOf : MV → Option NestedKey
  | .tup l => match nkOf (.tup l) with
    | some k => if k.depth ≤ 8 then some k else none
    | none => none
  | _ => none
def eqN (a : MV) (k : NestedKey) : Bool := match nkOf a with
  | some x => decide (x = k)
  | none => false
def valN (l : List (MV × MV)) (k : NestedKey) : Option MV := (l.find? fun p => eqN p.1 k).map (·.2)
def putN (l : List (MV × MV)) (k : NestedKey) (d e : MV) : List (MV × MV) := if (l.any fun p => eqN p.1 k) = true then l.map (fun p => if eqN p.1 k = true then (p.1, e) else p) else l ++ [(d, e)]
section
variable {K : PySem.W.Frag} {β : List Addr} {H : Hp} {m : Mem}
theorem nOf_some {d : MV} {n : Nat} {l : List (MV × MV)} (h : nOf m d = some (n, l)) : d = .ref n ∧ (m[n]? = some (.dN l) ∨ (m[n]? = some (.dct []) ∧ l = [])) := by
  unfold nOf at h
  split at h
  · split at h
    · rename_i e; cases h; exact ⟨rfl, .inl e⟩
    · rename_i e; cases h; exact ⟨rfl, .inr ⟨e, rfl⟩⟩
    · cases h
  · cases h
theorem RNs.length : ∀ {l : List (MV × MV)} {xs : List (NestedKey × Addr × Value)}, RNs K β H l xs → l.length = xs.length
  | _, _, .nil => rfl
  | _, _, .cons _ _ _ _ _ r => by simp [RNs.length r]
theorem RNs.val : ∀ {l : List (MV × MV)} {xs : List (NestedKey × Addr × Value)} {k : NestedKey}, RNs K β H l xs →
    (∀ e, valN l k = some e → ∃ a u v, atKey xs k = some (a, u) ∧ RelV v u ∧ RV K β H e v) ∧ (valN l k = none → atKey xs k = none)
  | _, _, k, .nil => ⟨fun _ h => (by cases h), fun _ => rfl⟩
  | _, _, k, .cons (q := q) h1 h2 h3 h4 h5 r => by
    obtain ⟨i1, i2⟩ := RNs.val (k := k) r
    unfold valN atKey at *
    rw [List.find?_cons, List.find?_cons]
    by_cases e : q = k
    · subst e
      simp only [eqN, h1, decide_true]
      exact ⟨fun d z => (by cases z; exact ⟨_, _, _, rfl, h4, h5⟩), fun z => (by cases z)⟩
    · simp only [eqN, h1, e, decide_false]
      exact ⟨i1, i2⟩
theorem RNs.any : ∀ {l : List (MV × MV)} {xs : List (NestedKey × Addr × Value)} {k : NestedKey}, RNs K β H l xs → (l.any fun p => eqN p.1 k) = (atKey xs k).isSome
  | _, _, _, .nil => rfl
  | _, _, k, .cons (q := q) (xs := xs) h1 h2 h3 h4 h5 r => by
    have ih := RNs.any (k := k) r
    rw [List.any_cons, ih]
    unfold atKey
    rw [List.find?_cons]
    by_cases e : q = k
    · simp [eqN, h1, e]
    · simp [eqN, h1, e]
theorem RNs.map : ∀ {l : List (MV × MV)} {xs : List (NestedKey × Addr × Value)} {k : NestedKey} {e : MV} {u : Value} {v : V}, RNs K β H l xs → RelV v u → RV K β H e v →
    RNs K β H (l.map fun p => if eqN p.1 k = true then (p.1, e) else p) (xs.map (putAt k u))
  | _, _, _, _, _, _, .nil, _, _ => .nil
  | _, _, k, _, _, _, .cons (q := q) h1 h2 h3 h4 h5 r, z1, z2 => by
    have ih := RNs.map (k := k) r z1 z2
    simp only [List.map_cons]
    by_cases e : q = k
    · subst e
      simp only [eqN, h1, decide_true, if_true, putAt]
      exact .cons h1 h2 h3 z1 z2 ih
    · simp only [eqN, h1, e, decide_false, putAt, if_false, Bool.false_eq_true]
      exact .cons h1 h2 h3 h4 h5 ih
theorem RNs.app : ∀ {l l2 : List (MV × MV)} {xs x2 : List (NestedKey × Addr × Value)}, RNs K β H l xs → RNs K β H l2 x2 → RNs K β H (l ++ l2) (xs ++ x2)
  | _, _, _, _, .nil, q => q
  | _, _, _, _, .cons h1 h2 h3 h4 h5 r, q => .cons h1 h2 h3 h4 h5 (RNs.app r q)
theorem RNs.put {l : List (MV × MV)} {xs : List (NestedKey × Addr × Value)} {k : NestedKey} {d e : MV} {a : Addr} {u : Value} {v : V} (r : RNs K β H l xs) (h1 : nkOf d = some k) (h2 : k.depth ≤ 8) (h3 : RV K β H d (.ref a)) (h4 : RelV v u) (h5 : RV K β H e v) :
    RNs K β H (putN l k d e) (storedH xs k a u) := by
  unfold putN storedH
  rw [r.any (k := k)]
  split
  · exact r.map h4 h5
  · exact r.app (.cons h1 h2 h3 h4 h5 .nil)
/-- a dict of such keys, as it stands in the heap -/
def NSt (H : Hp) (a : Addr) (xs : List (NestedKey × Addr × Value)) : Prop := (H a = some (NDx a xs) ∧ (a == sysModules) = false) ∨ (H a = some (.dK []) ∧ xs = [])
theorem RM.dN (R : RM K β H m) {d : MV} {v : V} {n : Nat} {l : List (MV × MV)} (r : RV K β H d v) (h : nOf m d = some (n, l)) : ∃ a xs, v = .ref a ∧ β[n]? = some a ∧ NSt H a xs ∧ RNs K β H l xs := by
  obtain ⟨rfl, e⟩ := nOf_some h
  cases r with
  | ref hb =>
    rcases e with e | ⟨e, rfl⟩
    · obtain ⟨xs, q1, q3, q2⟩ := R.ob n _ _ e hb
      exact ⟨_, xs, rfl, hb, .inl ⟨q1, q3⟩, q2⟩
    · obtain ⟨vs, q1, q2⟩ := R.ob n _ _ e hb
      cases q2
      exact ⟨_, [], rfl, hb, .inr ⟨q1, rfl⟩, .nil⟩
end
def gNGet (d k : MV) (m : Mem) : Re MV := match nOf m d, tkOf k with
  | some (_, l), some q => match valN l q with
    | some e => .ok e m
    | none => .stuck
  | _, _ => .stuck
section
variable {X : Cx} {W : WX} {pos : Pos}
/-- x[i]: also of a dict whose keys are tuples -/
def isN (m : Mem) (d : MV) : Bool := (nOf m d).isSome
def gItemN (a b : MV) (m : Mem) : Re MV := if isN m a = true ∧ (tkOf b).isSome = true then gNGet a b m else gItem a b m
def gNGet2 (d k x : MV) (m : Mem) : Re MV := match nOf m d, tkOf k with
  | some (_, l), some q => .ok ((valN l q).getD x) m
  | _, _ => .stuck
def mNGet2 (fd fy fx : ME) : ME := fun ρ m => (fd ρ m).bind fun d m1 => if isN m1 d = true then (fy ρ m1).bind fun y m2 => (fx ρ m2).bind fun x m3 => gNGet2 d y x m3 else .stuck
def mNPut (fd fk fv : ME) : MS := fun ρ m => onE ρ (fv ρ m) fun v m1 => onE ρ (fd ρ m1) fun d m2 => onE ρ (fk ρ m2) fun k m3 => match nOf m3 d, tkOf k with
  | some (n, l), some q => if l.length < sizeLine then .ok (.nx ρ) (m3.set n (.dN (putN l q k v))) else .stuck
  | _, _ => .stuck
end
end MI
namespace MI
open PySem L2
variable [Nms]
section
variable {X : Cx} {W : WX} {pos : Pos} {K : PySem.W.Frag} {β : List Addr} {H : Hp} {m : Mem}
def gInsert (d : MV) (ds : List MV) (m : Mem) : Re MV := match ds with
  | [.int i, e] => match mutOf m d with
    | some (n, l) => if l.length < sizeLine ∧ 0 ≤ i ∧ i < 2 ^ 63 then .ok .non (m.set n (.lst (l.take i.toNat ++ [e] ++ l.drop i.toNat))) else .stuck
    | none => .stuck
  | _ => .stuck
def mPrs : List (Key × ME) → Env → Mem → Re (List (Key × MV))
  | [], _, m => .ok [] m
  | (k, f) :: r, ρ, m => (f ρ m).bind fun d m1 => (mPrs r ρ m1).bind fun l m2 => .ok ((k, d) :: l) m2
def foldE (acc l : List (Key × MV)) : List (Key × MV) := l.foldl (fun acc kv => putM acc kv.1 kv.2) acc
def mDispE (fs : List (Key × ME)) : ME := fun ρ m => (mPrs fs ρ (m ++ [.dct []])).bind fun l m2 => match m2[m.length]? with
  | some (.dct []) => .ok (.ref m.length) (m2.set m.length (.dct (foldE [] l)))
  | _ => .stuck
end
section
variable {m : Mem} {ρ : Env} {E : Exn → Mem → Prop} {Q : MV → Mem → Prop}
@[simp] theorem W_insert {n : Nat} {e : MV} {i : Int} : W (gInsert (.ref n) [.int i, e] m) Q E = match m[n]? with | some (.lst l) => (l.length < sizeLine ∧ 0 ≤ i ∧ i < 2 ^ 63) ∧ Q .non (m.set n (.lst (l.take i.toNat ++ [e] ++ l.drop i.toNat))) | _ => False := by with_unfolding_all
  unfold gInsert
  cases h : m[n]? with
  | none => simp [mutOf, h]
  | some o =>
    cases o with
    | lst l =>
      simp only [mutOf, h]
      split
      · rename_i z; exact propext ⟨fun q => ⟨z, q⟩, fun q => q.2⟩
      · rename_i z; exact propext ⟨fun q => q.elim, fun q => z q.1⟩
    | _ => simp [mutOf, h]
@[simp] theorem W_prs0 {Q : List (Key × MV) → Mem → Prop} : W (mPrs [] ρ m) Q E = Q [] m := by with_unfolding_all rfl
@[simp] theorem W_prs {k : Key} {f : ME} {r : List (Key × ME)} {Q : List (Key × MV) → Mem → Prop} : W (mPrs ((k, f) :: r) ρ m) Q E = W (f ρ m) (fun d m1 => W (mPrs r ρ m1) (fun l m2 => Q ((k, d) :: l) m2) E) E := by with_unfolding_all
  show W ((f ρ m).bind _) Q E = _
  rw [W_bind]
  congr 1
  funext d m1
  rw [W_bind]
  rfl
@[simp] theorem W_dispE {fs : List (Key × ME)} : W (mDispE fs ρ m) Q E = W (mPrs fs ρ (m ++ [.dct []])) (fun l m2 => match m2[m.length]? with | some (.dct []) => Q (.ref m.length) (m2.set m.length (.dct (foldE [] l))) | _ => False) E := by with_unfolding_all
  unfold mDispE
  rw [W_bind]
  congr 1
  funext l m2
  split <;> rfl
@[simp] theorem tkOf_int {i : Int} : tkOf (.int i) = none := rfl
@[simp] theorem tkOf_str {i : Str} : tkOf (.str i) = none := rfl
@[simp] theorem gItemN_int {a : MV} {i : Int} : gItemN a (.int i) m = gItem a (.int i) m := by simp [gItemN]
@[simp] theorem gItemN_str {a : MV} {i : Str} : gItemN a (.str i) m = gItem a (.str i) m := by simp [gItemN]
@[simp] theorem nOf_ref {n : Nat} : nOf m (.ref n) = match m[n]? with | some (.dN l) => some (n, l) | some (.dct []) => some (n, []) | _ => none := rfl
@[simp] theorem W_nget2 {fd fy fx : ME} : W (mNGet2 fd fy fx ρ m) Q E = W (fd ρ m) (fun d m => if isN m d = true then W (fy ρ m) (fun y m => W (fx ρ m) (fun x m => W (gNGet2 d y x m) Q E) E) E else False) E := by with_unfolding_all
  show W ((fd ρ m).bind _) Q E = _
  rw [W_bind]
  congr 1
  funext d m1
  split
  · rw [W_bind]
    congr 1
    funext y m2
    rw [W_bind]
  · rfl
@[simp] theorem W_nput {fo fi fv : ME} {Q : Fl → Mem → Prop} : W (mNPut fo fi fv ρ m) Q E = W (fv ρ m) (fun v m1 => W (fo ρ m1) (fun d m2 => W (fi ρ m2) (fun k m3 => match nOf m3 d, tkOf k with
    | some (n, l), some q => l.length < sizeLine ∧ Q (.nx ρ) (m3.set n (.dN (putN l q k v)))
    | _, _ => False) (fun x m => Q (.ex x ρ) m)) (fun x m => Q (.ex x ρ) m)) (fun x m => Q (.ex x ρ) m) := by with_unfolding_all
  unfold mNPut
  cases h1 : fv ρ m with
  | stuck => rfl
  | ex x m1 => rfl
  | ok v m1 =>
    show W (onE ρ (fo ρ m1) _) Q E = W (fo ρ m1) _ _
    cases h2 : fo ρ m1 with
    | stuck => rfl
    | ex x m1 => rfl
    | ok d m2 =>
      show W (onE ρ (fi ρ m2) _) Q E = W (fi ρ m2) _ _
      cases h3 : fi ρ m2 with
      | stuck => rfl
      | ex x m1 => rfl
      | ok k m3 =>
        show W (match nOf m3 d, tkOf k with | some (n, l), some q => _ | _, _ => _) Q E = (match nOf m3 d, tkOf k with | some (n, l), some q => _ | _, _ => _)
        cases nOf m3 d with
        | none => rfl
        | some nl =>
          cases tkOf k with
          | none => rfl
          | some q =>
            obtain ⟨n, l⟩ := nl
            dsimp only
            split
            · rename_i z; exact propext ⟨fun q => ⟨z, q⟩, fun q => q.2⟩
            · rename_i z; exact propext ⟨fun q => q.elim, fun q => absurd q.1 z⟩
end
end MI
namespace MI
open PySem L2
end MI
namespace MI
open PySem L2
variable [Nms]
section
variable {X : Cx} {W : WX} {pos : Pos} {K : PySem.W.Frag} {β : List Addr} {H : Hp} {m : Mem}
def zipd (l k : List MV) : List MV := l.zipWith (fun x y => .tup [x, y]) k
theorem zipd_get {l k : List MV} {i : Nat} {d : MV} (h : (zipd l k)[i]? = some d) : ∃ x y, l[i]? = some x ∧ k[i]? = some y ∧ d = .tup [x, y] := by
  unfold zipd at h
  rw [List.getElem?_zipWith] at h
  cases e1 : l[i]? with
  | none => rw [e1] at h; cases h
  | some x =>
    cases e2 : k[i]? with
    | none => rw [e1, e2] at h; cases h
    | some y => rw [e1, e2] at h; exact ⟨x, y, rfl, rfl, (Option.some.inj h).symm⟩
def zipOf : List MV → Mem → Re IterM
  | [.tup l, .tup k], m => if l.length = k.length then .ok ⟨zipd l k, fun _ => True⟩ m else .stuck
  | [.ref a, .ref b], m => match lstOf m (.ref a), lstOf m (.ref b) with
    | some l, some k => .ok ⟨zipd l k, fun m' => lstOf m' (.ref a) = some l ∧ lstOf m' (.ref b) = some k⟩ m
    | _, _ => .stuck
  | _, _ => .stuck
def mZip (g : MA) : MI' := fun ρ m => (g ρ m).bind zipOf
theorem walkM_zipT {a b : Addr} {l k : List MV} {vs us : List V} (M : RM K β H m) (h : SqT K H a vs) (h' : SqT K H b us) (hl : l.length = k.length) (r : RVs K β H l vs) (r' : RVs K β H k us) : WalkM K β H ⟨zipd l k, fun _ => True⟩ (RZ.ItzT K a b) := by
  have l1 := r.length
  have l2 := r'.length
  refine ⟨fun H1 => SqT K H1 a vs ∧ SqT K H1 b us, fun i H1 x H2 => ∃ T y z, x = .ref T ∧ H1 T = none ∧ H2 = upd H1 T (.tup [y, z]) ∧ vs[i]? = some y ∧ us[i]? = some z, ⟨fun i H1 hi g => ?_, fun H1 g => ?_, fun i H1 x H2 _ g y => ?_⟩, fun β1 H1 m1 e M1 _ => ⟨M.sqt e h, M.sqt e h'⟩, fun i H1 x H2 β1 m1 d e M1 _ hi y => ?_⟩
  · have hi : i < min l.length k.length := by simpa [zipd] using hi
    have i1 : i < vs.length := by omega
    have i2 : i < us.length := by omega
    exact ⟨vs, us, vs[i], us[i], g.1, g.2, by simp [i1], by simp [i2]⟩
  · exact ⟨vs, us, g.1, g.2, .inl (by simp [zipd]; omega)⟩
  · obtain ⟨T, x', z', q1, q2, q3, q4, q5⟩ := y
    exact ⟨T, x', z', q1, q2, q3, q4 vs g.1, q5 us g.2⟩
  · obtain ⟨T, y, z, rfl, q2, rfl, q4, q5⟩ := y
    obtain ⟨x, w, hx, hw, rfl⟩ := zipd_get hi
    obtain ⟨v, h1, h2⟩ := (r.ext M e).get hx
    rw [h1] at q4; cases q4
    obtain ⟨u, h3, h4⟩ := (r'.ext M e).get hw
    rw [h3] at q5; cases q5
    exact lay_pair M1 h2 h4 q2
theorem walkM_zipL {a b : Addr} {d d2 : MV} {l k : List MV} (M : RM K β H m) (rd : RV K β H d (.ref a)) (rd2 : RV K β H d2 (.ref b)) (h : lstOf m d = some l) (h' : lstOf m d2 = some k) : WalkM K β H ⟨zipd l k, fun m' => lstOf m' d = some l ∧ lstOf m' d2 = some k⟩ (Itz K a b) := by
  refine ⟨fun H1 => ∃ vs us, SqL K H1 a vs ∧ SqL K H1 b us ∧ vs.length = l.length ∧ us.length = k.length, fun i H1 x H2 => ∃ T y z, x = .ref T ∧ H1 T = none ∧ H2 = upd H1 T (.tup [y, z]) ∧ (∀ vs, SqL K H1 a vs → vs[i]? = some y) ∧ ∀ us, SqL K H1 b us → us[i]? = some z, ⟨fun i H1 hi g => ?_, fun H1 g => ?_, fun i H1 x H2 _ g y => y⟩, fun β1 H1 m1 e M1 hc => ?_, fun i H1 x H2 β1 m1 d' e M1 hc hi y => ?_⟩
  · obtain ⟨vs, us, g1, g2, g3, g4⟩ := g
    have hi : i < min l.length k.length := by simpa [zipd] using hi
    have i1 : i < vs.length := by omega
    have i2 : i < us.length := by omega
    exact ⟨vs, us, vs[i], us[i], g1, g2, by simp [i1], by simp [i2]⟩
  · obtain ⟨vs, us, g1, g2, g3, g4⟩ := g
    exact ⟨vs, us, g1, g2, by simp [zipd]; omega⟩
  · obtain ⟨a', vs, e1, h1, h2⟩ := M1.lst (rd.ext M e) hc.1
    obtain ⟨b', us, e2, h3, h4⟩ := M1.lst (rd2.ext M e) hc.2
    cases e1
    cases e2
    exact ⟨vs, us, h1, h3, h2.length.symm, h4.length.symm⟩
  · obtain ⟨T, y, z, rfl, q2, rfl, q4, q5⟩ := y
    obtain ⟨x, w, hx, hw, rfl⟩ := zipd_get hi
    obtain ⟨a', vs, e1, h1, h2⟩ := M1.lst (rd.ext M e) hc.1
    obtain ⟨b', us, e2, h3, h4⟩ := M1.lst (rd2.ext M e) hc.2
    cases e1
    cases e2
    obtain ⟨v, z1, z2⟩ := h2.get hx
    obtain ⟨u, z3, z4⟩ := h4.get hw
    have := q4 vs h1
    rw [z1] at this; cases this
    have := q5 us h3
    rw [z3] at this; cases this
    exact lay_pair M1 z2 z4 q2
theorem ji_zip {e e2 : Expr} {g : MA} {p tpos : Pos} {elts : List Expr} {kk : Nat} (hm : X.mg "zip" = none) (ha : JA X W [e, e2] g) (hg : Gl X "zip" := by with_unfolding_all rfl)
    (hs : starEach [e, e2] X.env = (false, eval e X.env) :: starEach [e2] X.env := by with_unfolding_all rfl) (hpl : (backTo pos (starEach [e2] X.env)).any (·.1) = false := by with_unfolding_all rfl) : JI X W (.Tuple elts kk tpos) (.Call (.Name "zip" p) [e, e2] [] pos) (mZip g) := by with_unfolding_all
  refine ⟨pi_imp (RZ.pi_zipA hg hm ha.run hs hpl) fun σ H R ⟨ρ, m, β, hE, hM, p⟩ => ⟨ρ, m, β, hE, hM, ?_⟩⟩
  have p : PostI X W ((g ρ m).bind zipOf) β H σ R := p
  cases hf : g ρ m with
  | stuck => rw [hf] at p; exact p.elim
  | ex x m1 => rw [hf] at p; exact p
  | ok ds m1 =>
    rw [hf] at p
    intro vs H1 β1 e1 M1 V1
    have p : PostI X W (zipOf ds m1) β H σ R := p
    unfold zipOf at p
    split at p
    · rename_i l k
      split at p
      · rename_i hl
        cases V1 with
        | cons V1 V2 =>
          cases V2 with
          | cons V2 V3 =>
            cases V3
            cases V1 with
            | tup h1 h2 =>
              cases V2 with
              | tup h3 h4 => exact ⟨_, _, _, _, rfl, .inr ⟨h1, h3, p _ _ _ e1 M1 (walkM_zipT M1 h1 h3 hl h2 h4)⟩⟩
      · exact p.elim
    · rename_i a b
      split at p
      · rename_i l k hl hk
        cases V1 with
        | cons V1 V2 =>
          cases V2 with
          | cons V2 V3 =>
            cases V3
            obtain ⟨a', vs, rfl, h1, h2⟩ := M1.lst V1 hl
            obtain ⟨b', us, rfl, h3, h4⟩ := M1.lst V2 hk
            exact ⟨a', b', vs, us, rfl, .inl ⟨h1, h3, p _ _ _ e1 M1 (walkM_zipL M1 V1 V2 hl hk)⟩⟩
      · exact p.elim
    · exact p.elim
end
end MI
namespace MI
open PySem L2
variable [Nms]
section
variable {X : Cx} {W : WX} {pos : Pos} {K : PySem.W.Frag} {β : List Addr} {H : Hp} {m : Mem}
def mIdxK (ss : List Str) (f : ME) : ME := fun ρ m => (f ρ m).bind fun d m1 => match d with
  | .str z => if z ∈ ss then .ok (.int (ss.idxOf z : Nat)) m1 else .stuck
  | _ => .stuck
end
section
variable {m : Mem} {ρ : Env} {E : Exn → Mem → Prop} {Q : MV → Mem → Prop}
@[simp] theorem W_idxK {ss : List Str} {f : ME} : W (mIdxK ss f ρ m) Q E = W (f ρ m) (fun d m1 => match d with | .str z => z ∈ ss ∧ Q (.int (ss.idxOf z : Nat)) m1 | _ => False) E := by with_unfolding_all
  unfold mIdxK
  rw [W_bind]
  congr 1
  funext d m1
  cases d with
  | str z =>
    dsimp only
    by_cases h : z ∈ ss
    · rw [if_pos h]; exact propext ⟨fun q => ⟨h, q⟩, fun q => q.2⟩
    · rw [if_neg h]; exact propext ⟨fun q => q.elim, fun q => h q.1⟩
  | _ => rfl
end
end MI
namespace K32
open MI
inductive Vl where
  | ans (a : Nat)
  | con (c : MV)
def Vl.an : Vl → Option Nat
  | .ans a => some a
  | .con _ => none
def us (l : List Vl) : List Nat := l.filterMap Vl.an
structure Evs where
  sg : Nat → Bool
  vs : Nat → List Vl
/-- what the law asks of operands that make the events from b up to e -/
def fits (can : Nat → Nat → Bool) : List Vl → Nat → Nat → Prop
  | [], b, e => b = e
  | .ans a :: r, b, e => b ≤ a ∧ a < e ∧ can b (a + 1) = true ∧ fits can r (a + 1) e
  | .con _ :: r, b, e => ∃ t, b ≤ t ∧ t ≤ e ∧ can b t = true ∧ fits can r t e
def second (l : List Vl) : List Vl := (l.drop 1).take 1
/-- the law's tables -/
structure LawT (V : Evs) (n : Nat) (can : Nat → Nat → Bool) (lk : Nat → Nat → Nat) : Prop where
  diag : ∀ b, can b b = true
  stepN : ∀ b l, b ≤ l → l < n → V.sg l = false → (can b (l + 1) = true ↔ fits can (V.vs l) b l ∨ ∃ t, b < t ∧ t ≤ l ∧ can b t = true ∧ can t (l + 1) = true)
  stepS : ∀ b l, b ≤ l → l < n → V.sg l = true → (can b (l + 1) = true ↔ lk b l < 5 ∨ ∃ t, b < t ∧ t ≤ l ∧ can b t = true ∧ can t (l + 1) = true)
  lk1 : ∀ b l, b ≤ l → l < n → V.sg l = true → fits can (V.vs l) b l → lk b l = 1
  lkle : ∀ b l, b ≤ l → l < n → V.sg l = true → lk b l ≤ 9
  lk2 : ∀ b l, b ≤ l → l < n → V.sg l = true → ∀ t, b ≤ t → t < l → V.sg t = true → (V.vs t)[1]? = (V.vs l)[0]? → fits can (second (V.vs l)) (t + 1) l → ¬ fits can (V.vs l) b l → lk b l ≤ 1 + lk b t
  lk3 : ∀ b l, b ≤ l → l < n → V.sg l = true → ¬ fits can (V.vs l) b l → lk b l = 9 ∨ ∃ t, b ≤ t ∧ t < l ∧ V.sg t = true ∧ (V.vs t)[1]? = (V.vs l)[0]? ∧ fits can (second (V.vs l)) (t + 1) l ∧ lk b l = 1 + lk b t
structure EvOk (V : Evs) (n : Nat) : Prop where
  two : ∀ l, l < n → V.sg l = true → (V.vs l).length = 2
  low : ∀ l, l < n → ∀ a ∈ us (V.vs l), a < l
/-- where a term may begin that ends ahead of e -/
inductive Bd (s : Nat → Nat) : Nat → Nat → Prop
  | refl (e : Nat) : Bd s e e
  | step {b i : Nat} : Bd s b (s i) → Bd s b (i + 1)
section
variable {s : Nat → Nat} {P : Nat}
theorem Bd.le (hs : ∀ i, i < P → s i ≤ i) {b : Nat} : ∀ {e : Nat}, e ≤ P → Bd s b e → b ≤ e := by
  intro e he h
  induction h with
  | refl => exact Nat.le_refl _
  | @step i h ih =>
    have := hs i (by omega)
    have := ih (by omega)
    omega
theorem Bd.trans {x y z : Nat} (h1 : Bd s x y) (h2 : Bd s y z) : Bd s x z := by
  induction h2 with
  | refl => exact h1
  | step h ih => exact .step (ih )
theorem Bd.lin (hs : ∀ i, i < P → s i ≤ i) {x y : Nat} : ∀ {e : Nat}, e ≤ P → Bd s x e → Bd s y e → x ≤ y → Bd s x y := by
  intro e he hx hy hxy
  induction hy with
  | refl => exact hx
  | @step i h ih =>
    have h1 := hs i (by omega)
    cases hx with
    | refl =>
      have := Bd.le hs (by omega) h
      omega
    | step hx => exact ih (by omega) hx
theorem Bd.inv (hs : ∀ i, i < P → s i ≤ i) {b i : Nat} (h : Bd s b (i + 1)) (hb : b ≤ i) : Bd s b (s i) := by
  cases h with
  | refl => omega
  | step h => exact h
end
/-- the operands, told by the stack -/
def FitB (s : Nat → Nat) : List Vl → Nat → Nat → Prop
  | [], b, e => b = e
  | .ans a :: r, b, e => b ≤ a ∧ a < e ∧ Bd s b (a + 1) ∧ FitB s r (a + 1) e
  | .con _ :: r, b, e => ∃ t, b ≤ t ∧ t ≤ e ∧ Bd s b t ∧ FitB s r t e
theorem fits_B {s : Nat → Nat} {can : Nat → Nat → Bool} {i : Nat} (ih : ∀ e, e ≤ i → ∀ b, b ≤ e → (can b e = true ↔ Bd s b e)) : ∀ (l : List Vl) (b e : Nat), b ≤ i → e ≤ i → (fits can l b e ↔ FitB s l b e)
  | [], b, e, _, _ => Iff.rfl
  | .ans a :: r, b, e, hb, he => by
    unfold fits FitB
    constructor
    · rintro ⟨h1, h2, h3, h4⟩
      exact ⟨h1, h2, (ih (a + 1) (by omega) b (by omega)).mp h3, (fits_B ih r (a + 1) e (by omega) he).mp h4⟩
    · rintro ⟨h1, h2, h3, h4⟩
      exact ⟨h1, h2, (ih (a + 1) (by omega) b (by omega)).mpr h3, (fits_B ih r (a + 1) e (by omega) he).mpr h4⟩
  | .con _ :: r, b, e, hb, he => by
    unfold fits FitB
    constructor
    · rintro ⟨t, h1, h2, h3, h4⟩
      exact ⟨t, h1, h2, (ih t (by omega) b h1).mp h3, (fits_B ih r t e (by omega) he).mp h4⟩
    · rintro ⟨t, h1, h2, h3, h4⟩
      exact ⟨t, h1, h2, (ih t (by omega) b h1).mpr h3, (fits_B ih r t e (by omega) he).mpr h4⟩
def lastOk (l : List Vl) (e : Nat) : Prop := ∀ a, l.getLast? = some (.ans a) → a + 1 = e
structure FitK (s : Nat → Nat) (l : List Vl) (b e : Nat) : Prop where
  mem : ∀ a ∈ us l, b ≤ a ∧ Bd s (a + 1) e
  inc : (us l).Pairwise (· < ·)
  last : lastOk l e
  bd : Bd s b e
  nil : l = [] → b = e
theorem us_ans {a : Nat} {r : List Vl} : us (.ans a :: r) = a :: us r := rfl
section
variable {s : Nat → Nat} {P : Nat}
theorem FitB.k (hs : ∀ i, i < P → s i ≤ i) : ∀ {l : List Vl} {b e : Nat}, e ≤ P → b ≤ e → FitB s l b e → FitK s l b e
  | [], b, e, _, _, h => by
    have h : b = e := h
    subst h
    exact ⟨fun a h => absurd h (by simp [us]), by simp [us], fun a h => by simp at h, .refl _, fun _ => rfl⟩
  | .ans a :: r, b, e, he, hb, h => by
    obtain ⟨h1, h2, h3, h4⟩ := h
    have k := FitB.k hs he (by omega) h4
    refine ⟨?_, ?_, ?_, h3.trans k.bd, fun h => by cases h⟩
    · intro x hx
      rw [us_ans] at hx
      rcases List.mem_cons.mp hx with rfl | hx
      · exact ⟨h1, k.bd⟩
      · have := k.mem x hx
        exact ⟨by omega, this.2⟩
    · rw [us_ans]
      refine List.pairwise_cons.mpr ⟨fun x hx => ?_, k.inc⟩
      have := (k.mem x hx).1
      omega
    · intro x hx
      cases r with
      | nil =>
        simp at hx
        subst hx
        exact k.nil rfl
      | cons y r =>
        rw [List.getLast?_cons_cons] at hx
        exact k.last x hx
  | .con c :: r, b, e, he, hb, h => by
    obtain ⟨t, h1, h2, h3, h4⟩ := h
    have k := FitB.k hs he h2 h4
    refine ⟨?_, k.inc, ?_, h3.trans k.bd, fun h => by cases h⟩
    · intro x hx
      have := k.mem x hx
      exact ⟨by omega, this.2⟩
    · intro x hx
      cases r with
      | nil => simp at hx
      | cons y r =>
        rw [List.getLast?_cons_cons] at hx
        exact k.last x hx
theorem FitK.b (hs : ∀ i, i < P → s i ≤ i) : ∀ {l : List Vl} {b e : Nat}, e ≤ P → b ≤ e → FitK s l b e → FitB s l b e
  | [], b, e, _, _, k => k.nil rfl
  | .ans a :: r, b, e, he, hb, k => by
    obtain ⟨m1, m2⟩ := k.mem a (by rw [us_ans]; exact List.mem_cons_self)
    have le := Bd.le hs he m2
    have inc := k.inc
    rw [us_ans] at inc
    obtain ⟨i1, i2⟩ := List.pairwise_cons.mp inc
    refine ⟨m1, by omega, Bd.lin hs he k.bd m2 (by omega), ?_⟩
    refine FitK.b hs he le ⟨fun x hx => ⟨i1 x hx, (k.mem x (by rw [us_ans]; exact List.mem_cons_of_mem _ hx)).2⟩, i2, ?_, m2, fun h => ?_⟩
    · intro x hx
      cases r with
      | nil => simp at hx
      | cons y r => exact k.last x (by rw [List.getLast?_cons_cons]; exact hx)
    · subst h
      exact k.last a (by simp)
  | .con c :: r, b, e, he, hb, k => by
    cases r with
    | nil => exact ⟨e, hb, Nat.le_refl _, k.bd, rfl⟩
    | cons y r =>
      refine ⟨b, Nat.le_refl _, hb, .refl _, FitK.b hs he hb ⟨k.mem, k.inc, fun x hx => k.last x (by rw [List.getLast?_cons_cons]; exact hx), k.bd, fun h => by cases h⟩⟩
end
end K32
namespace K32
open MI
open Classical in
noncomputable def linkA (V : Evs) (i : Nat) (w : List Nat) : Option Nat := match V.vs i with
  | .ans l :: _ => if V.sg i = true ∧ l + 1 ∈ w ∧ V.sg (l + 1) = true ∧ (V.vs (l + 1))[1]? = some (.ans l) then some (l + 1) else none
  | _ => none
noncomputable def used (V : Evs) (i : Nat) (w : List Nat) : List Nat := match linkA V i w with
  | some k => k :: (us (V.vs i)).tail
  | none => us (V.vs i)
structure OkI (V : Evs) (i : Nat) (w : List Nat) : Prop where
  mem : ∀ a ∈ used V i w, a ∈ w
  inc : (used V i w).Pairwise (· < ·)
  last : lastOk (V.vs i) i
noncomputable def st (V : Evs) (s : Nat → Nat) (i : Nat) (w : List Nat) : Nat := match used V i w with
  | u :: _ => s u
  | [] => i
structure Stk (V : Evs) (s : Nat → Nat) (W : Nat → List Nat) (P : Nat) : Prop where
  w0 : W 0 = []
  ok : ∀ i, i < P → OkI V i (W i)
  s_eq : ∀ i, i < P → s i = st V s i (W i)
  w_eq : ∀ i, i < P → W (i + 1) = (W i).filter (fun a => decide (a < s i)) ++ [i]
section
variable {V : Evs} {s : Nat → Nat} {W : Nat → List Nat} {P : Nat}
theorem st_cases (i : Nat) (w : List Nat) : (used V i w = [] ∧ st V s i w = i) ∨ ∃ u r, used V i w = u :: r ∧ st V s i w = s u := by
  unfold st
  cases h : used V i w with
  | nil => exact .inl ⟨rfl, rfl⟩
  | cons u r => exact .inr ⟨u, r, rfl, rfl⟩
theorem Stk.inv (S : Stk V s W P) : ∀ i, i ≤ P → (∀ j, j < i → s j ≤ j) ∧ ∀ a, a ∈ W i ↔ a < i ∧ Bd s (a + 1) i
  | 0, _ => ⟨fun j h => by omega, fun a => by rw [S.w0]; simp⟩
  | i + 1, hi => by
    obtain ⟨h1, h2⟩ := S.inv i (by omega)
    have ok := S.ok i (by omega)
    have se := S.s_eq i (by omega)
    -- where it begins
    have hb : s i ≤ i ∧ Bd s (s i) i := by
      rw [se]
      rcases st_cases (V := V) (s := s) i (W i) with ⟨_, e⟩ | ⟨u, r, e1, e2⟩
      · rw [e]; exact ⟨Nat.le_refl _, .refl _⟩
      · rw [e2]
        have hu := (h2 u).mp (ok.mem u (by rw [e1]; exact List.mem_cons_self))
        have := h1 u hu.1
        exact ⟨by omega, (Bd.step (.refl _)).trans hu.2⟩
    have hs : ∀ j, j < i + 1 → s j ≤ j := fun j hj => by
      by_cases e : j = i
      · subst e; exact hb.1
      · exact h1 j (by omega)
    refine ⟨hs, fun a => ?_⟩
    rw [S.w_eq i (by omega), List.mem_append, List.mem_filter, List.mem_singleton, decide_eq_true_eq, h2 a]
    constructor
    · rintro (⟨⟨a1, a2⟩, a3⟩ | rfl)
      · exact ⟨by omega, .step (Bd.lin h1 (Nat.le_refl _) a2 hb.2 (by omega))⟩
      · exact ⟨by omega, .refl _⟩
    · rintro ⟨a1, a2⟩
      by_cases e : a = i
      · exact .inr e
      · have := Bd.inv hs a2 (by omega)
        have l1 := Bd.le hs (by omega) this
        exact .inl ⟨⟨by omega, this.trans hb.2⟩, by omega⟩
theorem Stk.low (S : Stk V s W P) {i : Nat} (hi : i ≤ P) : ∀ j, j < i → s j ≤ j := (S.inv i hi).1
theorem Stk.mem (S : Stk V s W P) {i a : Nat} (hi : i ≤ P) : a ∈ W i ↔ a < i ∧ Bd s (a + 1) i := (S.inv i hi).2 a
theorem Stk.st_bd (S : Stk V s W P) {i : Nat} (hi : i ≤ P) (ok : ∀ a ∈ used V i (W i), a ∈ W i) : st V s i (W i) ≤ i ∧ Bd s (st V s i (W i)) i := by
  rcases st_cases (V := V) (s := s) i (W i) with ⟨_, e⟩ | ⟨u, r, e1, e2⟩
  · rw [e]; exact ⟨Nat.le_refl _, .refl _⟩
  · rw [e2]
    have hu := (S.mem hi).mp (ok u (by rw [e1]; exact List.mem_cons_self))
    have := S.low hi u hu.1
    exact ⟨by omega, (Bd.step (.refl _)).trans hu.2⟩
theorem linkA_some {i k : Nat} {w : List Nat} (h : linkA V i w = some k) : ∃ l r, V.vs i = .ans l :: r ∧ k = l + 1 ∧ V.sg i = true ∧ l + 1 ∈ w ∧ V.sg (l + 1) = true ∧ (V.vs (l + 1))[1]? = some (.ans l) := by
  unfold linkA at h
  split at h
  · rename_i l r e
    split at h
    · rename_i c
      cases h
      exact ⟨l, r, e, rfl, c.1, c.2.1, c.2.2.1, c.2.2.2⟩
    · cases h
  · cases h
theorem used_none {i : Nat} {w : List Nat} (h : linkA V i w = none) : used V i w = us (V.vs i) := by
  unfold used
  rw [h]
/-- the operands alone, where no link is ahead -/
theorem Stk.direct (S : Stk V s W P) {i b : Nat} (hi : i ≤ P) (hb : b ≤ i) (hl : linkA V i (W i) = none) : FitK s (V.vs i) b i ↔ OkI V i (W i) ∧ ((V.vs i = [] ∧ b = i) ∨ (V.vs i ≠ [] ∧ Bd s b (st V s i (W i)))) := by
  have hu := used_none hl
  have hs := S.low hi
  constructor
  · intro k
    have ok : OkI V i (W i) := ⟨fun a ha => (S.mem hi).mpr (by
      rw [hu] at ha
      have := (k.mem a ha).2
      have l := Bd.le hs (Nat.le_refl _) this
      exact ⟨by omega, this⟩), by rw [hu]; exact k.inc, k.last⟩
    refine ⟨ok, ?_⟩
    by_cases e : V.vs i = []
    · exact .inl ⟨e, k.nil e⟩
    · refine .inr ⟨e, ?_⟩
      rcases st_cases (V := V) (s := s) i (W i) with ⟨_, e⟩ | ⟨u, r, e1, e2⟩
      · rw [e]; exact k.bd
      · rw [e2]
        have hm := k.mem u (by rw [← hu, e1]; exact List.mem_cons_self)
        have hw := Bd.le hs (Nat.le_refl _) hm.2
        exact Bd.inv (P := i) hs (Bd.lin hs (Nat.le_refl _) k.bd hm.2 (by omega)) hm.1
  · rintro ⟨ok, h⟩
    have sb := S.st_bd hi ok.mem
    have bd : Bd s b i := by
      rcases h with ⟨_, h⟩ | ⟨_, h⟩
      · rw [h]; exact .refl _
      · exact h.trans sb.2
    refine ⟨fun a ha => ?_, by rw [← hu]; exact ok.inc, ok.last, bd, fun e => ?_⟩
    · have hw := (S.mem hi).mp (ok.mem a (by rw [hu]; exact ha))
      refine ⟨?_, hw.2⟩
      rcases h with ⟨e, _⟩ | ⟨_, h⟩
      · rw [e] at ha; simp [us] at ha
      · rcases st_cases (V := V) (s := s) i (W i) with ⟨e, _⟩ | ⟨u, r, e1, e2⟩
        · rw [← hu, e] at ha; cases ha
        · rw [e2] at h
          have u1 := (S.mem hi).mp (ok.mem u (by rw [e1]; exact List.mem_cons_self))
          have := S.low hi u u1.1
          have l1 := Bd.le hs (by omega) h
          have inc := ok.inc
          rw [e1] at inc
          rw [← hu, e1] at ha
          rcases List.mem_cons.mp ha with rfl | ha
          · omega
          · have := (List.pairwise_cons.mp inc).1 a ha
            omega
    · rcases h with ⟨_, h⟩ | ⟨h, _⟩
      · exact h
      · exact absurd e h
/-- an event whose right operand is an answer begins ahead of it -/
theorem Stk.right_low (S : Stk V s W P) {n k l : Nat} (E : EvOk V n) (hn : P ≤ n) (hk : k < P) (sg : V.sg k = true) (h : (V.vs k)[1]? = some (.ans l)) : s k ≤ l ∧ l + 1 = k := by
  have ok := S.ok k hk
  have two := E.two k (by omega) sg
  have hl : l + 1 = k := ok.last l (by
    match hv : V.vs k, two, h with
    | [a, b], _, h => simp at h ⊢; exact h)
  refine ⟨?_, hl⟩
  rw [S.s_eq k hk]
  rcases st_cases (V := V) (s := s) k (W k) with ⟨e, _⟩ | ⟨u, r, e1, e2⟩
  · exfalso
    unfold used at e
    split at e
    · cases e
    · match hv : V.vs k, two, h with
      | [a, b], _, h =>
        simp at h
        subst h
        rw [hv] at e
        cases a <;> simp [us, Vl.an] at e
  · rw [e2]
    have u1 := (S.mem (by omega)).mp (ok.mem u (by rw [e1]; exact List.mem_cons_self))
    have := S.low (by omega) u u1.1
    omega
end
end K32
namespace K32
open MI
section
variable {V : Evs} {s : Nat → Nat} {W : Nat → List Nat} {P n : Nat} {can : Nat → Nat → Bool} {lk : Nat → Nat → Nat}
structure LkOk (V : Evs) (s : Nat → Nat) (lk : Nat → Nat → Nat) (l b : Nat) : Prop where
  bd : lk b l < 9 ↔ Bd s b (s l)
  le : lk b l < 9 → 2 * lk b l ≤ l + 2
  le2 : lk b l < 9 → (∃ a, (V.vs l)[1]? = some (.ans a)) → 2 * lk b l ≤ l + 1
structure EvI (V : Evs) (s : Nat → Nat) (W : Nat → List Nat) (lk : Nat → Nat → Nat) (i b : Nat) : Prop where
  bd : lk b i < 9 ↔ OkI V i (W i) ∧ Bd s b (st V s i (W i))
  le : lk b i < 9 → 2 * lk b i ≤ i + 2
  le2 : lk b i < 9 → (∃ a, (V.vs i)[1]? = some (.ans a)) → 2 * lk b i ≤ i + 1
theorem fit_iff (S : Stk V s W P) {i b : Nat} (hi : i ≤ P) (ih : ∀ e, e ≤ i → ∀ b, b ≤ e → (can b e = true ↔ Bd s b e)) (hb : b ≤ i) (l : List Vl) : fits can l b i ↔ FitK s l b i := by
  rw [fits_B ih l b i hb (Nat.le_refl _)]
  exact ⟨fun h => FitB.k (P := i) (S.low hi) (Nat.le_refl _) hb h, fun h => FitK.b (P := i) (S.low hi) (Nat.le_refl _) hb h⟩
theorem no_link (S : Stk V s W P) (E : EvOk V n) (hn : P ≤ n) {i b : Nat} (hi : i ≤ P) (k : FitK s (V.vs i) b i) : linkA V i (W i) = none := by
  cases h : linkA V i (W i) with
  | none => rfl
  | some kk =>
    exfalso
    obtain ⟨l, r, e, rfl, h1, h2, h3, h4⟩ := linkA_some h
    have m1 := (k.mem l (by rw [e, us_ans]; exact List.mem_cons_self)).2
    obtain ⟨w1, w2⟩ := (S.mem hi).mp h2
    have hs := S.low hi
    have rl := S.right_low E hn (k := l + 1) (by omega) h3 h4
    have b1 := Bd.lin hs (Nat.le_refl _) m1 w2 (by omega)
    have b2 := Bd.inv (P := i) hs b1 (Nat.le_refl _)
    have := Bd.le (P := i) hs (by omega) b2
    omega
theorem ev_sg (T : LawT V n can lk) (E : EvOk V n) (S : Stk V s W P) (hn : P ≤ n) (n7 : n ≤ 7) {i : Nat} (hi : i ≤ P) (hin : i < n) (sg : V.sg i = true)
    (ih : ∀ e, e ≤ i → ∀ b, b ≤ e → (can b e = true ↔ Bd s b e)) (il : ∀ l, l < i → V.sg l = true → ∀ b, b ≤ l → LkOk V s lk l b) {b : Nat} (hb : b ≤ i) : EvI V s W lk i b := by
  have two := E.two i hin sg
  have hs := S.low hi
  have low := E.low i hin
  obtain ⟨v0, v1, hv⟩ : ∃ v0 v1, V.vs i = [v0, v1] := by
    match h : V.vs i, two with
    | [a, b], _ => exact ⟨a, b, rfl⟩
  have ne : V.vs i ≠ [] := by rw [hv]; simp
  have D := fit_iff S hi ih hb (V.vs i)
  have v1e : (V.vs i)[1]? = some v1 := by rw [hv]; rfl
  have v0e : (V.vs i)[0]? = some v0 := by rw [hv]; rfl
  have sec : second (V.vs i) = [v1] := by rw [hv]; rfl
  by_cases d : fits can (V.vs i) b i
  · have k := D.mp d
    have hl := no_link S E hn hi k
    have l1 := T.lk1 b i hb hin sg d
    obtain ⟨ok, h⟩ := (S.direct hi hb hl).mp k
    have bd : Bd s b (st V s i (W i)) := by
      rcases h with ⟨h, _⟩ | ⟨_, h⟩
      · exact absurd h ne
      · exact h
    refine ⟨⟨fun _ => ⟨ok, bd⟩, fun _ => by omega⟩, fun _ => by omega, fun _ ⟨a, ha⟩ => ?_⟩
    have : a < i := low a (by
      rw [v1e] at ha
      cases ha
      rw [hv]
      cases v0 <;> simp [us, Vl.an])
    omega
  · -- a link ahead
    have dir : lk b i < 9 → ∃ t l, v0 = .ans l ∧ t = l + 1 ∧ b ≤ t ∧ t < i ∧ V.sg t = true ∧ (V.vs t)[1]? = some (.ans l) ∧ FitK s [v1] (t + 1) i ∧ lk b i = 1 + lk b t ∧ lk b t < 9 ∧ LkOk V s lk t b := by
      intro h
      rcases T.lk3 b i hb hin sg d with h9 | ⟨t, t1, t2, t3, t4, t5, t6⟩
      · omega
      · have L := il t t2 t3 b t1
        have lt : lk b t < 9 := by omega
        have bt := L.bd.mp lt
        rw [sec] at t5
        have k1 := (fit_iff S hi ih (b := t + 1) (by omega) [v1]).mp t5
        cases v0 with
        | con c =>
          exfalso
          apply d
          rw [hv]
          exact ⟨t + 1, by omega, by omega, (ih (t + 1) (by omega) b (by omega)).mpr (.step bt), t5⟩
        | ans l =>
          have t4' : (V.vs t)[1]? = some (.ans l) := by rw [t4, v0e]
          have rl := S.right_low E hn (by omega) t3 t4'
          exact ⟨t, l, rfl, rl.2.symm, t1, t2, t3, t4', k1, t6, lt, L⟩
    refine ⟨⟨fun h => ?_, fun ⟨ok, bd⟩ => ?_⟩, fun h => ?_, fun h ⟨a, ha⟩ => ?_⟩
    · obtain ⟨t, l, rfl, rfl, t1, t2, t3, t4, k1, t6, lt, L⟩ := dir h
      have bt := L.bd.mp lt
      have wt : l + 1 ∈ W i := (S.mem hi).mpr ⟨t2, k1.bd⟩
      have hl : linkA V i (W i) = some (l + 1) := by
        unfold linkA
        rw [hv]
        dsimp only
        rw [if_pos ⟨sg, wt, t3, t4⟩]
      have hu : used V i (W i) = (l + 1) :: us [v1] := by
        unfold used
        rw [hl, hv]
        rfl
      refine ⟨⟨?_, ?_, ?_⟩, ?_⟩
      · intro a ha
        rw [hu] at ha
        rcases List.mem_cons.mp ha with rfl | ha
        · exact wt
        · obtain ⟨m1, m2⟩ := k1.mem a ha
          have := Bd.le (P := i) hs (Nat.le_refl _) m2
          exact (S.mem hi).mpr ⟨by omega, m2⟩
      · rw [hu]
        refine List.pairwise_cons.mpr ⟨fun a ha => ?_, k1.inc⟩
        have := (k1.mem a ha).1
        omega
      · rw [hv]
        intro a ha
        exact k1.last a (by simpa using ha)
      · unfold st
        rw [hu]
        exact bt
    · cases hl : linkA V i (W i) with
      | none => exact absurd (D.mpr ((S.direct hi hb hl).mpr ⟨ok, .inr ⟨ne, bd⟩⟩)) d
      | some k =>
        obtain ⟨l, r, e, rfl, h1, h2, h3, h4⟩ := linkA_some hl
        have hu : used V i (W i) = (l + 1) :: us r := by
          unfold used
          rw [hl, e]
          rfl
        have es : st V s i (W i) = s (l + 1) := by unfold st; rw [hu]
        rw [es] at bd
        obtain ⟨w1, w2⟩ := (S.mem hi).mp h2
        have sl := hs (l + 1) w1
        have lb := Bd.le (P := i) hs (by omega) bd
        have L := il (l + 1) w1 h3 b (by omega)
        have lt := L.bd.mpr bd
        have hr : r = [v1] := by
          rw [hv] at e
          cases e
          rfl
        have inc := ok.inc
        rw [hu] at inc
        obtain ⟨i1, i2⟩ := List.pairwise_cons.mp inc
        have k1 : FitK s [v1] (l + 1 + 1) i := by
          rw [← hr]
          refine ⟨fun a ha => ⟨i1 a ha, ((S.mem hi).mp (ok.mem a (by rw [hu]; exact List.mem_cons_of_mem _ ha))).2⟩, i2, fun a ha => ok.last a ?_, w2, fun h => by rw [hr] at h; cases h⟩
          rw [e, hr]
          rw [hr] at ha
          simpa using ha
        have f1 := (fit_iff S hi ih (b := l + 1 + 1) (by omega) [v1]).mpr k1
        have l2 := T.lk2 b i hb hin sg (l + 1) (by omega) w1 h3 (by rw [h4, e]; rfl) (by rw [sec]; exact f1) d
        have := L.le lt
        omega
    · obtain ⟨t, l, rfl, rfl, t1, t2, t3, t4, k1, t6, lt, L⟩ := dir h
      have := L.le2 lt ⟨_, t4⟩
      omega
    · obtain ⟨t, l, rfl, rfl, t1, t2, t3, t4, k1, t6, lt, L⟩ := dir h
      have := L.le2 lt ⟨_, t4⟩
      rw [v1e] at ha
      cases ha
      obtain ⟨m1, m2⟩ := k1.mem a (by simp [us, Vl.an])
      have := Bd.le (P := i) hs (Nat.le_refl _) m2
      omega
theorem ev_no (T : LawT V n can lk) (E : EvOk V n) (S : Stk V s W P) (hn : P ≤ n) {i : Nat} (hi : i ≤ P) (sg : V.sg i = false) (ih : ∀ e, e ≤ i → ∀ b, b ≤ e → (can b e = true ↔ Bd s b e)) {b : Nat} (hb : b ≤ i) :
    fits can (V.vs i) b i ↔ OkI V i (W i) ∧ ((V.vs i = [] ∧ b = i) ∨ (V.vs i ≠ [] ∧ Bd s b (st V s i (W i)))) := by
  have hl : linkA V i (W i) = none := by
    cases h : linkA V i (W i) with
    | none => rfl
    | some k =>
      obtain ⟨l, r, e, _, h1, _⟩ := linkA_some h
      rw [sg] at h1
      cases h1
  rw [fit_iff S hi ih hb, S.direct hi hb hl]
theorem st_nil {i : Nat} {w : List Nat} (h : V.vs i = []) : st V s i w = i := by
  unfold st used linkA
  rw [h]
  rfl
/-- the law's table, told by the program's stack -/
theorem tables (T : LawT V n can lk) (E : EvOk V n) (S : Stk V s W P) (hn : P ≤ n) (n7 : n ≤ 7) : ∀ i, i ≤ P → (∀ e, e ≤ i → ∀ b, b ≤ e → (can b e = true ↔ Bd s b e)) ∧ (∀ l, l < i → V.sg l = true → ∀ b, b ≤ l → LkOk V s lk l b)
  | 0, _ => ⟨fun e he b hb => by
    obtain rfl : e = 0 := by omega
    obtain rfl : b = 0 := by omega
    exact ⟨fun _ => .refl _, fun _ => T.diag 0⟩, fun l h => by omega⟩
  | i + 1, hi => by
    obtain ⟨ih, il⟩ := tables T E S hn n7 i (by omega)
    have hin : i < n := by omega
    have ok := S.ok i (by omega)
    have se := S.s_eq i (by omega)
    have hsl := S.low (i := i + 1) (by omega)
    have lkN : V.sg i = true → ∀ b, b ≤ i → LkOk V s lk i b := fun sg b hb => by
      have e := ev_sg T E S hn n7 (by omega) hin sg ih il hb
      refine ⟨?_, e.le, e.le2⟩
      rw [e.bd, se]
      exact ⟨fun h => h.2, fun h => ⟨ok, h⟩⟩
    refine ⟨fun e he b hb => ?_, fun l hl sg b hb => ?_⟩
    · by_cases hei : e = i + 1
      · subst hei
        by_cases hbi : b = i + 1
        · subst hbi
          exact ⟨fun _ => .refl _, fun _ => T.diag _⟩
        · -- downwards
          have key : ∀ d b, b ≤ i → i - b = d → (can b (i + 1) = true ↔ Bd s b (s i)) := by
            intro d
            induction d using Nat.strongRecOn with
            | ind d ihd =>
              intro b hb hd
              have cut : (∃ t, b < t ∧ t ≤ i ∧ can b t = true ∧ can t (i + 1) = true) → Bd s b (s i) := by
                rintro ⟨t, t1, t2, t3, t4⟩
                exact ((ih t t2 b (by omega)).mp t3).trans ((ihd (i - t) (by omega) t t2 rfl).mp t4)
              cases sg : V.sg i with
              | true =>
                have L := lkN sg b hb
                rw [T.stepS b i hb hin sg]
                constructor
                · rintro (h | h)
                  · exact L.bd.mp (by omega)
                  · exact cut h
                · intro h
                  have l9 := L.bd.mpr h
                  have := L.le l9
                  exact .inl (by omega)
              | false =>
                rw [T.stepN b i hb hin sg, ev_no T E S hn (by omega) sg ih hb, ← se]
                constructor
                · rintro (⟨_, ⟨h1, rfl⟩ | ⟨_, h⟩⟩ | h)
                  · rw [se, st_nil h1]; exact .refl _
                  · exact h
                  · exact cut h
                · intro h
                  by_cases e : V.vs i = []
                  · by_cases e2 : b = i
                    · exact .inl ⟨ok, .inl ⟨e, e2⟩⟩
                    · have si : s i = i := by rw [se, st_nil e]
                      rw [si] at h
                      refine .inr ⟨i, by omega, Nat.le_refl _, (ih i (Nat.le_refl _) b hb).mpr h, ?_⟩
                      rw [T.stepN i i (Nat.le_refl _) hin sg, ev_no T E S hn (by omega) sg ih (Nat.le_refl _)]
                      exact .inl ⟨ok, .inl ⟨e, rfl⟩⟩
                  · exact .inl ⟨ok, .inr ⟨e, h⟩⟩
          rw [key (i - b) b (by omega) rfl]
          exact ⟨fun h => .step h, fun h => Bd.inv (P := i + 1) hsl h (by omega)⟩
      · exact ih e (by omega) b hb
    · by_cases hl2 : l = i
      · subst hl2
        exact lkN sg b hb
      · exact il l (by omega) sg b hb
theorem Stk.zero (S : Stk V s W P) : ∀ e, e ≤ P → Bd s 0 e := by
  intro e
  induction e using Nat.strongRecOn with
  | ind e ih =>
    intro he
    cases e with
    | zero => exact .refl _
    | succ i =>
      have := S.low (i := i + 1) he i (by omega)
      exact .step (ih (s i) (by omega) (by omega))
/-- what goes on: each prefix can be made -/
theorem can_ok (T : LawT V n can lk) (E : EvOk V n) (S : Stk V s W P) (hn : P ≤ n) (n7 : n ≤ 7) {e : Nat} (he : e ≤ P) : can 0 e = true :=
  ((tables T E S hn n7 P (Nat.le_refl _)).1 e he 0 (by omega)).mpr (S.zero e he)
/-- what stops -/
theorem can_no (T : LawT V n can lk) (E : EvOk V n) (S : Stk V s W P) (hn : P < n) (n7 : n ≤ 7) (no : ¬ OkI V P (W P)) : can 0 (P + 1) = false := by
  obtain ⟨ih, il⟩ := tables T E S (by omega) n7 P (Nat.le_refl _)
  have key : ∀ d b, b ≤ P → P - b = d → ¬ can b (P + 1) = true := by
    intro d
    induction d using Nat.strongRecOn with
    | ind d ihd =>
      intro b hb hd
      have cut : ¬ ∃ t, b < t ∧ t ≤ P ∧ can b t = true ∧ can t (P + 1) = true := by
        rintro ⟨t, t1, t2, t3, t4⟩
        exact ihd (P - t) (by omega) t t2 rfl t4
      cases sg : V.sg P with
      | true =>
        have e := ev_sg T E S (by omega) n7 (Nat.le_refl _) hn sg ih il hb
        rw [T.stepS b P hb hn sg]
        rintro (h | h)
        · exact no (e.bd.mp (by omega)).1
        · exact cut h
      | false =>
        rw [T.stepN b P hb hn sg, ev_no T E S (by omega) (Nat.le_refl _) sg ih hb]
        rintro (⟨h, _⟩ | h)
        · exact no h
        · exact cut h
  cases h : can 0 (P + 1) with
  | false => rfl
  | true => exact absurd h (key P 0 (by omega) (by omega))
end
end K32
namespace MI
open PySem PySem.Spec PyProof.Rows L2
variable [Nms]
section
variable {X : Cx} {e : Expr} {es : List Expr} {ta : TA} {apos np pos : Pos}
/-- B.__init__ of an own class B, which has it from ValueError -/
theorem pe_oini {pl : Sem Bool} {c : Str} {B : Addr} {mc : Value} (h2 : X.mg c = some (.ref B)) (r : ClX.CRead X.K B mc) (hv : PySem.W.findCls X.K (.ref B) mc "__init__" = some (.val (.builtin "ValueError.__init__"))) (ha : PA X (e :: es) ta)
    (hg : Gl X c := by rfl) (hdb : (c == ("__debug__" : Str)) = false := by decide)
    (hc : eval (.Call (.Attribute (.Name c np) "__init__" apos) (e :: es) [] pos) X.env = (do
      let ov ← eval (.Name c np) X.env
      standAt apos.atName
      let (fn, more) ← holding [ov] (getMethod ov "__init__" pl)
      callWith pos fn more (backTo pos (starEach (e :: es) X.env)) (backToKw pos (keywordEach [] X.env))) := by rfl)
    (hst : starEach (e :: es) X.env = (false, eval e X.env) :: starEach es X.env := by rfl) (hpl : (backTo pos (starEach es X.env)).any (·.1) = false := by rfl) :
    PE X (.Call (.Attribute (.Name c np) "__init__" apos) (e :: es) [] pos) (tVeI X.K ta) := by
  constructor
  intro pins s σ H Q I q
  refine PySem.W.methodCall_KW (pl := pl) (ld_glob I hg h2 ?_ hdb) hc
  refine PySem.W.method_cls I.kIn r.ga (PySem.W.cls_value I.kIn r.rd hv (by decide +kernel) ?_)
  have I2 := I.tok (s.toks + 1)
  apply callWith_method1 (e := e) (rest := es) (thn (ha.run pos pins _ σ H _ I2 q) ?_) hst hpl
  rintro us s1 ⟨vs, H1, I1, r1, a, C, ws, rfl, hl, T, ea, q1⟩
  cases r1 with
  | @cons _ u0 _ ur ra rr =>
    obtain rfl : u0 = Value.ref a := ra
    have hz : ur.length ≤ sizeLine := by
      rw [← Paired.length rr, sizeLine_eq]
      omega
    exact oinit_ok T I1 ea hz fun s' J => ⟨.non, H1, J, rfl, q1⟩
end
/-- what such an __init__ does: it keeps the number -/
def spIni (C : Addr) (fl : Str) : Sp := fun vs H Q _ => ∃ (a : Addr) (i : Int), vs = [.ref a, .int i] ∧ i.natAbs.log2 < 1920 ∧ H a = some (exo a C none) ∧ ∀ dx, H dx = none → dx ≠ a → Q .non (upd (upd H dx (exd dx [(fl, .int i)])) a (exo a C (some dx)))
theorem exi_ok {P : Program} {w : World} {K : PySem.W.Frag} {mg : Str → Option Value} {base : Heap} {qual x fl : Str} {st : Stmt} {f C : Addr} {fd : FuncData} {k : Nat} {tm : TE} (Fu : L2.Fun K "__init__" qual st f fd) (S : FnScope ["self", x] ["self", x] (defScope st)) (T : OexC K C) (hno : PySem.W.findIn K (.ref C) fl = some none)
    (hm : ∀ (a : Addr) (i : Int) (H : Hp) (Q : VK), i.natAbs.log2 < 1920 → (∀ y : Str, Q (.str y) H) → tm [some (.ref a), some (.int i)] H Q)
    (hb : ∀ (cdv : Value) (A : Around) (outer : List PySem.Env) (s : Shared) (H : Hp) (E : XK), PSs (cxOf (L2.CX P w) P w K mg base ["self", x] qual (defScope st) f cdv A outer s H E) (defBody st) (tSeq (tDrop (tVeI K (tCons (tVar 0) (tCons tm tNil)))) (tOst K fl (tVar 0) (tVar 1)))) :
    FnOk P w K mg base (L2.CX P w) (k + 1) f fd ["self", x] (spIni C fl) := by
  refine L2.Fun.okX Fu S (fun vs H Q E ⟨a, i, e, _⟩ => by rw [e]; rfl) fun cdv A outer s H vs Q E hr ⟨a, i, e, hi, ha, q⟩ => ⟨_, hb cdv A outer s H E, ?_⟩
  subst e
  show tDrop _ _ [some (.ref a), some (.int i)] H
  refine ⟨.ref a, rfl, ?_⟩
  refine hm a i H _ hi fun y => ?_
  refine ⟨a, C, [.str y], rfl, by simp, T, ha, ?_⟩
  refine ⟨.int i, rfl, .ref a, rfl, a, C, rfl, T, hno, .inl ⟨ha, fun dx h1 h2 => ?_⟩⟩
  exact q dx h1 h2
/-- texts of written parts and the number -/
inductive MsgP : List TE → Nat → Prop
  | nil : MsgP [] 0
  | txt {t : Str} {ts : List TE} {n : Nat} : t.length ≤ 1000 → MsgP ts n → MsgP (tC (.str t) :: ts) (n + 1)
  | fmt {ts : List TE} {n : Nat} : MsgP ts n → MsgP (tFmt (tVar 1) :: ts) (n + 1)
theorem MsgP.run {ts : List TE} {n : Nat} (h : MsgP ts n) {a : Addr} {i : Int} {H : Hp} {Q : VK} (hi : i.natAbs.log2 < 1920) (q : ∀ y : Str, Q (.str y) H) : ∀ acc : Str, acc.length + 2000 * n ≤ 1000000 → tJs ts acc [some (.ref a), some (.int i)] H (fun out H1 => Q (.str out) H1) := by
  have la : ∀ x y : Str, (x ++ y).length = x.length + y.length := fun x y => Array.size_append
  induction h with
  | nil => exact fun acc _ => q acc
  | @txt t ts n ht _ ih =>
    intro acc hl
    exact ⟨t, rfl, by rw [la, sizeLine_eq]; omega, ih _ (by rw [la]; omega)⟩
  | @fmt ts n _ ih =>
    intro acc hl
    have e := int_text_length_le (k := 1920) (by decide) hi
    have e2 : (Str.ofString (toString i)).length ≤ 1921 := by rw [PySem.ofString_length]; exact e
    exact ⟨.int i, rfl, .inr ⟨i, rfl, hi, Str.ofString (toString i), rfl, by rw [la, sizeLine_eq]; omega, ih _ (by rw [la]; omega)⟩⟩
abbrev tMsg (ts : List TE) : TE := fun σ H Q => tJs ts Str.empty σ H fun out H1 => Q (.str out) H1
theorem msg_ok {ts : List TE} {n : Nat} (h : MsgP ts n) (hn : n ≤ 10) : ∀ (a : Addr) (i : Int) (H : Hp) (Q : VK), i.natAbs.log2 < 1920 → (∀ y : Str, Q (.str y) H) → tMsg ts [some (.ref a), some (.int i)] H Q :=
  fun a i H Q hi q => h.run hi q Str.empty (by show 0 + 2000 * n ≤ 1000000; omega)
/-- a class whose instances are made so -/
structure ExI (P : Program) (w : World) (K : PySem.W.Frag) (mg : Str → Option Value) (base : Heap) (k : Nat) (x fl : Str) : Prop where
  ex : ∃ (C fI : Addr) (fd : FuncData) (ps : List Str), ClsN K x C ∧ mg x = some (.ref C) ∧ OexC K C ∧ PySem.W.findIn K (.ref C) "__init__" = some (some (.ref fI)) ∧ PySem.W.typeIn K (.ref fI) = some (.type "function") ∧ FnOk P w K mg base (L2.CX P w) k fI fd ps (spIni C fl) ∧ Binds K fd ps []
section
variable {X : Cx} {W : WX} {pos pos' : Pos}
def mRaiseI (x fl : Str) (f : ME) : MS := fun ρ m => onE ρ (f ρ m) fun d m1 => match d with
  | .int i => if i.natAbs.log2 < 1920 then .ok (.ex ⟨x, [(fl, .int i)]⟩ ρ) m1 else .stuck
  | _ => .stuck
theorem upd_del {H : Hp} {a dx : Addr} {o1 o2 o3 o4 : HO} (ha : H a = none) (hd : dx ≠ a) : upd (del (upd (upd (upd H a o1) dx o2) a o3) a) dx o4 = upd H dx o4 := by
  funext b
  by_cases e : b = dx
  · subst e
    rw [upd_same, upd_same]
  · rw [upd_ne e, upd_ne e]
    by_cases e2 : b = a
    · subst e2
      rw [del_same, ha]
    · rw [del_ne e2, upd_ne e2, upd_ne e, upd_ne e2]
theorem jx_raiseI {k j : Nat} {x fl : Str} {e : Expr} {f : ME} {p : Pos} (T : ExI X.prog X.w X.K X.mg X.base k x fl) (hr : Room j X.A) (hk : k + 1 ≤ j) (hc : X.calm = true) (tk : L2.Takes X W) (he : JE X W e f) (hg : Gl X x := by rfl) (hdb : (x == ("__debug__" : Str)) = false := by decide)
    (hst : starEach (e :: []) X.env = (false, eval e X.env) :: starEach [] X.env := by rfl) : JS X W (.Raise (some (.Call (.Name x p) [e] [] pos)) none pos') (mRaiseI x fl f) := by
  obtain ⟨C, fI, fd, ps, h1, h2, h3, h4, h5, h6, h7⟩ := T.ex
  refine ⟨ps_imp (ps_raise hc tk (pmk_oex h3 h4 h5 h6 (hr.mono hk) h7 .nil (fun _ _ _ _ _ _ _ c => (M2.no c).elim) hg h2 (pa_cons he.run pa_nil hst) hdb hst)) fun D σ H ⟨ρ, m, β, hE, hM, q⟩ => ?_⟩
  refine ⟨ρ, m, β, hE, hM, ?_⟩
  have q : PostS X W (mRaiseI x fl f ρ m) β H D := q
  unfold mRaiseI at q
  refine PostS.on (D := D) (R := fun β' H' d v => RV X.K β' H' d v) hE hM q fun d m1 v H1 β1 _ e1 M1 V1 q1 => ?_
  cases d with
  | int i =>
    cases V1
    dsimp only at q1
    by_cases hi : i.natAbs.log2 < 1920
    · rw [if_pos hi] at q1
      refine ⟨by simp, fun a ha => ?_⟩
      refine ⟨a, i, rfl, hi, upd_same, fun dx g1 g2 => ?_⟩
      have hd : H1 dx = none := by rw [← g1, upd_ne g2]
      refine ⟨rfl, dx, [(fl, .int i)], upd_same, by rw [upd_ne g2, upd_same], hd, ?_⟩
      rw [upd_del ha g2]
      have M2 := M1.tup (o := .xd [(fl, .int i)]) hd
      refine q1 _ (some dx) σ _ β1 (Ext.tup hd) M2 ((hE.ext hM e1).ext M1 (Ext.tup hd)) ⟨C, rfl, h1, .inr ⟨dx, [(fl, .int i)], rfl, upd_same, M1.fresh hd, .cons (.int i) .nil⟩⟩
    · rw [if_neg hi] at q1
      exact q1.elim
  | _ => exact q1.elim
structure XflN (K : PySem.W.Frag) (fl : Str) (P : Str → Bool) : Prop where
  one : ∀ (y : Str) (D : Addr), ClsN K y D → P y = true → XfC K D ∧ PySem.W.findIn K (.ref D) fl = some none
def mXfl (P : Str → Bool) (fl : Str) (f : ME) : ME := fun ρ m => (f ρ m).bind fun d m1 => match exnOf m1 d with
  | some x => if P x.cls = true then (match x.fs.lookup fl with
    | some v => .ok v m1
    | none => .stuck) else .stuck
  | none => .stuck
theorem RFs.at {K : PySem.W.Frag} {β : List Addr} {H : Hp} {fs : List (Str × MV)} {vs : List (Str × V)} (r : RFs K β H fs vs) {fl : Str} {d : MV} (h : fs.lookup fl = some d) : ∃ v, vs.lookup fl = some v ∧ RV K β H d v := by
  induction r with
  | nil => cases h
  | @cons k d' v' ds vs' hd hr ih =>
    rw [List.lookup_cons] at h ⊢
    cases e : fl == k with
    | true => rw [e] at h; cases h; exact ⟨_, rfl, hd⟩
    | false => rw [e] at h; exact ih h
theorem je_xfl {e : Expr} {fl : Str} {f : ME} {P : Str → Bool} (T : XflN X.K fl P) (h : JE X W e f) (hb : attributeBase e fl X.env (eval e X.env) = eval e X.env := by rfl) : JE X W (.Attribute e fl pos) (mXfl P fl f) := by
  refine ⟨⟨fun pins s σ H Q I ⟨ρ, m, β, hE, hM, p⟩ => ?_⟩⟩
  refine attr_of hb (thn (h.run.run pins s σ H (fun v H1 => ∃ (a D dd : Addr) (vs : List (Str × V)) (u : V), v = .ref a ∧ H1 a = some (ExH (.ref D) a (some dd)) ∧ H1 dd = some (.xd vs) ∧ XfC X.K D ∧ PySem.W.findIn X.K (.ref D) fl = some none ∧ vs.lookup fl = some u ∧ Q u H1) I ⟨ρ, m, β, hE, hM, p.bind fun d m1 v H1 β1 _ e1 M1 V1 p1 => ?_⟩) fun u s1 hh => ?_)
  · split at p1
    · rename_i x hx
      split at p1
      · rename_i hP
        split at p1
        · rename_i d2 hl
          unfold exnOf at hx
          split at hx
          · split at hx
            · rename_i hm1
              cases hx
              cases V1 with
              | ref hbn =>
                obtain ⟨C, dd, hC, hH, hF⟩ := M1.ob _ _ _ hm1 hbn
                obtain ⟨t1, t2⟩ := T.one _ C hC hP
                rcases hF with ⟨z, _⟩ | ⟨dx, vs, rfl, g1, _, g2⟩
                · rw [z] at hl; cases hl
                · obtain ⟨u, u1, u2⟩ := g2.at hl
                  exact ⟨_, C, dx, vs, u, rfl, hH, g1, t1, t2, u1, p1.ok M1 u2⟩
            · cases hx
          · cases hx
        · exact p1.not_stuck
      · exact p1.not_stuck
    · exact p1.not_stuck
  · obtain ⟨v, H1, I1, rx, a, D, dd, vs, y, rfl, hH, hd, t1, t2, hl, q⟩ := hh
    obtain rfl : u = Value.ref a := rx
    obtain ⟨oe, od, J, _, z⟩ := inst_of I1 hH (fun x e => by cases e; exact ⟨vs, hd⟩)
    obtain ⟨o, rfl, ho⟩ := z dd rfl
    have ok : ObjOk X.prog X.w H1 s1.heap dd (.xd vs) := I1.hok dd _ hd
    obtain ⟨mA, hns, hr⟩ := ok
    obtain ⟨o2, ho2, hlk⟩ := lookIn_ns hns
    rw [ho] at ho2
    cases ho2
    obtain ⟨uv, hu, ru⟩ := RelO.some_of (v := y) (o := mA fl) (by rw [← hl]; exact hr fl)
    exact HandSPX.exc_get I1.kIn J t1.ga t1.gg t1.exC (PySem.W.findObj_own t1.hdC t2 rfl (by rw [hlk, hu])) (handed_of ru) ⟨y, H1, I1.tok _, ru, q⟩
end
/-- the class b has its __init__ from ValueError -/
structure InhI (K : PySem.W.Frag) (mg : Str → Option Value) (b : Str) : Prop where
  ex : ∃ (B : Addr) (mc : Value), mg b = some (.ref B) ∧ ClX.CRead K B mc ∧ PySem.W.findCls K (.ref B) mc "__init__" = some (.val (.builtin "ValueError.__init__"))
structure ExIAt (K : PySem.W.Frag) (mg : Str → Option Value) (x fl prm qual : Str) (st : Stmt) : Prop where
  ex : ∃ (C fI : Addr) (fd : FuncData), L2.Fun K "__init__" qual st fI fd ∧ ClsN K x C ∧ mg x = some (.ref C) ∧ OexC K C ∧ PySem.W.findIn K (.ref C) "__init__" = some (some (.ref fI)) ∧ PySem.W.typeIn K (.ref fI) = some (.type "function") ∧ PySem.W.findIn K (.ref C) fl = some none ∧ Binds K fd ["self", prm] []
section
variable {K : PySem.W.Frag} {h : Heap} {mg : Str → Option Value} {w : World}
theorem inhI_mk {b : Str} {B : Addr} {mc : Value} (X : K.In h) (G : h.Ns mainGlobals mg) (a : PySem.W.nsIn K mainGlobals b = some (some (.ref B))) (rd : PySem.W.readsIn K B mc = true) (ga : PySem.W.specialIn K (.ref B) "__getattribute__" = some (some (.builtin "type.__getattribute__")))
    (i : PySem.W.findCls K (.ref B) mc "__init__" = some (.val (.builtin "ValueError.__init__"))) : InhI K mg b := ⟨B, mc, PySem.W.mg_of X G a, ⟨rd, ga⟩, i⟩
theorem exiAt_mk {x fl prm qual nm q : Str} {st : Stmt} {C f : Addr} {oc : Value} {od an : Option Addr} {osl : Array (Option Value)} {kV doc pm cdv ct : Value} {N bs bm sn sub ab col dd k0 k1 k2 k3 k5} (X : K.In h) (G : h.Ns mainGlobals mg) (a : PySem.W.nsIn K mainGlobals x = some (some (.ref C)))
    (xL : K.lookup C = some (excClassObj nm q C N bs bm true sn sub ab col dd k0 k1 k2 k3 k5 "ValueError.__new__")) (hb : PySem.HandSPX.refsVE bm = true) (sa : PySem.W.findIn K (.ref C) "__setattr__" = some (some (.builtin "object.__setattr__"))) (ec : PySem.W.subIn K (.ref C) (.type "BaseException") = some true)
    (ty : PySem.W.typeIn K (.ref C) = some (.type "type")) (kc : PySem.W.keepIn K (.ref C) = true) (i : PySem.W.findIn K (.ref C) "__init__" = some (some (.ref f))) (tf : PySem.W.typeIn K (.ref f) = some (.type "function")) (no : PySem.W.findIn K (.ref C) fl = some none)
    (l : K.lookup f = some ⟨oc, od, .func (PySem.W.fnOf "__init__" qual (defArgs st) (defBody st) (defScope st) .none kV doc pm an cdv ct), osl⟩) (cd : PySem.W.codeIn K cdv qual = true) (k : PySem.W.keepIn K (.ref f) = true)
    (b : ∀ (kV doc pm : Value) (an : Option Addr) (cdv ct : Value) (us : List Value), us.length = (["self", prm] : List Str).length → bindArgs (PySem.W.fnOf "__init__" qual (defArgs st) (defBody st) (defScope st) .none kV doc pm an cdv ct) ⟨us, []⟩ = pure ((["self", prm] : List Str).zip us)) : ExIAt K mg x fl prm qual st :=
  ⟨C, f, _, fun_mk l cd k, a, PySem.W.mg_of X G a, ⟨⟨nm, q, N, bs, bm, sn, sub, ab, col, dd, k0, k1, k2, k3, k5, xL, hb⟩, sa, ec, ty, kc⟩, i, tf, no, (fun_mk l cd k).binds b⟩
theorem xfl_mk {x fl : Str} {C : Addr} (a : PySem.W.nsIn K mainGlobals x = some (some (.ref C))) (ga : PySem.W.findIn K (.ref C) "__getattribute__" = some (some (.builtin "BaseException.__getattribute__"))) (gg : PySem.W.findIn K (.ref C) "__getattr__" = some none)
    (ec : PySem.W.subIn K (.ref C) (.type "BaseException") = some true) (hd : PySem.W.hasDictIn K C = true) (no : PySem.W.findIn K (.ref C) fl = some none) : XflN K fl (fun y => y == x) := by
  refine ⟨fun y D hD hP => ?_⟩
  have e : y = x := eq_of_beq hP
  subst e
  unfold ClsN at hD
  rw [a] at hD
  cases hD
  exact ⟨⟨ga, gg, ec, hd⟩, no⟩
theorem ExIAt.exi {P : Program} {base : Heap} {x fl prm qual : Str} {st : Stmt} (D : ExIAt K mg x fl prm qual st) (hok : ∀ (C f : Addr) (fd : FuncData), L2.Fun K "__init__" qual st f fd → OexC K C → PySem.W.findIn K (.ref C) fl = some none → FnOk P w K mg base (L2.CX P w) 1 f fd ["self", prm] (spIni C fl)) : ExI P w K mg base 1 x fl := by
  obtain ⟨C, f, fd, h1, h2, h3, h4, h5, h6, h7, h8⟩ := D.ex
  exact ⟨C, f, fd, _, h2, h3, h4, h5, h6, hok C f fd h1 h4 h7, h8⟩
end
def mGe (n k : Nat) (f : MS) : MS := fun ρ m => if n ≤ k then f ρ m else .stuck
theorem js_ge {X : Cx} {W : WX} {st : Stmt} {n k : Nat} {f : MS} (h : n ≤ k → JS X W st f) : JS X W st (mGe n k f) := by
  by_cases e : n ≤ k
  · have : mGe n k f = f := by funext ρ m; exact if_pos e
    rw [this]
    exact h e
  · refine ⟨⟨fun pins s σ H D I ⟨ρ, m, β, hE, hM, q⟩ => ?_⟩⟩
    have : mGe n k f ρ m = .stuck := if_neg e
    rw [this] at q
    exact q.elim
theorem lv_eq : ∀ k : Nat, lv k = k
  | 0 => rfl
  | k + 1 => congrArg (· + 1) (lv_eq k)
section
variable {ρ : Env} {m : Mem} {E : Exn → Mem → Prop}
@[simp] theorem W_ge {n k : Nat} {f : MS} {Q : Fl → Mem → Prop} : W (mGe n k f ρ m) Q E = (n ≤ k ∧ W (f ρ m) Q E) := by
  unfold mGe
  by_cases h : n ≤ k
  · simp [h]
  · simp [h]
@[simp] theorem W_raiseI {x fl : Str} {f : ME} {Q : Fl → Mem → Prop} : W (mRaiseI x fl f ρ m) Q E = W (f ρ m) (fun d m1 => match d with
  | .int i => i.natAbs.log2 < 1920 ∧ Q (.ex ⟨x, [(fl, .int i)]⟩ ρ) m1
  | _ => False) (fun x m => Q (.ex x ρ) m) := by
  unfold mRaiseI
  rw [W_onE]
  congr 1
  funext d m1
  cases d with
  | int i =>
    dsimp only
    by_cases h : i.natAbs.log2 < 1920
    · simp [h]
    · simp [h]
  | _ => simp
@[simp] theorem W_xfl {P : Str → Bool} {fl : Str} {f : ME} {Q : MV → Mem → Prop} : W (mXfl P fl f ρ m) Q E = W (f ρ m) (fun d m1 => match exnOf m1 d with
  | some x => P x.cls = true ∧ (match x.fs.lookup fl with
    | some v => Q v m1
    | none => False)
  | none => False) E := by
  unfold mXfl
  rw [W_bind]
  congr 1
  funext d m1
  cases exnOf m1 d with
  | none => simp
  | some x =>
    dsimp only
    by_cases h : P x.cls = true
    · rw [if_pos h]
      cases x.fs.lookup fl <;> simp [h]
    · simp [h]
end
end MI
set_option maxHeartbeats 4000000
namespace K32
open PySem L2 MI NdefX
abbrev row := PySem.Challenge.pw_keptops_k32_open_answers
def topS (i : Nat) : Stmt := row.main.body.getD i (.Pass ⟨0, 0, 0, 0⟩)
inductive Fnm where
  | u_wall | is_integer | is_name | is_value | u_is_source | u_is_event | check_events | names_in | u_answer_of | u_answers_in | terms_of | open_answers | l_source | l_draw | l_pick | l_constant | l_operand | l_drawn_events | l_answer | l_fits | l_links | l_can | l_wrong | l_due | l_right | law | i_Terms | m_Terms__goes_on | m_Terms__link_ahead | m_Terms_segment | m_Terms__term | m_Terms__operands
  deriving DecidableEq
abbrev c_SIGNS : MV := .tup [.str "<", .str "<=", .str ">", .str ">=", .str "==", .str "!="]
abbrev c_CONSTANTS : MV := .tup [.str "none", .str "true", .str "false"]
abbrev c_BARRED : MV := .tup [.str "and", .str "or", .str "not", .str "if", .str "else", .str "is", .str "none", .str "true", .str "false", .str "set", .str "give", .str "try", .str "except", .str "end", .str "then", .str "program", .str "keep", .str "self"]
abbrev c_MOST_LETTERS : MV := .int 8
abbrev c_MOST_OPERANDS : MV := .int 3
abbrev c_MOST_VARIABLES : MV := .int 4
abbrev c_MOST_EVENTS : MV := .int 6
def p_InvalidEvents (y : Str) : Option Bool := ([("OperandError", false), ("InvalidEvents", true), ("NoExpressionFor", false)] : List (Str × Bool)).lookup y
def p_NoExpressionFor (y : Str) : Option Bool := ([("OperandError", false), ("InvalidEvents", false), ("NoExpressionFor", true)] : List (Str × Bool)).lookup y
def p_OperandError (y : Str) : Option Bool := ([("OperandError", true), ("InvalidEvents", true), ("NoExpressionFor", true)] : List (Str × Bool)).lookup y
def p_ValueError (y : Str) : Option Bool := ([("OperandError", true), ("InvalidEvents", true), ("NoExpressionFor", true)] : List (Str × Bool)).lookup y
def px_index (y : Str) : Bool := y == "NoExpressionFor"
def pf_ahead (y : Str) : Bool := y == "Terms"
def pf_events (y : Str) : Bool := y == "Terms"
def pf_possible (y : Str) : Bool := y == "Terms"
def pf_starts (y : Str) : Bool := y == "Terms"
def pf_waiting (y : Str) : Bool := y == "Terms"
instance : Nms where
  nm := fun l c => match ([] : List ((Nat × Nat) × Str)).lookup (l, c) with
    | some x => x
    | none => ""
  tb := fun K => ([] : List Str).filterMap fun x => (PySem.W.tabIn K x).map (·.2)
structure Txt (K : PySem.W.Frag) (w : World) (mg : Str → Option Value) : Prop where
  b_abs : mg "abs" = none
  b_all : mg "all" = none
  b_bool : mg "bool" = none
  b_enumerate : mg "enumerate" = none
  b_int : mg "int" = none
  b_isinstance : mg "isinstance" = none
  b_len : mg "len" = none
  b_list : mg "list" = none
  b_min : mg "min" = none
  b_range : mg "range" = none
  b_sorted : mg "sorted" = none
  b_str : mg "str" = none
  b_tuple : mg "tuple" = none
  b_zip : mg "zip" = none
  c_BARRED : Con K mg "BARRED" c_BARRED
  c_CONSTANTS : Con K mg "CONSTANTS" c_CONSTANTS
  c_MOST_EVENTS : Con K mg "MOST_EVENTS" c_MOST_EVENTS
  c_MOST_LETTERS : Con K mg "MOST_LETTERS" c_MOST_LETTERS
  c_MOST_OPERANDS : Con K mg "MOST_OPERANDS" c_MOST_OPERANDS
  c_MOST_VARIABLES : Con K mg "MOST_VARIABLES" c_MOST_VARIABLES
  c_SIGNS : Con K mg "SIGNS" c_SIGNS
  x_InvalidEvents : ExF K mg "InvalidEvents"
  h_OperandError : HndN K mg "OperandError" p_OperandError
  i_InvalidEvents : IsxN K mg "InvalidEvents" p_InvalidEvents
  i_NoExpressionFor : IsxN K mg "NoExpressionFor" p_NoExpressionFor
  i_ValueError : IsxN K mg "ValueError" p_ValueError
  f_ahead : FldN K "ahead" pf_ahead
  f_events : FldN K "events" pf_events
  f_possible : FldN K "possible" pf_possible
  f_starts : FldN K "starts" pf_starts
  f_waiting : FldN K "waiting" pf_waiting
  xi_NoExpressionFor : ExIAt K mg "NoExpressionFor" "index" "index" "NoExpressionFor.__init__" (clsS (topS 4) 0)
  xb_OperandError : InhI K mg "OperandError"
  xf_index : XflN K "index" px_index
abbrev s_x_NoExpressionFor : Stmt := clsS (topS 4) 0
theorem sc_x_NoExpressionFor : FnScope ["self", "index"] ["self", "index"] (defScope s_x_NoExpressionFor) := ⟨rfl, rfl, rfl, by decide +kernel, rfl, by decide +kernel, by decide +kernel⟩
theorem exi_NoExpressionFor {P : Program} {w : World} {K : PySem.W.Frag} {mg : Str → Option Value} {base : Heap} (T : Txt K w mg) : ExI P w K mg base 1 "NoExpressionFor" "index" := by
  obtain ⟨B, mc, b1, b2, b3⟩ := T.xb_OperandError.ex
  refine T.xi_NoExpressionFor.exi fun C f fd Fu To no => exi_ok (tm := tMsg [tC (.str "no expression goes on at event "), tFmt (tVar 1)]) Fu sc_x_NoExpressionFor To no (msg_ok (.txt (by decide +kernel) (.fmt .nil)) (by decide)) fun cdv A outer s H E => ?_
  exact pss_cons (ps_expr (pe_oini b1 b2 b3 (pa_cons (pe_var (i := 0) rfl (Or.inl rfl)) (pa_cons (pe_joined (.cons pe_str (.cons (pe_fmt (pe_var (i := 1) rfl (Or.inl rfl))) .nil))) pa_nil)))) (pss_one (ps_ost (pe_var (i := 0) rfl (Or.inl rfl)) (pe_var (i := 1) rfl (Or.inl rfl))))
structure Tabl where
  f : Fnm → MF
  c : Fnm → (Nat → MF) → MF
abbrev s_is_integer : Stmt := topS 12
theorem sc_is_integer : FnScope ["value"] ["value"] (defScope s_is_integer) := ⟨rfl, rfl, rfl, by decide +kernel, rfl, by decide +kernel, by decide +kernel⟩
noncomputable def b_is_integer (ck : Tabl) : MS := (mRet (mAnd (mIsi "int" (mVar 0)) (mNot (mIsi "bool" (mVar 0)))))
noncomputable def f_is_integer (ck : Tabl) : MF := fun ds m => endOf (b_is_integer ck (startM 1 ds) m)
theorem ok_is_integer {M : Mode} {P : Program} {w : World} {K : PySem.W.Frag} {mg : Str → Option Value} {base : Heap} {k : Nat} {f : Addr} {fd : FuncData} {ck : Tabl} (Fu : Fun K "is_integer" "is_integer" s_is_integer f fd) (T : Txt K w mg) :
    FnOk P w K mg base (M.CX P w) (lv k + 1) f fd ["value"] (spM K 1 (f_is_integer ck)) :=
  have nd := sc_is_integer.nd
  fnx_ok (M := M) (g := b_is_integer ck) Fu sc_is_integer rfl (fun _ _ _ => rfl) fun cdv A outer s H E hr W tk hp =>
    (jb_one (js_ret (je_and (je_isi "int" (j_var 0) T.b_isinstance T.b_int (by decide +kernel)) (je_one (je_not (je_isi "bool" (j_var 0) T.b_isinstance T.b_bool (by decide +kernel)))))))
abbrev s_is_name : Stmt := topS 13
theorem sc_is_name : FnScope ["value", "letter"] ["value"] (defScope s_is_name) := ⟨rfl, rfl, rfl, by decide +kernel, rfl, by decide +kernel, by decide +kernel⟩
noncomputable def b_is_name (ck : Tabl) : MS := (mSeq (mIfS (mOrT (mNotT (mTru (mIsi "str" (mVar 0)))) (mNotT (mB (mChain gLeS gLeS (mC (.int 1)) (mCall gLen (mCons (mVar 0) mNil)) (mC c_MOST_LETTERS)))))
    (mRet (mC (.bl false)))
    mSkip)
    (mRet (mAnd (mBin (gInB true) (mVar 0) (mC c_BARRED)) (mCall gAll (mCons (mLc (mAnyI (mVar 0)) (ngName 1) mYes (mChain gLeS gLeS (mC (.str "a")) (mVar 1) (mC (.str "z"))) [1]) mNil)))))
noncomputable def f_is_name (ck : Tabl) : MF := fun ds m => endOf (b_is_name ck (startM 2 ds) m)
theorem ok_is_name {M : Mode} {P : Program} {w : World} {K : PySem.W.Frag} {mg : Str → Option Value} {base : Heap} {k : Nat} {f : Addr} {fd : FuncData} {ck : Tabl} (Fu : Fun K "is_name" "is_name" s_is_name f fd) (T : Txt K w mg) :
    FnOk P w K mg base (M.CX P w) (lv k + 1) f fd ["value"] (spM K 1 (f_is_name ck)) :=
  have nd := sc_is_name.nd
  fnx_ok (M := M) (g := b_is_name ck) Fu sc_is_name rfl (fun _ _ _ => rfl) fun cdv A outer s H E hr W tk hp =>
    (jb_cons (js_if (jw_or (jt_not (jt_tru (je_isi "str" (j_var 0) T.b_isinstance T.b_str (by decide +kernel)))) (jw_or1 (jt_not (jt_chain op_leA op_leA om_leA om_leA j_int (je_callB cr_len cm_len T.b_len PySem.boot_len (ja_cons (j_var 0) ja_nil)) (j_con T.c_MOST_LETTERS))))).jt
    (jb_one (js_ret j_bl))
    jb_nil)
    (jb_one (js_ret (je_and (je_ninB (hu1 hr) (hu65 hr) (j_var 0) (j_con T.c_BARRED)) (je_one (je_callB (cr_all rfl) cm_all T.b_all (by decide +kernel) (ja_cons (je_lc [("letter", 1)] rfl rfl nd (ji_any (j_var 0)) (blkOk_by (N := ["value", "letter"]) (sc := defScope s_is_name) (by decide +kernel)) (fun _ _ _ _ _ => (jn_name 1 nd)) (fun _ _ _ _ _ => jts_nil) (fun _ _ _ _ _ => (je_chain op_leA op_leA om_leA om_leA j_str (j_var 1) j_str)) (hgs_name)) ja_nil)))))))
abbrev s_is_value : Stmt := topS 16
theorem sc_is_value : FnScope ["value", "many"] ["value", "many"] (defScope s_is_value) := ⟨rfl, rfl, rfl, by decide +kernel, rfl, by decide +kernel, by decide +kernel⟩
noncomputable def b_is_value (ck : Tabl) : MS := (mSeq (mIfS (mNotT (mTru (mIsi "tuple" (mVar 0))))
    (mRet (mC (.bl false)))
    mSkip)
    (mSeq (mIfS (mB (mBin (gEqA false) (mCall gLen (mCons (mVar 0) mNil)) (mC (.int 1))))
    (mRet (mBin (gInB false) (mBin gItem (mVar 0) (mC (.int 0))) (mC c_CONSTANTS)))
    mSkip)
    (mRet (mAnd (mBin (gEqA false) (mCall gLen (mCons (mVar 0) mNil)) (mC (.int 2))) (mAnd (mBin (gEqA false) (mBin gItem (mVar 0) (mC (.int 0))) (mC (.str "object"))) (mCall (ck.f .u_is_source) (mCons (mBin gItem (mVar 0) (mC (.int 1))) (mCons (mVar 1) mNil))))))))
noncomputable def f_is_value (ck : Tabl) : MF := fun ds m => endOf (b_is_value ck (startM 2 ds) m)
theorem ok_is_value {M : Mode} {P : Program} {w : World} {K : PySem.W.Frag} {mg : Str → Option Value} {base : Heap} {k : Nat} {f : Addr} {fd : FuncData} {ck : Tabl} (Fu : Fun K "is_value" "is_value" s_is_value f fd) (T : Txt K w mg) (I_u_is_source : FnX M P w K mg base (lv k) "_is_source" 2 (ck.f .u_is_source)) :
    FnOk P w K mg base (M.CX P w) (lv k + 1) f fd ["value", "many"] (spM K 2 (f_is_value ck)) :=
  have nd := sc_is_value.nd
  fnx_ok (M := M) (g := b_is_value ck) Fu sc_is_value rfl (fun _ _ _ => rfl) fun cdv A outer s H E hr W tk hp =>
    (jb_cons (js_if (jt_not (jt_tru (je_isi "tuple" (j_var 0) T.b_isinstance T.b_tuple (by decide +kernel))))
    (jb_one (js_ret j_bl))
    jb_nil)
    (jb_cons (js_if (jt_cmp (op_eqA (hu64 hr)) om_eqA (je_callB cr_len cm_len T.b_len PySem.boot_len (ja_cons (j_var 0) ja_nil)) j_int)
    (jb_one (js_ret (je_inB (hu1 hr) (hu65 hr) (je_item (hu1 hr) (j_var 0) j_int) (j_con T.c_CONSTANTS))))
    jb_nil)
    (jb_one (js_ret (je_and (j_cmp (op_eqA (hu64 hr)) om_eqA (je_callB cr_len cm_len T.b_len PySem.boot_len (ja_cons (j_var 0) ja_nil)) j_int) (je_and (j_cmp (op_eqA (hu64 hr)) om_eqA (je_item (hu1 hr) (j_var 0) j_int) j_str) (je_one (jx_call I_u_is_source hr (Nat.le_refl _) tk (ja_cons (je_item (hu1 hr) (j_var 0) j_int) (ja_cons (j_var 1) ja_nil)) (hlen := (mCons_len (mCons_len mNil_len)))))))))))
abbrev s_u_is_source : Stmt := topS 17
theorem sc_u_is_source : FnScope ["value", "many", "word", "at"] ["value", "many"] (defScope s_u_is_source) := ⟨rfl, rfl, rfl, by decide +kernel, rfl, by decide +kernel, by decide +kernel⟩
noncomputable def b_u_is_source (ck : Tabl) : MS := (mSeq (mIfS (mOrT (mNotT (mTru (mIsi "tuple" (mVar 0)))) (mB (mBin (gEqA true) (mCall gLen (mCons (mVar 0) mNil)) (mC (.int 2)))))
    (mRet (mC (.bl false)))
    mSkip)
    (mSeq (mAsg (mVar 0) (nTup 2 (nCons (nName 2) (nCons (nName 3) nNil))))
    (mRet (mOr (mAnd (mBin (gEqA false) (mVar 2) (mC (.str "name"))) (mCall (ck.f .is_name) (mCons (mVar 3) mNil))) (mAnd (mBin (gEqA false) (mVar 2) (mC (.str "event"))) (mAnd (mCall (ck.f .is_integer) (mCons (mVar 3) mNil)) (mChain gLeS gLt (mC (.int 0)) (mVar 3) (mVar 1))))))))
noncomputable def f_u_is_source (ck : Tabl) : MF := fun ds m => endOf (b_u_is_source ck (startM 4 ds) m)
theorem ok_u_is_source {M : Mode} {P : Program} {w : World} {K : PySem.W.Frag} {mg : Str → Option Value} {base : Heap} {k : Nat} {f : Addr} {fd : FuncData} {ck : Tabl} (Fu : Fun K "_is_source" "_is_source" s_u_is_source f fd) (T : Txt K w mg) (I_is_integer : FnX M P w K mg base (lv k) "is_integer" 1 (ck.f .is_integer)) (I_is_name : FnX M P w K mg base (lv k) "is_name" 1 (ck.f .is_name)) :
    FnOk P w K mg base (M.CX P w) (lv k + 1) f fd ["value", "many"] (spM K 2 (f_u_is_source ck)) :=
  have nd := sc_u_is_source.nd
  fnx_ok (M := M) (g := b_u_is_source ck) Fu sc_u_is_source rfl (fun _ _ _ => rfl) fun cdv A outer s H E hr W tk hp =>
    (jb_cons (js_if (jw_or (jt_not (jt_tru (je_isi "tuple" (j_var 0) T.b_isinstance T.b_tuple (by decide +kernel)))) (jw_or1 (jt_cmp (op_neA (hu64 hr)) om_neA (je_callB cr_len cm_len T.b_len PySem.boot_len (ja_cons (j_var 0) ja_nil)) j_int))).jt
    (jb_one (js_ret j_bl))
    jb_nil)
    (jb_cons (js_asg (j_var 0) (jg_tup rfl (jgs_cons (jg_name 2 nd) (jgs_cons (jg_name 3 nd) jgs_nil))))
    (jb_one (js_ret (je_or (je_and (j_cmp (op_eqA (hu64 hr)) om_eqA (j_var 2) j_str) (je_one (jx_call I_is_name hr (Nat.le_refl _) tk (ja_cons (j_var 3) ja_nil) (hlen := (mCons_len mNil_len))))) (je_one (je_and (j_cmp (op_eqA (hu64 hr)) om_eqA (j_var 2) j_str) (je_and (jx_call I_is_integer hr (Nat.le_refl _) tk (ja_cons (j_var 3) ja_nil) (hlen := (mCons_len mNil_len))) (je_one (je_chain op_leA op_lt om_leA om_lt j_int (j_var 3) (j_var 1)))))))))))
abbrev s_u_is_event : Stmt := topS 18
theorem sc_u_is_event : FnScope ["value", "number", "word", "values", "right", "operand"] ["value", "number"] (defScope s_u_is_event) := ⟨rfl, rfl, rfl, by decide +kernel, rfl, by decide +kernel, by decide +kernel⟩
noncomputable def b_u_is_event (ck : Tabl) : MS := (mSeq (mIfS (mOrT (mNotT (mTru (mIsi "tuple" (mVar 0)))) (mOrT (mB (mBin (gEqA true) (mCall gLen (mCons (mVar 0) mNil)) (mC (.int 2)))) (mNotT (mTru (mIsi "tuple" (mBin gItem (mVar 0) (mC (.int 1))))))))
    (mRet (mC (.bl false)))
    mSkip)
    (mSeq (mAsg (mVar 0) (nTup 2 (nCons (nName 2) (nCons (nName 3) nNil))))
    (mSeq (mIfS (mB (mBin (gInB false) (mVar 2) (mC c_SIGNS)))
    (mAsg (mBin (gEqA false) (mCall gLen (mCons (mVar 3) mNil)) (mC (.int 2))) (nName 4))
    (mAsg (mAnd (mCall (ck.f .is_name) (mCons (mVar 2) mNil)) (mBin gLeS (mCall gLen (mCons (mVar 3) mNil)) (mC c_MOST_OPERANDS))) (nName 4)))
    (mRet (mAnd (mVar 4) (mCall gAll (mCons (mLc (mAnyI (mVar 3)) (ngName 5) mYes (mCall (ck.f .is_value) (mCons (mVar 5) (mCons (mVar 1) mNil))) [5]) mNil)))))))
noncomputable def f_u_is_event (ck : Tabl) : MF := fun ds m => endOf (b_u_is_event ck (startM 6 ds) m)
theorem ok_u_is_event {M : Mode} {P : Program} {w : World} {K : PySem.W.Frag} {mg : Str → Option Value} {base : Heap} {k : Nat} {f : Addr} {fd : FuncData} {ck : Tabl} (Fu : Fun K "_is_event" "_is_event" s_u_is_event f fd) (T : Txt K w mg) (I_is_name : FnX M P w K mg base (lv k) "is_name" 1 (ck.f .is_name)) (I_is_value : FnX M P w K mg base (lv k) "is_value" 2 (ck.f .is_value)) :
    FnOk P w K mg base (M.CX P w) (lv k + 1) f fd ["value", "number"] (spM K 2 (f_u_is_event ck)) :=
  have nd := sc_u_is_event.nd
  fnx_ok (M := M) (g := b_u_is_event ck) Fu sc_u_is_event rfl (fun _ _ _ => rfl) fun cdv A outer s H E hr W tk hp =>
    (jb_cons (js_if (jw_or (jt_not (jt_tru (je_isi "tuple" (j_var 0) T.b_isinstance T.b_tuple (by decide +kernel)))) (jw_or (jt_cmp (op_neA (hu64 hr)) om_neA (je_callB cr_len cm_len T.b_len PySem.boot_len (ja_cons (j_var 0) ja_nil)) j_int) (jw_or1 (jt_not (jt_tru (je_isi "tuple" (je_item (hu1 hr) (j_var 0) j_int) T.b_isinstance T.b_tuple (by decide +kernel))))))).jt
    (jb_one (js_ret j_bl))
    jb_nil)
    (jb_cons (js_asg (j_var 0) (jg_tup rfl (jgs_cons (jg_name 2 nd) (jgs_cons (jg_name 3 nd) jgs_nil))))
    (jb_cons (js_if (jt_inB (hu1 hr) (hu65 hr) (j_var 2) (j_con T.c_SIGNS))
    (jb_one (js_set 4 nd (j_cmp (op_eqA (hu64 hr)) om_eqA (je_callB cr_len cm_len T.b_len PySem.boot_len (ja_cons (j_var 3) ja_nil)) j_int)))
    (jb_one (js_set 4 nd (je_and (jx_call I_is_name hr (Nat.le_refl _) tk (ja_cons (j_var 2) ja_nil) (hlen := (mCons_len mNil_len))) (je_one (j_cmp op_leA om_leA (je_callB cr_len cm_len T.b_len PySem.boot_len (ja_cons (j_var 3) ja_nil)) (j_con T.c_MOST_OPERANDS)))))))
    (jb_one (js_ret (je_and (j_var 4) (je_one (je_callB (cr_all rfl) cm_all T.b_all (by decide +kernel) (ja_cons (je_lc [("operand", 5)] rfl rfl nd (ji_any (j_var 3)) (blkOk_by (N := ["value", "number", "word", "values", "right", "operand"]) (sc := defScope s_u_is_event) (by decide +kernel)) (fun _ _ _ _ _ => (jn_name 5 nd)) (fun _ _ _ _ _ => jts_nil) (fun _ _ _ _ _ => (jx_call I_is_value hr (Nat.le_refl _) M.tk0 (ja_cons (j_var 5) (ja_cons (j_var 1) ja_nil)) (hlen := (mCons_len (mCons_len mNil_len))))) (hgs_name)) ja_nil)))))))))
abbrev s_check_events : Stmt := topS 19
theorem sc_check_events : FnScope ["events", "number", "event"] ["events"] (defScope s_check_events) := ⟨rfl, rfl, rfl, by decide +kernel, rfl, by decide +kernel, by decide +kernel⟩
noncomputable def b_check_events (ck : Tabl) : MS := (mSeq (mIfS (mOrT (mNotT (mTru (mIsi "list" (mVar 0)))) (mB (mBin gGt (mCall gLen (mCons (mVar 0) mNil)) (mC c_MOST_EVENTS))))
    (mRaise "InvalidEvents")
    mSkip)
    (mSeq (mIfS (mNotT (mTru (mCall gAll (mCons (mLc (mEnum (mCons (mVar 0) mNil)) (ngTup 2 (ngCons (ngName 1) (ngCons (ngName 2) ngNil))) mYes (mCall (ck.f .u_is_event) (mCons (mVar 2) (mCons (mVar 1) mNil))) [2, 1]) mNil))))
    (mRaise "InvalidEvents")
    mSkip)
    (mIfS (mB (mBin gGt (mCall gLen (mCons (mCall (ck.f .names_in) (mCons (mVar 0) (mCons (mTup (mCons (mC (.str "none")) mNil)) mNil))) mNil)) (mC c_MOST_VARIABLES)))
    (mRaise "InvalidEvents")
    mSkip)))
noncomputable def f_check_events (ck : Tabl) : MF := fun ds m => endOf (b_check_events ck (startM 3 ds) m)
theorem ok_check_events {M : Mode} {P : Program} {w : World} {K : PySem.W.Frag} {mg : Str → Option Value} {base : Heap} {k : Nat} {f : Addr} {fd : FuncData} {ck : Tabl} (Fu : Fun K "check_events" "check_events" s_check_events f fd) (T : Txt K w mg) (I_u_is_event : FnX M P w K mg base (lv k) "_is_event" 2 (ck.f .u_is_event)) (I_names_in : FnX M P w K mg base (lv k) "names_in" 2 (ck.f .names_in)) :
    FnOk P w K mg base (M.CX P w) (lv k + 1) f fd ["events"] (spM K 1 (f_check_events ck)) :=
  have nd := sc_check_events.nd
  fnx_ok (M := M) (g := b_check_events ck) Fu sc_check_events rfl (fun _ _ _ => rfl) fun cdv A outer s H E hr W tk hp =>
    (jb_cons (js_if (jw_or (jt_not (jt_tru (je_isi "list" (j_var 0) T.b_isinstance T.b_list (by decide +kernel)))) (jw_or1 (jt_cmp op_gt om_gt (je_callB cr_len cm_len T.b_len PySem.boot_len (ja_cons (j_var 0) ja_nil)) (j_con T.c_MOST_EVENTS)))).jt
    (jb_one (jx_raise (M := M) T.x_InvalidEvents rfl tk))
    jb_nil)
    (jb_cons (js_if (jt_not (jt_tru (je_callB (cr_all rfl) cm_all T.b_all (by decide +kernel) (ja_cons (je_lc [("event", 2), ("number", 1)] rfl rfl nd (ji_enum T.b_enumerate (ja_cons (j_var 0) ja_nil)) (blkOk_by (N := ["events", "number", "event"]) (sc := defScope s_check_events) (by decide +kernel)) (fun _ _ _ _ _ => (jn_tup rfl (jn_cons (jn_name 1 nd) (jn_cons (jn_name 2 nd) jn_nil)))) (fun _ _ _ _ _ => jts_nil) (fun _ _ _ _ _ => (jx_call I_u_is_event hr (Nat.le_refl _) M.tk0 (ja_cons (j_var 2) (ja_cons (j_var 1) ja_nil)) (hlen := (mCons_len (mCons_len mNil_len))))) (by (first | exact MI.wr_tup (MI.wr_cons (MI.wr_name (by decide)) (MI.wr_cons (MI.wr_name (by decide)) MI.wr_nil)) | exact MI.wr_tup (MI.wr_cons (MI.wr_name (by decide)) (MI.wr_cons (MI.wr_name (by decide)) (MI.wr_cons (MI.wr_name (by decide)) MI.wr_nil)))))) ja_nil))))
    (jb_one (jx_raise (M := M) T.x_InvalidEvents rfl tk))
    jb_nil)
    (jb_one (js_if (jt_cmp op_gt om_gt (je_callB cr_len cm_len T.b_len PySem.boot_len (ja_cons (jx_call I_names_in hr (Nat.le_refl _) tk (ja_cons (j_var 0) (ja_cons (je_tup (ja_cons j_str ja_nil)) ja_nil)) (hlen := (mCons_len (mCons_len mNil_len)))) ja_nil)) (j_con T.c_MOST_VARIABLES))
    (jb_one (jx_raise (M := M) T.x_InvalidEvents rfl tk))
    jb_nil))))
abbrev s_names_in : Stmt := topS 20
theorem sc_names_in : FnScope ["events", "value", "values", "_", "operands", "names", "one"] ["events", "value"] (defScope s_names_in) := ⟨rfl, rfl, rfl, by decide +kernel, rfl, by decide +kernel, by decide +kernel⟩
noncomputable def b_names_in (ck : Tabl) : MS := (mSeq (mAsg (mLst (mCons (mVar 1) mNil)) (nName 2))
    (mSeq (mFor (mAnyI (mVar 0)) (nTup 2 (nCons (nName 3) (nCons (nName 4) nNil)))
    (mAsg (mBin gAdd (mVar 2) (mCall gListA (mCons (mVar 4) mNil))) (nName 2)))
    (mSeq (mAsg mDNew (nName 5))
    (mSeq (mFor (mAnyI (mVar 2)) (nName 6)
    (mIfS (mAndT (mB (mBin (gEqA false) (mBin gItem (mVar 6) (mC (.int 0))) (mC (.str "object")))) (mB (mBin (gEqA false) (mBin gItem (mBin gItem (mVar 6) (mC (.int 1))) (mC (.int 0))) (mC (.str "name")))))
    (mStore (mVar 5) (mBin gItem (mBin gItem (mVar 6) (mC (.int 1))) (mC (.int 1))) (mC (.bl true)))
    mSkip))
    (mRet (mCall gSortS (mCons (mCall gListA (mCons (mVar 5) mNil)) mNil)))))))
noncomputable def f_names_in (ck : Tabl) : MF := fun ds m => endOf (b_names_in ck (startM 7 ds) m)
theorem ok_names_in {M : Mode} {P : Program} {w : World} {K : PySem.W.Frag} {mg : Str → Option Value} {base : Heap} {k : Nat} {f : Addr} {fd : FuncData} {ck : Tabl} (Fu : Fun K "names_in" "names_in" s_names_in f fd) (T : Txt K w mg) :
    FnOk P w K mg base (M.CX P w) (lv k + 1) f fd ["events", "value"] (spM K 2 (f_names_in ck)) :=
  have nd := sc_names_in.nd
  fnx_ok (M := M) (g := b_names_in ck) Fu sc_names_in rfl (fun _ _ _ => rfl) fun cdv A outer s H E hr W tk hp =>
    (jb_cons (js_set 2 nd (je_lst (ja_cons (j_var 1) ja_nil)))
    (jb_cons (js_for hp rfl (ji_any (j_var 0)) (jg_tup rfl (jgs_cons (jg_name 3 nd) (jgs_cons (jg_name 4 nd) jgs_nil)))
    (jb_one (js_set 2 nd (j_op op_addA om_add (j_var 2) (je_callTy (cr_listA rfl) cm_listA T.b_list (by decide +kernel) (ja_cons (j_var 4) ja_nil))))))
    (jb_cons (js_set 5 nd je_dnew)
    (jb_cons (js_for hp rfl (ji_any (j_var 2)) (jg_name 6 nd)
    (jb_one (js_if (jw_and (jt_cmp (op_eqA (hu64 hr)) om_eqA (je_item (hu1 hr) (j_var 6) j_int) j_str) (jw_and1 (jt_cmp (op_eqA (hu64 hr)) om_eqA (je_item (hu1 hr) (je_item (hu1 hr) (j_var 6) j_int) j_int) j_str))).jt
    (jb_one (js_store (hu1 hr) (j_var 5) (je_item (hu1 hr) (je_item (hu1 hr) (j_var 6) j_int) j_int) (j_var 5) (je_item (hu1 hr) (je_item (hu1 hr) (j_var 6) j_int) j_int) j_bl))
    jb_nil)))
    (jb_one (js_ret (je_callB cr_sortedS cm_sortS T.b_sorted (by decide +kernel) (ja_cons (je_callTy (cr_listA rfl) cm_listA T.b_list (by decide +kernel) (ja_cons (j_var 5) ja_nil)) ja_nil))))))))
abbrev s_u_answer_of : Stmt := topS 21
theorem sc_u_answer_of : FnScope ["value"] ["value"] (defScope s_u_answer_of) := ⟨rfl, rfl, rfl, by decide +kernel, rfl, by decide +kernel, by decide +kernel⟩
noncomputable def b_u_answer_of (ck : Tabl) : MS := (mRet (mIf (mAndT (mB (mBin (gEqA false) (mBin gItem (mVar 0) (mC (.int 0))) (mC (.str "object")))) (mB (mBin (gEqA false) (mBin gItem (mBin gItem (mVar 0) (mC (.int 1))) (mC (.int 0))) (mC (.str "event"))))) (mBin gItem (mBin gItem (mVar 0) (mC (.int 1))) (mC (.int 1))) (mC .non)))
noncomputable def f_u_answer_of (ck : Tabl) : MF := fun ds m => endOf (b_u_answer_of ck (startM 1 ds) m)
theorem ok_u_answer_of {M : Mode} {P : Program} {w : World} {K : PySem.W.Frag} {mg : Str → Option Value} {base : Heap} {k : Nat} {f : Addr} {fd : FuncData} {ck : Tabl} (Fu : Fun K "_answer_of" "_answer_of" s_u_answer_of f fd) (T : Txt K w mg) :
    FnOk P w K mg base (M.CX P w) (lv k + 1) f fd ["value"] (spM K 1 (f_u_answer_of ck)) :=
  have nd := sc_u_answer_of.nd
  fnx_ok (M := M) (g := b_u_answer_of ck) Fu sc_u_answer_of rfl (fun _ _ _ => rfl) fun cdv A outer s H E hr W tk hp =>
    (jb_one (js_ret (je_if (jw_and (jt_cmp (op_eqA (hu64 hr)) om_eqA (je_item (hu1 hr) (j_var 0) j_int) j_str) (jw_and1 (jt_cmp (op_eqA (hu64 hr)) om_eqA (je_item (hu1 hr) (je_item (hu1 hr) (j_var 0) j_int) j_int) j_str))).jt (je_item (hu1 hr) (je_item (hu1 hr) (j_var 0) j_int) j_int) j_non)))
abbrev s_u_answers_in : Stmt := topS 22
theorem sc_u_answers_in : FnScope ["values", "value"] ["values"] (defScope s_u_answers_in) := ⟨rfl, rfl, rfl, by decide +kernel, rfl, by decide +kernel, by decide +kernel⟩
noncomputable def b_u_answers_in (ck : Tabl) : MS := (mRet (mLc (mAnyI (mVar 0)) (ngName 1) (mB (mBin gNotN (mCall (ck.f .u_answer_of) (mCons (mVar 1) mNil)) (mC .non))) (mCall (ck.f .u_answer_of) (mCons (mVar 1) mNil)) [1]))
noncomputable def f_u_answers_in (ck : Tabl) : MF := fun ds m => endOf (b_u_answers_in ck (startM 2 ds) m)
theorem ok_u_answers_in {M : Mode} {P : Program} {w : World} {K : PySem.W.Frag} {mg : Str → Option Value} {base : Heap} {k : Nat} {f : Addr} {fd : FuncData} {ck : Tabl} (Fu : Fun K "_answers_in" "_answers_in" s_u_answers_in f fd) (T : Txt K w mg) (I_u_answer_of : FnX M P w K mg base (lv k) "_answer_of" 1 (ck.f .u_answer_of)) :
    FnOk P w K mg base (M.CX P w) (lv k + 1) f fd ["values"] (spM K 1 (f_u_answers_in ck)) :=
  have nd := sc_u_answers_in.nd
  fnx_ok (M := M) (g := b_u_answers_in ck) Fu sc_u_answers_in rfl (fun _ _ _ => rfl) fun cdv A outer s H E hr W tk hp =>
    (jb_one (js_ret (je_lc [("value", 1)] rfl rfl nd (ji_any (j_var 0)) (blkOk_by (N := ["values", "value"]) (sc := defScope s_u_answers_in) (by decide +kernel)) (fun _ _ _ _ _ => (jn_name 1 nd)) (fun _ _ _ _ _ => (jts_one (jt_cmp op_notN om_notN (jx_call I_u_answer_of hr (Nat.le_refl _) M.tk0 (ja_cons (j_var 1) ja_nil) (hlen := (mCons_len mNil_len))) j_non))) (fun _ _ _ _ _ => (jx_call I_u_answer_of hr (Nat.le_refl _) M.tk0 (ja_cons (j_var 1) ja_nil) (hlen := (mCons_len mNil_len)))) (hgs_name))))
abbrev s_terms_of : Stmt := topS 24
theorem sc_terms_of : FnScope ["events", "terms"] ["events"] (defScope s_terms_of) := ⟨rfl, rfl, rfl, by decide +kernel, rfl, by decide +kernel, by decide +kernel⟩
noncomputable def b_terms_of (ck : Tabl) (h : Nat → Tabl) (k : Nat) : MS := (mSeq (mDrop (mCall (ck.f .check_events) (mCons (mVar 0) mNil)))
    (mSeq (mAsg (mPos k (mCall (gMake "Terms" ((h (k - 1)).f .i_Terms)) (mCons (mVar 0) mNil))) (nName 1))
    (mSeq (mIfS (mB (mBin gLt (mFld pf_possible "possible" (mVar 1)) (mCall gLen (mCons (mVar 0) mNil))))
    (mGe 2 k (mRaiseI "NoExpressionFor" "index" (mFld pf_possible "possible" (mVar 1))))
    mSkip)
    (mRet (mVar 1)))))
noncomputable def f_terms_of (ck : Tabl) (h : Nat → Tabl) (k : Nat) : MF := fun ds m => endOf (b_terms_of ck h k (startM 2 ds) m)
theorem ok_terms_of {P : Program} {w : World} {K : PySem.W.Frag} {mg : Str → Option Value} {base : Heap} {k : Nat} {f : Addr} {fd : FuncData} {ck : Tabl} {h : Nat → Tabl} (Fu : Fun K "terms_of" "terms_of" s_terms_of f fd) (T : Txt K w mg) (I_check_events : FnX M2 P w K mg base (lv k) "check_events" 1 (ck.f .check_events)) (IS_i_Terms : ∀ j, j < k → MkX M2 P w K mg base (lv j) "Terms" 1 ((h j).f .i_Terms)) :
    FnOk P w K mg base (M2.CX P w) (lv k + 1) f fd ["events"] (spM K 1 (f_terms_of ck h k)) :=
  have nd := sc_terms_of.nd
  fnx_ok (M := M2) (g := b_terms_of ck h k) Fu sc_terms_of rfl (fun _ _ _ => rfl) fun cdv A outer s H E hr W tk hp =>
    (jb_cons (js_expr (jx_call I_check_events hr (Nat.le_refl _) tk (ja_cons (j_var 0) ja_nil) (hlen := (mCons_len mNil_len))))
    (jb_cons (js_set 1 nd (je_pos (k := k) fun pos_ => jx_make (IS_i_Terms (k - 1) (by omega)) hr (lv_pos pos_) (ja_cons (j_var 0) ja_nil) (hlen := (mCons_len mNil_len))))
    (jb_cons (js_if (jt_cmp op_lt om_lt (je_fld (j_var 1) T.f_possible) (je_callB cr_len cm_len T.b_len PySem.boot_len (ja_cons (j_var 0) ja_nil)))
    (jb_one (js_ge fun ge_ => jx_raiseI (exi_NoExpressionFor T) hr (by rw [lv_eq]; exact ge_) rfl tk (je_fld (j_var 1) T.f_possible)))
    jb_nil)
    (jb_one (js_ret (j_var 1))))))
abbrev s_open_answers : Stmt := topS 25
theorem sc_open_answers : FnScope ["events"] ["events"] (defScope s_open_answers) := ⟨rfl, rfl, rfl, by decide +kernel, rfl, by decide +kernel, by decide +kernel⟩
noncomputable def b_open_answers (ck : Tabl) : MS := (mRet (mCall gListA (mCons (mFld pf_waiting "waiting" (mCall (ck.f .terms_of) (mCons (mVar 0) mNil))) mNil)))
noncomputable def f_open_answers (ck : Tabl) : MF := fun ds m => endOf (b_open_answers ck (startM 1 ds) m)
theorem ok_open_answers {M : Mode} {P : Program} {w : World} {K : PySem.W.Frag} {mg : Str → Option Value} {base : Heap} {k : Nat} {f : Addr} {fd : FuncData} {ck : Tabl} (Fu : Fun K "open_answers" "open_answers" s_open_answers f fd) (T : Txt K w mg) (I_terms_of : FnX M P w K mg base (lv k) "terms_of" 1 (ck.f .terms_of)) :
    FnOk P w K mg base (M.CX P w) (lv k + 1) f fd ["events"] (spM K 1 (f_open_answers ck)) :=
  have nd := sc_open_answers.nd
  fnx_ok (M := M) (g := b_open_answers ck) Fu sc_open_answers rfl (fun _ _ _ => rfl) fun cdv A outer s H E hr W tk hp =>
    (jb_one (js_ret (je_callTy (cr_listA rfl) cm_listA T.b_list (by decide +kernel) (ja_cons (je_fld (jx_call I_terms_of hr (Nat.le_refl _) tk (ja_cons (j_var 0) ja_nil) (hlen := (mCons_len mNil_len))) T.f_waiting) ja_nil))))
abbrev s_l_source : Stmt := topS 27
theorem sc_l_source : FnScope ["_law_script", "_law_cells", "_law_k"] ["_law_script"] (defScope s_l_source) := ⟨rfl, rfl, rfl, by decide +kernel, rfl, by decide +kernel, by decide +kernel⟩
noncomputable def b_l_source (ck : Tabl) : MS := (mSeq (mAsg (mSl (mVar 0) mNo (mEnd (mC (.int 63)))) (nName 1))
    (mSeq (mFor (mRng (mCons (mCall gLen (mCons (mVar 1) mNil)) mNil)) (nName 2)
    (mIfS (mB (mBin gGe (mCall gAbs (mCons (mBin gItem (mVar 1) (mVar 2)) mNil)) (mBin gPow (mC (.int 10)) (mC (.int 18)))))
    (mStore (mVar 1) (mVar 2) (mBin gMod (mCall gInt (mCons (mBin gItem (mVar 1) (mVar 2)) mNil)) (mBin gPow (mBin gPow (mC (.int 10)) (mC (.int 60))) (mC (.int 20)))))
    mSkip))
    (mSeq (mIfS (mB (mBin gEqE (mVar 1) (mLst mNil)))
    (mAsg (mLst (mCons (mC (.int 0)) mNil)) (nName 1))
    mSkip)
    (mRet (mLst (mCons (mVar 1) (mCons (mC (.int 0)) mNil)))))))
noncomputable def f_l_source (ck : Tabl) : MF := fun ds m => endOf (b_l_source ck (startM 3 ds) m)
theorem ok_l_source {M : Mode} {P : Program} {w : World} {K : PySem.W.Frag} {mg : Str → Option Value} {base : Heap} {k : Nat} {f : Addr} {fd : FuncData} {ck : Tabl} (Fu : Fun K "_law_source" "_law_source" s_l_source f fd) (T : Txt K w mg) :
    FnOk P w K mg base (M.CX P w) (lv k + 1) f fd ["_law_script"] (spM K 1 (f_l_source ck)) :=
  have nd := sc_l_source.nd
  fnx_ok (M := M) (g := b_l_source ck) Fu sc_l_source rfl (fun _ _ _ => rfl) fun cdv A outer s H E hr W tk hp =>
    (jb_cons (js_set 1 nd (je_sl (j_var 0) jo_no (jo_end j_int)))
    (jb_cons (js_for hp rfl (ji_rng1 T.b_range (ja_cons (je_callB cr_len cm_len T.b_len PySem.boot_len (ja_cons (j_var 1) ja_nil)) ja_nil)) (jg_name 2 nd)
    (jb_one (js_if (jt_cmp op_ge om_ge (je_callB call_abs cm_abs T.b_abs (by decide +kernel) (ja_cons (je_item (hu1 hr) (j_var 1) (j_var 2)) ja_nil)) (j_op op_powW om_pow j_int j_int))
    (jb_one (js_store (hu1 hr) (j_var 1) (j_var 2) (j_var 1) (j_var 2) (j_op op_mod om_mod (je_callTy call_int1 cm_int T.b_int (by decide +kernel) (ja_cons (je_item (hu1 hr) (j_var 1) (j_var 2)) ja_nil)) (j_op op_powW om_pow (j_op op_powW om_pow j_int j_int) j_int))))
    jb_nil)))
    (jb_cons (js_if (jt_cmp (op_eqE (hu0 hr)) om_eqE (j_var 1) (je_lst ja_nil))
    (jb_one (js_set 1 nd (je_lst (ja_cons j_int ja_nil))))
    jb_nil)
    (jb_one (js_ret (je_lst (ja_cons (j_var 1) (ja_cons j_int ja_nil))))))))
abbrev s_l_draw : Stmt := topS 28
theorem sc_l_draw : FnScope ["_law_source_here", "_law_limit", "_law_cells", "_law_turn", "_law_place", "_law_cell", "_law_number"] ["_law_source_here", "_law_limit"] (defScope s_l_draw) := ⟨rfl, rfl, rfl, by decide +kernel, rfl, by decide +kernel, by decide +kernel⟩
noncomputable def b_l_draw (ck : Tabl) : MS := (mSeq (mAsg (mVar 0) (nTup 2 (nCons (nName 2) (nCons (nName 3) nNil))))
    (mSeq (mAsg (mBin gMod (mCall gInt (mCons (mVar 3) mNil)) (mCall gLen (mCons (mVar 2) mNil))) (nName 4))
    (mSeq (mAsg (mBin gItem (mVar 2) (mVar 4)) (nName 5))
    (mSeq (mStore (mVar 0) (mC (.int 1)) (mBin gAdd (mVar 3) (mC (.int 1))))
    (mSeq (mIfS (mB (mBin gGe (mVar 5) (mBin gPow (mC (.int 10)) (mC (.int 18)))))
    (mSeq (mStore (mVar 2) (mVar 4) (mBin gDiv (mVar 5) (mVar 1)))
    (mRet (mBin gMod (mCall gInt (mCons (mVar 5) mNil)) (mVar 1))))
    mSkip)
    (mSeq (mAsg (mBin gMod (mCall gInt (mCons (mBin gAdd (mBin gAdd (mBin gMul (mBin gMod (mCall gInt (mCons (mVar 5) mNil)) (mC (.int 2147483629))) (mC (.int 48271))) (mBin gMul (mBin gMul (mVar 3) (mVar 3)) (mC (.int 69621)))) (mC (.int 11))) mNil)) (mC (.int 2147483647))) (nName 6))
    (mSeq (mAsg (mBin gMod (mCall gInt (mCons (mBin gMul (mVar 6) (mVar 6)) mNil)) (mC (.int 2147483629))) (nName 6))
    (mSeq (mAsg (mBin gMod (mCall gInt (mCons (mBin gMul (mVar 6) (mVar 6)) mNil)) (mC (.int 2147483587))) (nName 6))
    (mRet (mBin gMod (mCall gInt (mCons (mVar 6) mNil)) (mVar 1)))))))))))
noncomputable def f_l_draw (ck : Tabl) : MF := fun ds m => endOf (b_l_draw ck (startM 7 ds) m)
theorem ok_l_draw {M : Mode} {P : Program} {w : World} {K : PySem.W.Frag} {mg : Str → Option Value} {base : Heap} {k : Nat} {f : Addr} {fd : FuncData} {ck : Tabl} (Fu : Fun K "_law_draw" "_law_draw" s_l_draw f fd) (T : Txt K w mg) :
    FnOk P w K mg base (M.CX P w) (lv k + 1) f fd ["_law_source_here", "_law_limit"] (spM K 2 (f_l_draw ck)) :=
  have nd := sc_l_draw.nd
  fnx_ok (M := M) (g := b_l_draw ck) Fu sc_l_draw rfl (fun _ _ _ => rfl) fun cdv A outer s H E hr W tk hp =>
    (jb_cons (js_asg (j_var 0) (jg_tup rfl (jgs_cons (jg_name 2 nd) (jgs_cons (jg_name 3 nd) jgs_nil))))
    (jb_cons (js_set 4 nd (j_op op_mod om_mod (je_callTy call_int1 cm_int T.b_int (by decide +kernel) (ja_cons (j_var 3) ja_nil)) (je_callB cr_len cm_len T.b_len PySem.boot_len (ja_cons (j_var 2) ja_nil))))
    (jb_cons (js_set 5 nd (je_item (hu1 hr) (j_var 2) (j_var 4)))
    (jb_cons (js_store (hu1 hr) (j_var 0) j_int (j_var 0) j_int (j_op op_addA om_add (j_var 3) j_int))
    (jb_cons (js_if (jt_cmp op_ge om_ge (j_var 5) (j_op op_powW om_pow j_int j_int))
    (jb_cons (js_store (hu1 hr) (j_var 2) (j_var 4) (j_var 2) (j_var 4) (j_op op_fdivW om_div (j_var 5) (j_var 1)))
    (jb_one (js_ret (j_op op_mod om_mod (je_callTy call_int1 cm_int T.b_int (by decide +kernel) (ja_cons (j_var 5) ja_nil)) (j_var 1)))))
    jb_nil)
    (jb_cons (js_set 6 nd (j_op op_mod om_mod (je_callTy call_int1 cm_int T.b_int (by decide +kernel) (ja_cons (j_op op_addA om_add (j_op op_addA om_add (j_op op_mulA om_mul (j_op op_mod om_mod (je_callTy call_int1 cm_int T.b_int (by decide +kernel) (ja_cons (j_var 5) ja_nil)) j_int) j_int) (j_op op_mulA om_mul (j_op op_mulA om_mul (j_var 3) (j_var 3)) j_int)) j_int) ja_nil)) j_int))
    (jb_cons (js_set 6 nd (j_op op_mod om_mod (je_callTy call_int1 cm_int T.b_int (by decide +kernel) (ja_cons (j_op op_mulA om_mul (j_var 6) (j_var 6)) ja_nil)) j_int))
    (jb_cons (js_set 6 nd (j_op op_mod om_mod (je_callTy call_int1 cm_int T.b_int (by decide +kernel) (ja_cons (j_op op_mulA om_mul (j_var 6) (j_var 6)) ja_nil)) j_int))
    (jb_one (js_ret (j_op op_mod om_mod (je_callTy call_int1 cm_int T.b_int (by decide +kernel) (ja_cons (j_var 6) ja_nil)) (j_var 1))))))))))))
abbrev s_l_pick : Stmt := topS 29
theorem sc_l_pick : FnScope ["_law_source_here", "_law_values"] ["_law_source_here", "_law_values"] (defScope s_l_pick) := ⟨rfl, rfl, rfl, by decide +kernel, rfl, by decide +kernel, by decide +kernel⟩
noncomputable def b_l_pick (ck : Tabl) : MS := (mRet (mBin gItem (mVar 1) (mCall (ck.f .l_draw) (mCons (mVar 0) (mCons (mCall gLen (mCons (mVar 1) mNil)) mNil)))))
noncomputable def f_l_pick (ck : Tabl) : MF := fun ds m => endOf (b_l_pick ck (startM 2 ds) m)
theorem ok_l_pick {M : Mode} {P : Program} {w : World} {K : PySem.W.Frag} {mg : Str → Option Value} {base : Heap} {k : Nat} {f : Addr} {fd : FuncData} {ck : Tabl} (Fu : Fun K "_law_pick" "_law_pick" s_l_pick f fd) (T : Txt K w mg) (I_l_draw : FnX M P w K mg base (lv k) "_law_draw" 2 (ck.f .l_draw)) :
    FnOk P w K mg base (M.CX P w) (lv k + 1) f fd ["_law_source_here", "_law_values"] (spM K 2 (f_l_pick ck)) :=
  have nd := sc_l_pick.nd
  fnx_ok (M := M) (g := b_l_pick ck) Fu sc_l_pick rfl (fun _ _ _ => rfl) fun cdv A outer s H E hr W tk hp =>
    (jb_one (js_ret (je_item (hu1 hr) (j_var 1) (jx_call I_l_draw hr (Nat.le_refl _) tk (ja_cons (j_var 0) (ja_cons (je_callB cr_len cm_len T.b_len PySem.boot_len (ja_cons (j_var 1) ja_nil)) ja_nil)) (hlen := (mCons_len (mCons_len mNil_len)))))))
abbrev s_l_constant : Stmt := topS 30
theorem sc_l_constant : FnScope ["_law_source_here"] ["_law_source_here"] (defScope s_l_constant) := ⟨rfl, rfl, rfl, by decide +kernel, rfl, by decide +kernel, by decide +kernel⟩
noncomputable def b_l_constant (ck : Tabl) : MS := (mRet (mCall (ck.f .l_pick) (mCons (mVar 0) (mCons (mLst (mCons (mTup (mCons (mC (.str "none")) mNil)) (mCons (mTup (mCons (mC (.str "true")) mNil)) (mCons (mTup (mCons (mC (.str "object")) (mCons (mTup (mCons (mC (.str "name")) (mCons (mC (.str "a")) mNil))) mNil))) (mCons (mTup (mCons (mC (.str "object")) (mCons (mTup (mCons (mC (.str "name")) (mCons (mC (.str "b")) mNil))) mNil))) (mCons (mTup (mCons (mC (.str "false")) mNil)) mNil)))))) mNil))))
noncomputable def f_l_constant (ck : Tabl) : MF := fun ds m => endOf (b_l_constant ck (startM 1 ds) m)
theorem ok_l_constant {M : Mode} {P : Program} {w : World} {K : PySem.W.Frag} {mg : Str → Option Value} {base : Heap} {k : Nat} {f : Addr} {fd : FuncData} {ck : Tabl} (Fu : Fun K "_law_constant" "_law_constant" s_l_constant f fd) (T : Txt K w mg) (I_l_pick : FnX M P w K mg base (lv k) "_law_pick" 2 (ck.f .l_pick)) :
    FnOk P w K mg base (M.CX P w) (lv k + 1) f fd ["_law_source_here"] (spM K 1 (f_l_constant ck)) :=
  have nd := sc_l_constant.nd
  fnx_ok (M := M) (g := b_l_constant ck) Fu sc_l_constant rfl (fun _ _ _ => rfl) fun cdv A outer s H E hr W tk hp =>
    (jb_one (js_ret (jx_call I_l_pick hr (Nat.le_refl _) tk (ja_cons (j_var 0) (ja_cons (je_lst (ja_cons (je_tup (ja_cons j_str ja_nil)) (ja_cons (je_tup (ja_cons j_str ja_nil)) (ja_cons (je_tup (ja_cons j_str (ja_cons (je_tup (ja_cons j_str (ja_cons j_str ja_nil))) ja_nil))) (ja_cons (je_tup (ja_cons j_str (ja_cons (je_tup (ja_cons j_str (ja_cons j_str ja_nil))) ja_nil))) (ja_cons (je_tup (ja_cons j_str ja_nil)) ja_nil)))))) ja_nil)) (hlen := (mCons_len (mCons_len mNil_len))))))
abbrev s_l_operand : Stmt := topS 31
theorem sc_l_operand : FnScope ["_law_source_here", "_law_number", "_law_at"] ["_law_source_here", "_law_number"] (defScope s_l_operand) := ⟨rfl, rfl, rfl, by decide +kernel, rfl, by decide +kernel, by decide +kernel⟩
noncomputable def b_l_operand (ck : Tabl) : MS := (mSeq (mIfS (mAndT (mB (mBin gGt (mVar 1) (mC (.int 0)))) (mB (mBin gGt (mCall (ck.f .l_draw) (mCons (mVar 0) (mCons (mC (.int 3)) mNil))) (mC (.int 0)))))
    (mSeq (mAsg (mBin gSub (mVar 1) (mC (.int 1))) (nName 2))
    (mSeq (mIfS (mB (mBin (gEqA false) (mCall (ck.f .l_draw) (mCons (mVar 0) (mCons (mC (.int 3)) mNil))) (mC (.int 0))))
    (mAsg (mCall (ck.f .l_draw) (mCons (mVar 0) (mCons (mVar 1) mNil))) (nName 2))
    mSkip)
    (mRet (mTup (mCons (mC (.str "object")) (mCons (mTup (mCons (mC (.str "event")) (mCons (mVar 2) mNil))) mNil))))))
    mSkip)
    (mRet (mCall (ck.f .l_constant) (mCons (mVar 0) mNil))))
noncomputable def f_l_operand (ck : Tabl) : MF := fun ds m => endOf (b_l_operand ck (startM 3 ds) m)
theorem ok_l_operand {M : Mode} {P : Program} {w : World} {K : PySem.W.Frag} {mg : Str → Option Value} {base : Heap} {k : Nat} {f : Addr} {fd : FuncData} {ck : Tabl} (Fu : Fun K "_law_operand" "_law_operand" s_l_operand f fd) (T : Txt K w mg) (I_l_constant : FnX M P w K mg base (lv k) "_law_constant" 1 (ck.f .l_constant)) (I_l_draw : FnX M P w K mg base (lv k) "_law_draw" 2 (ck.f .l_draw)) :
    FnOk P w K mg base (M.CX P w) (lv k + 1) f fd ["_law_source_here", "_law_number"] (spM K 2 (f_l_operand ck)) :=
  have nd := sc_l_operand.nd
  fnx_ok (M := M) (g := b_l_operand ck) Fu sc_l_operand rfl (fun _ _ _ => rfl) fun cdv A outer s H E hr W tk hp =>
    (jb_cons (js_if (jw_and (jt_cmp op_gt om_gt (j_var 1) j_int) (jw_and1 (jt_cmp op_gt om_gt (jx_call I_l_draw hr (Nat.le_refl _) tk (ja_cons (j_var 0) (ja_cons j_int ja_nil)) (hlen := (mCons_len (mCons_len mNil_len)))) j_int))).jt
    (jb_cons (js_set 2 nd (j_op op_sub om_sub (j_var 1) j_int))
    (jb_cons (js_if (jt_cmp (op_eqA (hu64 hr)) om_eqA (jx_call I_l_draw hr (Nat.le_refl _) tk (ja_cons (j_var 0) (ja_cons j_int ja_nil)) (hlen := (mCons_len (mCons_len mNil_len)))) j_int)
    (jb_one (js_set 2 nd (jx_call I_l_draw hr (Nat.le_refl _) tk (ja_cons (j_var 0) (ja_cons (j_var 1) ja_nil)) (hlen := (mCons_len (mCons_len mNil_len))))))
    jb_nil)
    (jb_one (js_ret (je_tup (ja_cons j_str (ja_cons (je_tup (ja_cons j_str (ja_cons (j_var 2) ja_nil))) ja_nil)))))))
    jb_nil)
    (jb_one (js_ret (jx_call I_l_constant hr (Nat.le_refl _) tk (ja_cons (j_var 0) ja_nil) (hlen := (mCons_len mNil_len))))))
abbrev s_l_drawn_events : Stmt := topS 32
theorem sc_l_drawn_events : FnScope ["_law_source_here", "_law_many", "_law_found", "_law_number", "_law_values", "_law_k"] ["_law_source_here", "_law_many"] (defScope s_l_drawn_events) := ⟨rfl, rfl, rfl, by decide +kernel, rfl, by decide +kernel, by decide +kernel⟩
noncomputable def b_l_drawn_events (ck : Tabl) : MS := (mSeq (mAsg (mLst mNil) (nName 2))
    (mSeq (mFor (mRng (mCons (mVar 1) mNil)) (nName 3)
    (mIfS (mB (mBin (gEqA false) (mCall (ck.f .l_draw) (mCons (mVar 0) (mCons (mC (.int 3)) mNil))) (mC (.int 0))))
    (mSeq (mAsg (mLst (mCons (mCall (ck.f .l_operand) (mCons (mVar 0) (mCons (mVar 3) mNil))) (mCons (mCall (ck.f .l_operand) (mCons (mVar 0) (mCons (mVar 3) mNil))) mNil))) (nName 4))
    (mSeq (mIfS (mAndT (mB (mBin (gEqA true) (mVar 2) (mLst mNil))) (mAndT (mB (mBin (gEqA false) (mBin gItem (mBin gItem (mVar 2) (mNeg (mC (.int 1)))) (mC (.int 0))) (mC (.str "<")))) (mB (mBin (gEqA false) (mCall (ck.f .l_draw) (mCons (mVar 0) (mCons (mC (.int 2)) mNil))) (mC (.int 0))))))
    (mStore (mVar 4) (mC (.int 0)) (mBin gItem (mBin gItem (mBin gItem (mVar 2) (mNeg (mC (.int 1)))) (mC (.int 1))) (mC (.int 1))))
    mSkip)
    (mDrop (mBM gAppend (mVar 2) (mCons (mTup (mCons (mC (.str "<")) (mCons (mCall gTuple (mCons (mVar 4) mNil)) mNil))) mNil)))))
    (mSeq (mAsg (mLc (mRng (mCons (mCall (ck.f .l_draw) (mCons (mVar 0) (mCons (mC (.int 4)) mNil))) mNil)) (ngName 5) mYes (mCall (ck.f .l_operand) (mCons (mVar 0) (mCons (mVar 3) mNil))) [5]) (nName 4))
    (mDrop (mBM gAppend (mVar 2) (mCons (mTup (mCons (mCall (ck.f .l_pick) (mCons (mVar 0) (mCons (mLst (mCons (mC (.str "f")) (mCons (mC (.str "object")) (mCons (mC (.str "name")) mNil)))) mNil))) (mCons (mCall gTuple (mCons (mVar 4) mNil)) mNil))) mNil))))))
    (mRet (mVar 2))))
noncomputable def f_l_drawn_events (ck : Tabl) : MF := fun ds m => endOf (b_l_drawn_events ck (startM 6 ds) m)
theorem ok_l_drawn_events {M : Mode} {P : Program} {w : World} {K : PySem.W.Frag} {mg : Str → Option Value} {base : Heap} {k : Nat} {f : Addr} {fd : FuncData} {ck : Tabl} (Fu : Fun K "_law_drawn_events" "_law_drawn_events" s_l_drawn_events f fd) (T : Txt K w mg) (I_l_draw : FnX M P w K mg base (lv k) "_law_draw" 2 (ck.f .l_draw)) (I_l_operand : FnX M P w K mg base (lv k) "_law_operand" 2 (ck.f .l_operand)) (I_l_pick : FnX M P w K mg base (lv k) "_law_pick" 2 (ck.f .l_pick)) :
    FnOk P w K mg base (M.CX P w) (lv k + 1) f fd ["_law_source_here", "_law_many"] (spM K 2 (f_l_drawn_events ck)) :=
  have nd := sc_l_drawn_events.nd
  fnx_ok (M := M) (g := b_l_drawn_events ck) Fu sc_l_drawn_events rfl (fun _ _ _ => rfl) fun cdv A outer s H E hr W tk hp =>
    (jb_cons (js_set 2 nd (je_lst ja_nil))
    (jb_cons (js_for hp rfl (ji_rng1 T.b_range (ja_cons (j_var 1) ja_nil)) (jg_name 3 nd)
    (jb_one (js_if (jt_cmp (op_eqA (hu64 hr)) om_eqA (jx_call I_l_draw hr (Nat.le_refl _) tk (ja_cons (j_var 0) (ja_cons j_int ja_nil)) (hlen := (mCons_len (mCons_len mNil_len)))) j_int)
    (jb_cons (js_set 4 nd (je_lst (ja_cons (jx_call I_l_operand hr (Nat.le_refl _) tk (ja_cons (j_var 0) (ja_cons (j_var 3) ja_nil)) (hlen := (mCons_len (mCons_len mNil_len)))) (ja_cons (jx_call I_l_operand hr (Nat.le_refl _) tk (ja_cons (j_var 0) (ja_cons (j_var 3) ja_nil)) (hlen := (mCons_len (mCons_len mNil_len)))) ja_nil))))
    (jb_cons (js_if (jw_and (jt_cmp (op_neA (hu64 hr)) om_neA (j_var 2) (je_lst ja_nil)) (jw_and (jt_cmp (op_eqA (hu64 hr)) om_eqA (je_item (hu1 hr) (je_item (hu1 hr) (j_var 2) (je_neg j_int)) j_int) j_str) (jw_and1 (jt_cmp (op_eqA (hu64 hr)) om_eqA (jx_call I_l_draw hr (Nat.le_refl _) tk (ja_cons (j_var 0) (ja_cons j_int ja_nil)) (hlen := (mCons_len (mCons_len mNil_len)))) j_int)))).jt
    (jb_one (js_store (hu1 hr) (j_var 4) j_int (j_var 4) j_int (je_item (hu1 hr) (je_item (hu1 hr) (je_item (hu1 hr) (j_var 2) (je_neg j_int)) j_int) j_int)))
    jb_nil)
    (jb_one (js_expr (je_bmL PySem.F.slot_list_append PySem.F.type_list_append mt_append mm_append (j_var 2) (ja_cons (je_tup (ja_cons j_str (ja_cons (je_callTy call_tuple_of cm_tuple T.b_tuple (by decide +kernel) (ja_cons (j_var 4) ja_nil)) ja_nil))) ja_nil))))))
    (jb_cons (js_setLc 4 [("_law_k", 5)] rfl rfl nd (ji_rng1 T.b_range (ja_cons (jx_call I_l_draw hr (Nat.le_refl _) tk (ja_cons (j_var 0) (ja_cons j_int ja_nil)) (hlen := (mCons_len (mCons_len mNil_len)))) ja_nil)) (blkOk_by (N := ["_law_source_here", "_law_many", "_law_found", "_law_number", "_law_values", "_law_k"]) (sc := defScope s_l_drawn_events) (by decide +kernel)) (fun _ _ _ _ _ => (jn_name 5 nd)) (fun _ _ _ _ _ => jts_nil) (fun _ _ _ _ _ => (jx_call I_l_operand hr (Nat.le_refl _) M.tk0 (ja_cons (j_var 0) (ja_cons (j_var 3) ja_nil)) (hlen := (mCons_len (mCons_len mNil_len))))) (hgs_name))
    (jb_one (js_expr (je_bmL PySem.F.slot_list_append PySem.F.type_list_append mt_append mm_append (j_var 2) (ja_cons (je_tup (ja_cons (jx_call I_l_pick hr (Nat.le_refl _) tk (ja_cons (j_var 0) (ja_cons (je_lst (ja_cons j_str (ja_cons j_str (ja_cons j_str ja_nil)))) ja_nil)) (hlen := (mCons_len (mCons_len mNil_len)))) (ja_cons (je_callTy call_tuple_of cm_tuple T.b_tuple (by decide +kernel) (ja_cons (j_var 4) ja_nil)) ja_nil))) ja_nil))))))))
    (jb_one (js_ret (j_var 2)))))
abbrev s_l_answer : Stmt := topS 33
theorem sc_l_answer : FnScope ["_law_value"] ["_law_value"] (defScope s_l_answer) := ⟨rfl, rfl, rfl, by decide +kernel, rfl, by decide +kernel, by decide +kernel⟩
noncomputable def b_l_answer (ck : Tabl) : MS := (mSeq (mIfS (mAndT (mB (mBin (gEqA false) (mBin gItem (mVar 0) (mC (.int 0))) (mC (.str "object")))) (mB (mBin (gEqA false) (mBin gItem (mBin gItem (mVar 0) (mC (.int 1))) (mC (.int 0))) (mC (.str "event")))))
    (mRet (mBin gItem (mBin gItem (mVar 0) (mC (.int 1))) (mC (.int 1))))
    mSkip)
    (mRet (mC .non)))
noncomputable def f_l_answer (ck : Tabl) : MF := fun ds m => endOf (b_l_answer ck (startM 1 ds) m)
theorem ok_l_answer {M : Mode} {P : Program} {w : World} {K : PySem.W.Frag} {mg : Str → Option Value} {base : Heap} {k : Nat} {f : Addr} {fd : FuncData} {ck : Tabl} (Fu : Fun K "_law_answer" "_law_answer" s_l_answer f fd) (T : Txt K w mg) :
    FnOk P w K mg base (M.CX P w) (lv k + 1) f fd ["_law_value"] (spM K 1 (f_l_answer ck)) :=
  have nd := sc_l_answer.nd
  fnx_ok (M := M) (g := b_l_answer ck) Fu sc_l_answer rfl (fun _ _ _ => rfl) fun cdv A outer s H E hr W tk hp =>
    (jb_cons (js_if (jw_and (jt_cmp (op_eqA (hu64 hr)) om_eqA (je_item (hu1 hr) (j_var 0) j_int) j_str) (jw_and1 (jt_cmp (op_eqA (hu64 hr)) om_eqA (je_item (hu1 hr) (je_item (hu1 hr) (j_var 0) j_int) j_int) j_str))).jt
    (jb_one (js_ret (je_item (hu1 hr) (je_item (hu1 hr) (j_var 0) j_int) j_int)))
    jb_nil)
    (jb_one (js_ret j_non)))
abbrev s_l_fits : Stmt := topS 34
theorem sc_l_fits : FnScope ["_law_can_here", "_law_values", "_law_begin", "_law_end", "_law_answer_here", "_law_at"] ["_law_can_here", "_law_values", "_law_begin", "_law_end"] (defScope s_l_fits) := ⟨rfl, rfl, rfl, by decide +kernel, rfl, by decide +kernel, by decide +kernel⟩
noncomputable def b_l_fits (ck : Tabl) : MS := (mSeq (mIfS (mB (mBin gEqE (mVar 1) (mLst mNil)))
    (mRet (mBin (gEqA false) (mVar 2) (mVar 3)))
    mSkip)
    (mSeq (mAsg (mCall (ck.f .l_answer) (mCons (mBin gItem (mVar 1) (mC (.int 0))) mNil)) (nName 4))
    (mSeq (mIfS (mB (mBin gNotN (mVar 4) (mC .non)))
    (mSeq (mIfS (mOrT (mB (mBin gLt (mVar 4) (mVar 2))) (mOrT (mB (mBin gGe (mVar 4) (mVar 3))) (mNotT (mTru (mBin gItem (mBin gItem (mVar 0) (mVar 2)) (mBin gAdd (mVar 4) (mC (.int 1))))))))
    (mRet (mC (.bl false)))
    mSkip)
    (mRet (mCall (ck.f .l_fits) (mCons (mVar 0) (mCons (mSl (mVar 1) (mEnd (mC (.int 1))) mNo) (mCons (mBin gAdd (mVar 4) (mC (.int 1))) (mCons (mVar 3) mNil)))))))
    mSkip)
    (mSeq (mFor (mRng2 (mCons (mVar 2) (mCons (mBin gAdd (mVar 3) (mC (.int 1))) mNil))) (nName 5)
    (mIfS (mAndT (mTru (mBin gItem (mBin gItem (mVar 0) (mVar 2)) (mVar 5))) (mTru (mCall (ck.f .l_fits) (mCons (mVar 0) (mCons (mSl (mVar 1) (mEnd (mC (.int 1))) mNo) (mCons (mVar 5) (mCons (mVar 3) mNil)))))))
    (mRet (mC (.bl true)))
    mSkip))
    (mRet (mC (.bl false)))))))
noncomputable def f_l_fits (ck : Tabl) : MF := fun ds m => endOf (b_l_fits ck (startM 6 ds) m)
theorem ok_l_fits {M : Mode} {P : Program} {w : World} {K : PySem.W.Frag} {mg : Str → Option Value} {base : Heap} {k : Nat} {f : Addr} {fd : FuncData} {ck : Tabl} (Fu : Fun K "_law_fits" "_law_fits" s_l_fits f fd) (T : Txt K w mg) (I_l_answer : FnX M P w K mg base (lv k) "_law_answer" 1 (ck.f .l_answer)) (I_l_fits : FnX M P w K mg base (lv k) "_law_fits" 4 (ck.f .l_fits)) :
    FnOk P w K mg base (M.CX P w) (lv k + 1) f fd ["_law_can_here", "_law_values", "_law_begin", "_law_end"] (spM K 4 (f_l_fits ck)) :=
  have nd := sc_l_fits.nd
  fnx_ok (M := M) (g := b_l_fits ck) Fu sc_l_fits rfl (fun _ _ _ => rfl) fun cdv A outer s H E hr W tk hp =>
    (jb_cons (js_if (jt_cmp (op_eqE (hu0 hr)) om_eqE (j_var 1) (je_lst ja_nil))
    (jb_one (js_ret (j_cmp (op_eqA (hu64 hr)) om_eqA (j_var 2) (j_var 3))))
    jb_nil)
    (jb_cons (js_set 4 nd (jx_call I_l_answer hr (Nat.le_refl _) tk (ja_cons (je_item (hu1 hr) (j_var 1) j_int) ja_nil) (hlen := (mCons_len mNil_len))))
    (jb_cons (js_if (jt_cmp op_notN om_notN (j_var 4) j_non)
    (jb_cons (js_if (jw_or (jt_cmp op_lt om_lt (j_var 4) (j_var 2)) (jw_or (jt_cmp op_ge om_ge (j_var 4) (j_var 3)) (jw_or1 (jt_not (jt_tru (je_item (hu1 hr) (je_item (hu1 hr) (j_var 0) (j_var 2)) (j_op op_addA om_add (j_var 4) j_int))))))).jt
    (jb_one (js_ret j_bl))
    jb_nil)
    (jb_one (js_ret (jx_call I_l_fits hr (Nat.le_refl _) tk (ja_cons (j_var 0) (ja_cons (je_sl (j_var 1) (jo_end j_int) jo_no) (ja_cons (j_op op_addA om_add (j_var 4) j_int) (ja_cons (j_var 3) ja_nil)))) (hlen := (mCons_len (mCons_len (mCons_len (mCons_len mNil_len)))))))))
    jb_nil)
    (jb_cons (js_for hp rfl (ji_rng2 T.b_range (ja_cons (j_var 2) (ja_cons (j_op op_addA om_add (j_var 3) j_int) ja_nil))) (jg_name 5 nd)
    (jb_one (js_if (jw_and (jt_tru (je_item (hu1 hr) (je_item (hu1 hr) (j_var 0) (j_var 2)) (j_var 5))) (jw_and1 (jt_tru (jx_call I_l_fits hr (Nat.le_refl _) tk (ja_cons (j_var 0) (ja_cons (je_sl (j_var 1) (jo_end j_int) jo_no) (ja_cons (j_var 5) (ja_cons (j_var 3) ja_nil)))) (hlen := (mCons_len (mCons_len (mCons_len (mCons_len mNil_len))))))))).jt
    (jb_one (js_ret j_bl))
    jb_nil)))
    (jb_one (js_ret j_bl))))))
abbrev s_l_links : Stmt := topS 35
theorem sc_l_links : FnScope ["_law_events", "_law_can_here", "_law_begin", "_law_last", "_law_links_here", "_law_word", "_law_values", "_law_found", "_law_at"] ["_law_events", "_law_can_here", "_law_begin", "_law_last", "_law_links_here"] (defScope s_l_links) := ⟨rfl, rfl, rfl, by decide +kernel, rfl, by decide +kernel, by decide +kernel⟩
noncomputable def b_l_links (ck : Tabl) : MS := (mSeq (mAsg (mBin gItem (mVar 0) (mVar 3)) (nTup 2 (nCons (nName 5) (nCons (nName 6) nNil))))
    (mSeq (mIfS (mTru (mCall (ck.f .l_fits) (mCons (mVar 1) (mCons (mCall gListA (mCons (mVar 6) mNil)) (mCons (mVar 2) (mCons (mVar 3) mNil))))))
    (mRet (mC (.int 1)))
    mSkip)
    (mSeq (mAsg (mC (.int 9)) (nName 7))
    (mSeq (mFor (mRng2 (mCons (mVar 2) (mCons (mVar 3) mNil))) (nName 8)
    (mIfS (mAndT (mB (mBin (gInB false) (mBin gItem (mBin gItem (mVar 0) (mVar 8)) (mC (.int 0))) (mLst (mCons (mC (.str "<")) (mCons (mC (.str "<=")) (mCons (mC (.str ">")) (mCons (mC (.str ">=")) (mCons (mC (.str "==")) (mCons (mC (.str "!=")) mNil))))))))) (mB (mBin (gEqA false) (mBin gItem (mBin gItem (mBin gItem (mVar 0) (mVar 8)) (mC (.int 1))) (mC (.int 1))) (mBin gItem (mVar 6) (mC (.int 0))))))
    (mIfS (mTru (mCall (ck.f .l_fits) (mCons (mVar 1) (mCons (mLst (mCons (mBin gItem (mVar 6) (mC (.int 1))) mNil)) (mCons (mBin gAdd (mVar 8) (mC (.int 1))) (mCons (mVar 3) mNil))))))
    (mAsg (mCall gMin (mCons (mVar 7) (mCons (mBin gAdd (mC (.int 1)) (mBin gItem (mBin gItem (mVar 4) (mVar 2)) (mVar 8))) mNil))) (nName 7))
    mSkip)
    mSkip))
    (mRet (mVar 7))))))
noncomputable def f_l_links (ck : Tabl) : MF := fun ds m => endOf (b_l_links ck (startM 9 ds) m)
theorem ok_l_links {M : Mode} {P : Program} {w : World} {K : PySem.W.Frag} {mg : Str → Option Value} {base : Heap} {k : Nat} {f : Addr} {fd : FuncData} {ck : Tabl} (Fu : Fun K "_law_links" "_law_links" s_l_links f fd) (T : Txt K w mg) (I_l_fits : FnX M P w K mg base (lv k) "_law_fits" 4 (ck.f .l_fits)) :
    FnOk P w K mg base (M.CX P w) (lv k + 1) f fd ["_law_events", "_law_can_here", "_law_begin", "_law_last", "_law_links_here"] (spM K 5 (f_l_links ck)) :=
  have nd := sc_l_links.nd
  fnx_ok (M := M) (g := b_l_links ck) Fu sc_l_links rfl (fun _ _ _ => rfl) fun cdv A outer s H E hr W tk hp =>
    (jb_cons (js_asg (je_item (hu1 hr) (j_var 0) (j_var 3)) (jg_tup rfl (jgs_cons (jg_name 5 nd) (jgs_cons (jg_name 6 nd) jgs_nil))))
    (jb_cons (js_if (jt_tru (jx_call I_l_fits hr (Nat.le_refl _) tk (ja_cons (j_var 1) (ja_cons (je_callTy (cr_listA rfl) cm_listA T.b_list (by decide +kernel) (ja_cons (j_var 6) ja_nil)) (ja_cons (j_var 2) (ja_cons (j_var 3) ja_nil)))) (hlen := (mCons_len (mCons_len (mCons_len (mCons_len mNil_len)))))))
    (jb_one (js_ret j_int))
    jb_nil)
    (jb_cons (js_set 7 nd j_int)
    (jb_cons (js_for hp rfl (ji_rng2 T.b_range (ja_cons (j_var 2) (ja_cons (j_var 3) ja_nil))) (jg_name 8 nd)
    (jb_one (js_if (jw_and (jt_inB (hu1 hr) (hu65 hr) (je_item (hu1 hr) (je_item (hu1 hr) (j_var 0) (j_var 8)) j_int) (je_lst (ja_cons j_str (ja_cons j_str (ja_cons j_str (ja_cons j_str (ja_cons j_str (ja_cons j_str ja_nil)))))))) (jw_and1 (jt_cmp (op_eqA (hu64 hr)) om_eqA (je_item (hu1 hr) (je_item (hu1 hr) (je_item (hu1 hr) (j_var 0) (j_var 8)) j_int) j_int) (je_item (hu1 hr) (j_var 6) j_int)))).jt
    (jb_one (js_if (jt_tru (jx_call I_l_fits hr (Nat.le_refl _) tk (ja_cons (j_var 1) (ja_cons (je_lst (ja_cons (je_item (hu1 hr) (j_var 6) j_int) ja_nil)) (ja_cons (j_op op_addA om_add (j_var 8) j_int) (ja_cons (j_var 3) ja_nil)))) (hlen := (mCons_len (mCons_len (mCons_len (mCons_len mNil_len)))))))
    (jb_one (js_set 7 nd (je_callB (MI.cr_min rfl) cm_min T.b_min (by decide +kernel) (ja_cons (j_var 7) (ja_cons (j_op op_addA om_add j_int (je_item (hu1 hr) (je_item (hu1 hr) (j_var 4) (j_var 2)) (j_var 8))) ja_nil)))))
    jb_nil))
    jb_nil)))
    (jb_one (js_ret (j_var 7)))))))
abbrev s_l_can : Stmt := topS 36
theorem sc_l_can : FnScope ["_law_events", "_law_many", "_law_can_here", "_law_links_here", "_law_wide", "_law_begin", "_law_last", "_law_cuts", "_law_end", "_law_right_here", "_law_at"] ["_law_events"] (defScope s_l_can) := ⟨rfl, rfl, rfl, by decide +kernel, rfl, by decide +kernel, by decide +kernel⟩
noncomputable def b_l_can (ck : Tabl) : MS := (mSeq (mAsg (mCall gLen (mCons (mVar 0) mNil)) (nName 1))
    (mSeq (mAsg (mLc (mRng (mCons (mBin gAdd (mVar 1) (mC (.int 1))) mNil)) (ngName 5) mYes (mLc (mRng (mCons (mBin gAdd (mVar 1) (mC (.int 1))) mNil)) (ngName 8) mYes (mBin (gEqA false) (mVar 5) (mVar 8)) [8]) [5]) (nName 2))
    (mSeq (mAsg (mLc (mRng (mCons (mBin gAdd (mVar 1) (mC (.int 1))) mNil)) (ngName 5) mYes (mBin gMul (mLst (mCons (mC (.int 9)) mNil)) (mBin gAdd (mVar 1) (mC (.int 1)))) [5]) (nName 3))
    (mSeq (mFor (mRng2 (mCons (mC (.int 1)) (mCons (mBin gAdd (mVar 1) (mC (.int 1))) mNil))) (nName 4)
    (mFor (mRng (mCons (mBin gSub (mBin gAdd (mVar 1) (mC (.int 1))) (mVar 4)) mNil)) (nName 5)
    (mSeq (mAsg (mBin gSub (mBin gAdd (mVar 5) (mVar 4)) (mC (.int 1))) (nName 6))
    (mSeq (mIfS (mB (mBin (gInB false) (mBin gItem (mBin gItem (mVar 0) (mVar 6)) (mC (.int 0))) (mLst (mCons (mC (.str "<")) (mCons (mC (.str "<=")) (mCons (mC (.str ">")) (mCons (mC (.str ">=")) (mCons (mC (.str "==")) (mCons (mC (.str "!=")) mNil)))))))))
    (mSeq (mStore (mBin gItem (mVar 3) (mVar 5)) (mVar 6) (mCall (ck.f .l_links) (mCons (mVar 0) (mCons (mVar 2) (mCons (mVar 5) (mCons (mVar 6) (mCons (mVar 3) mNil)))))))
    (mAsg (mBin gLt (mBin gItem (mBin gItem (mVar 3) (mVar 5)) (mVar 6)) (mC (.int 5))) (nName 9)))
    (mAsg (mCall (ck.f .l_fits) (mCons (mVar 2) (mCons (mCall gListA (mCons (mBin gItem (mBin gItem (mVar 0) (mVar 6)) (mC (.int 1))) mNil)) (mCons (mVar 5) (mCons (mVar 6) mNil))))) (nName 9)))
    (mSeq (mAsg (mLc (mRng2 (mCons (mBin gAdd (mVar 5) (mC (.int 1))) (mCons (mBin gAdd (mVar 6) (mC (.int 1))) mNil))) (ngName 10) (mAndT (mTru (mBin gItem (mBin gItem (mVar 2) (mVar 5)) (mVar 10))) (mTru (mBin gItem (mBin gItem (mVar 2) (mVar 10)) (mBin gAdd (mVar 6) (mC (.int 1)))))) (mVar 10) [10]) (nName 7))
    (mStore (mBin gItem (mVar 2) (mVar 5)) (mBin gAdd (mVar 6) (mC (.int 1))) (mOr (mVar 9) (mBin (gEqA true) (mVar 7) (mLst mNil)))))))))
    (mRet (mBin gItem (mVar 2) (mC (.int 0))))))))
noncomputable def f_l_can (ck : Tabl) : MF := fun ds m => endOf (b_l_can ck (startM 11 ds) m)
theorem ok_l_can {M : Mode} {P : Program} {w : World} {K : PySem.W.Frag} {mg : Str → Option Value} {base : Heap} {k : Nat} {f : Addr} {fd : FuncData} {ck : Tabl} (Fu : Fun K "_law_can" "_law_can" s_l_can f fd) (T : Txt K w mg) (I_l_fits : FnX M P w K mg base (lv k) "_law_fits" 4 (ck.f .l_fits)) (I_l_links : FnX M P w K mg base (lv k) "_law_links" 5 (ck.f .l_links)) :
    FnOk P w K mg base (M.CX P w) (lv k + 1) f fd ["_law_events"] (spM K 1 (f_l_can ck)) :=
  have nd := sc_l_can.nd
  fnx_ok (M := M) (g := b_l_can ck) Fu sc_l_can rfl (fun _ _ _ => rfl) fun cdv A outer s H E hr W tk hp =>
    (jb_cons (js_set 1 nd (je_callB cr_len cm_len T.b_len PySem.boot_len (ja_cons (j_var 0) ja_nil)))
    (jb_cons (js_set 2 nd (je_lc [("_law_begin", 5)] rfl rfl nd (ji_rng1 T.b_range (ja_cons (j_op op_addA om_add (j_var 1) j_int) ja_nil)) (blkOk_by (N := ["_law_events", "_law_many", "_law_can_here", "_law_links_here", "_law_wide", "_law_begin", "_law_last", "_law_cuts", "_law_end", "_law_right_here", "_law_at"]) (sc := defScope s_l_can) (by decide +kernel)) (fun _ _ _ _ _ => (jn_name 5 nd)) (fun _ _ _ _ _ => jts_nil) (fun _ _ _ _ _ => (je_lc [("_law_end", 8)] rfl rfl nd (ji_rng1 T.b_range (ja_cons (j_op op_addA om_add (j_var 1) j_int) ja_nil)) (blkOk_by (by kernel_rfl)) (fun _ _ _ _ _ => (jn_name 8 nd)) (fun _ _ _ _ _ => jts_nil) (fun _ _ _ _ _ => (j_cmp (op_eqA (hu64 hr)) om_eqA (j_var 5) (j_var 8))) (hgs_name))) (hgs_name)))
    (jb_cons (js_setLc 3 [("_law_begin", 5)] rfl rfl nd (ji_rng1 T.b_range (ja_cons (j_op op_addA om_add (j_var 1) j_int) ja_nil)) (blkOk_by (N := ["_law_events", "_law_many", "_law_can_here", "_law_links_here", "_law_wide", "_law_begin", "_law_last", "_law_cuts", "_law_end", "_law_right_here", "_law_at"]) (sc := defScope s_l_can) (by decide +kernel)) (fun _ _ _ _ _ => (jn_name 5 nd)) (fun _ _ _ _ _ => jts_nil) (fun _ _ _ _ _ => (j_op op_mulA om_mul (je_lst (ja_cons j_int ja_nil)) (j_op op_addA om_add (j_var 1) j_int))) (hgs_name))
    (jb_cons (js_for hp rfl (ji_rng2 T.b_range (ja_cons j_int (ja_cons (j_op op_addA om_add (j_var 1) j_int) ja_nil))) (jg_name 4 nd)
    (jb_one (js_for hp rfl (ji_rng1 T.b_range (ja_cons (j_op op_sub om_sub (j_op op_addA om_add (j_var 1) j_int) (j_var 4)) ja_nil)) (jg_name 5 nd)
    (jb_cons (js_set 6 nd (j_op op_sub om_sub (j_op op_addA om_add (j_var 5) (j_var 4)) j_int))
    (jb_cons (js_if (jt_inB (hu1 hr) (hu65 hr) (je_item (hu1 hr) (je_item (hu1 hr) (j_var 0) (j_var 6)) j_int) (je_lst (ja_cons j_str (ja_cons j_str (ja_cons j_str (ja_cons j_str (ja_cons j_str (ja_cons j_str ja_nil))))))))
    (jb_cons (js_store (hu1 hr) (je_item (hu1 hr) (j_var 3) (j_var 5)) (j_var 6) (je_item (hu1 hr) (j_var 3) (j_var 5)) (j_var 6) (jx_call I_l_links hr (Nat.le_refl _) tk (ja_cons (j_var 0) (ja_cons (j_var 2) (ja_cons (j_var 5) (ja_cons (j_var 6) (ja_cons (j_var 3) ja_nil))))) (hlen := (mCons_len (mCons_len (mCons_len (mCons_len (mCons_len mNil_len))))))))
    (jb_one (js_set 9 nd (j_cmp op_lt om_lt (je_item (hu1 hr) (je_item (hu1 hr) (j_var 3) (j_var 5)) (j_var 6)) j_int))))
    (jb_one (js_set 9 nd (jx_call I_l_fits hr (Nat.le_refl _) tk (ja_cons (j_var 2) (ja_cons (je_callTy (cr_listA rfl) cm_listA T.b_list (by decide +kernel) (ja_cons (je_item (hu1 hr) (je_item (hu1 hr) (j_var 0) (j_var 6)) j_int) ja_nil)) (ja_cons (j_var 5) (ja_cons (j_var 6) ja_nil)))) (hlen := (mCons_len (mCons_len (mCons_len (mCons_len mNil_len)))))))))
    (jb_cons (js_setLc 7 [("_law_at", 10)] rfl rfl nd (ji_rng2 T.b_range (ja_cons (j_op op_addA om_add (j_var 5) j_int) (ja_cons (j_op op_addA om_add (j_var 6) j_int) ja_nil))) (blkOk_by (N := ["_law_events", "_law_many", "_law_can_here", "_law_links_here", "_law_wide", "_law_begin", "_law_last", "_law_cuts", "_law_end", "_law_right_here", "_law_at"]) (sc := defScope s_l_can) (by decide +kernel)) (fun _ _ _ _ _ => (jn_name 10 nd)) (fun _ _ _ _ _ => (jts_one (jw_and (jt_tru (je_item (hu1 hr) (je_item (hu1 hr) (j_var 2) (j_var 5)) (j_var 10))) (jw_and1 (jt_tru (je_item (hu1 hr) (je_item (hu1 hr) (j_var 2) (j_var 10)) (j_op op_addA om_add (j_var 6) j_int))))).jt)) (fun _ _ _ _ _ => (j_var 10)) (hgs_name))
    (jb_one (js_store (hu1 hr) (je_item (hu1 hr) (j_var 2) (j_var 5)) (j_op op_addA om_add (j_var 6) j_int) (je_item (hu1 hr) (j_var 2) (j_var 5)) (j_op op_addA om_add (j_var 6) j_int) (je_or (j_var 9) (je_one (j_cmp (op_neA (hu64 hr)) om_neA (j_var 7) (je_lst ja_nil))))))))))))
    (jb_one (js_ret (je_item (hu1 hr) (j_var 2) j_int)))))))
abbrev s_l_wrong : Stmt := topS 37
theorem sc_l_wrong : FnScope ["_law_events", "_law_can_here", "_law_number"] ["_law_events"] (defScope s_l_wrong) := ⟨rfl, rfl, rfl, by decide +kernel, rfl, by decide +kernel, by decide +kernel⟩
noncomputable def b_l_wrong (ck : Tabl) : MS := (mSeq (mAsg (mCall (ck.f .l_can) (mCons (mVar 0) mNil)) (nName 1))
    (mSeq (mFor (mRng (mCons (mCall gLen (mCons (mVar 0) mNil)) mNil)) (nName 2)
    (mIfS (mNotT (mTru (mBin gItem (mVar 1) (mBin gAdd (mVar 2) (mC (.int 1))))))
    (mRet (mVar 2))
    mSkip))
    (mRet (mC .non))))
noncomputable def f_l_wrong (ck : Tabl) : MF := fun ds m => endOf (b_l_wrong ck (startM 3 ds) m)
theorem ok_l_wrong {M : Mode} {P : Program} {w : World} {K : PySem.W.Frag} {mg : Str → Option Value} {base : Heap} {k : Nat} {f : Addr} {fd : FuncData} {ck : Tabl} (Fu : Fun K "_law_wrong" "_law_wrong" s_l_wrong f fd) (T : Txt K w mg) (I_l_can : FnX M P w K mg base (lv k) "_law_can" 1 (ck.f .l_can)) :
    FnOk P w K mg base (M.CX P w) (lv k + 1) f fd ["_law_events"] (spM K 1 (f_l_wrong ck)) :=
  have nd := sc_l_wrong.nd
  fnx_ok (M := M) (g := b_l_wrong ck) Fu sc_l_wrong rfl (fun _ _ _ => rfl) fun cdv A outer s H E hr W tk hp =>
    (jb_cons (js_set 1 nd (jx_call I_l_can hr (Nat.le_refl _) tk (ja_cons (j_var 0) ja_nil) (hlen := (mCons_len mNil_len))))
    (jb_cons (js_for hp rfl (ji_rng1 T.b_range (ja_cons (je_callB cr_len cm_len T.b_len PySem.boot_len (ja_cons (j_var 0) ja_nil)) ja_nil)) (jg_name 2 nd)
    (jb_one (js_if (jt_not (jt_tru (je_item (hu1 hr) (j_var 1) (j_op op_addA om_add (j_var 2) j_int))))
    (jb_one (js_ret (j_var 2)))
    jb_nil)))
    (jb_one (js_ret j_non))))
abbrev s_l_due : Stmt := topS 38
theorem sc_l_due : FnScope ["_law_events", "_law_found", "_law_number", "_law_last"] ["_law_events"] (defScope s_l_due) := ⟨rfl, rfl, rfl, by decide +kernel, rfl, by decide +kernel, by decide +kernel⟩
noncomputable def b_l_due (ck : Tabl) : MS := (mSeq (mAsg (mLst mNil) (nName 1))
    (mSeq (mFor (mRng (mCons (mCall gLen (mCons (mVar 0) mNil)) mNil)) (nName 2)
    (mSeq (mAsg (mTup (mCons (mC (.str "q")) (mCons (mTup (mCons (mTup (mCons (mC (.str "object")) (mCons (mTup (mCons (mC (.str "event")) (mCons (mVar 2) mNil))) mNil))) (mCons (mTup (mCons (mC (.str "none")) mNil)) mNil))) mNil))) (nName 3))
    (mIfS (mB (mBin gIsN (mCall (ck.f .l_wrong) (mCons (mBin gAdd (mVar 0) (mLst (mCons (mVar 3) mNil))) mNil)) (mC .non)))
    (mDrop (mBM gAppend (mVar 1) (mCons (mVar 2) mNil)))
    mSkip)))
    (mRet (mVar 1))))
noncomputable def f_l_due (ck : Tabl) : MF := fun ds m => endOf (b_l_due ck (startM 4 ds) m)
theorem ok_l_due {M : Mode} {P : Program} {w : World} {K : PySem.W.Frag} {mg : Str → Option Value} {base : Heap} {k : Nat} {f : Addr} {fd : FuncData} {ck : Tabl} (Fu : Fun K "_law_due" "_law_due" s_l_due f fd) (T : Txt K w mg) (I_l_wrong : FnX M P w K mg base (lv k) "_law_wrong" 1 (ck.f .l_wrong)) :
    FnOk P w K mg base (M.CX P w) (lv k + 1) f fd ["_law_events"] (spM K 1 (f_l_due ck)) :=
  have nd := sc_l_due.nd
  fnx_ok (M := M) (g := b_l_due ck) Fu sc_l_due rfl (fun _ _ _ => rfl) fun cdv A outer s H E hr W tk hp =>
    (jb_cons (js_set 1 nd (je_lst ja_nil))
    (jb_cons (js_for hp rfl (ji_rng1 T.b_range (ja_cons (je_callB cr_len cm_len T.b_len PySem.boot_len (ja_cons (j_var 0) ja_nil)) ja_nil)) (jg_name 2 nd)
    (jb_cons (js_set 3 nd (je_tup (ja_cons j_str (ja_cons (je_tup (ja_cons (je_tup (ja_cons j_str (ja_cons (je_tup (ja_cons j_str (ja_cons (j_var 2) ja_nil))) ja_nil))) (ja_cons (je_tup (ja_cons j_str ja_nil)) ja_nil))) ja_nil))))
    (jb_one (js_if (jt_cmp op_isN om_isN (jx_call I_l_wrong hr (Nat.le_refl _) tk (ja_cons (j_op op_addA om_add (j_var 0) (je_lst (ja_cons (j_var 3) ja_nil))) ja_nil) (hlen := (mCons_len mNil_len))) j_non)
    (jb_one (js_expr (je_bmL PySem.F.slot_list_append PySem.F.type_list_append mt_append mm_append (j_var 1) (ja_cons (j_var 2) ja_nil))))
    jb_nil))))
    (jb_one (js_ret (j_var 1)))))
abbrev s_l_right : Stmt := topS 39
theorem sc_l_right : FnScope ["_law_events", "_law_wrong_here", "_law_caught", "_law_found", "e", "_law_one"] ["_law_events"] (defScope s_l_right) := ⟨rfl, rfl, rfl, by decide +kernel, rfl, by decide +kernel, by decide +kernel⟩
noncomputable def b_l_right (ck : Tabl) : MS := (mSeq (mAsg (mCall (ck.f .l_wrong) (mCons (mVar 0) mNil)) (nName 1))
    (mSeq (mAsg (mC .non) (nName 2))
    (mSeq (mAsg (mC .non) (nName 3))
    (mSeq (mTryK p_OperandError 4 2 (mAsg (mCall (ck.f .open_answers) (mCons (mVar 0) mNil)) (nName 3)))
    (mSeq (mIfS (mB (mBin gIsN (mVar 1) (mC .non)))
    (mSeq (mIfS (mOrT (mB (mBin gNotN (mVar 2) (mC .non))) (mOrT (mB (mBin (gEqA true) (mVar 3) (mCall (ck.f .l_due) (mCons (mVar 0) mNil)))) (mB (mBin (gEqA true) (mLc (mAnyI (mVar 3)) (ngName 5) (mTru (mIsi "bool" (mVar 5))) (mVar 5) [5]) (mLst mNil)))))
    (mRet (mC (.bl false)))
    mSkip)
    (mSeq (mDrop (mBM gAppend (mVar 3) (mCons (mC .non) mNil)))
    (mRet (mBin (gEqA false) (mCall (ck.f .open_answers) (mCons (mVar 0) mNil)) (mSl (mVar 3) mNo (mEnd (mNeg (mC (.int 1)))))))))
    mSkip)
    (mSeq (mIfS (mOrT (mNotT (mTru (mIsx p_NoExpressionFor (mVar 2)))) (mTru (mIsx p_InvalidEvents (mVar 2))))
    (mRet (mC (.bl false)))
    mSkip)
    (mRet (mAnd (mNot (mIsi "bool" (mXfl px_index "index" (mVar 2)))) (mAnd (mBin (gEqA false) (mXfl px_index "index" (mVar 2)) (mVar 1)) (mIsx p_ValueError (mVar 2)))))))))))
noncomputable def f_l_right (ck : Tabl) : MF := fun ds m => endOf (b_l_right ck (startM 6 ds) m)
theorem ok_l_right {P : Program} {w : World} {K : PySem.W.Frag} {mg : Str → Option Value} {base : Heap} {k : Nat} {f : Addr} {fd : FuncData} {ck : Tabl} (Fu : Fun K "_law_right" "_law_right" s_l_right f fd) (T : Txt K w mg) (I_l_due : FnX M2 P w K mg base (lv k) "_law_due" 1 (ck.f .l_due)) (I_l_wrong : FnX M2 P w K mg base (lv k) "_law_wrong" 1 (ck.f .l_wrong)) (I_open_answers : FnX M2 P w K mg base (lv k) "open_answers" 1 (ck.f .open_answers)) :
    FnOk P w K mg base (M2.CX P w) (lv k + 1) f fd ["_law_events"] (spM K 1 (f_l_right ck)) :=
  have nd := sc_l_right.nd
  fnx_ok (M := M2) (g := b_l_right ck) Fu sc_l_right rfl (fun _ _ _ => rfl) fun cdv A outer s H E hr W tk hp =>
    (jb_cons (js_set 1 nd (jx_call I_l_wrong hr (Nat.le_refl _) tk (ja_cons (j_var 0) ja_nil) (hlen := (mCons_len mNil_len))))
    (jb_cons (js_set 2 nd j_non)
    (jb_cons (js_set 3 nd j_non)
    (jb_cons (jx_tryKN 4 2 rfl rfl rfl nd T.h_OperandError tk (fun W tk_pn xe tk hp => (jb_one (js_set 3 nd (jx_call I_open_answers hr (Nat.le_refl _) tk (ja_cons (j_var 0) ja_nil) (hlen := (mCons_len mNil_len)))))))
    (jb_cons (js_if (jt_cmp op_isN om_isN (j_var 1) j_non)
    (jb_cons (js_if (jw_or (jt_cmp op_notN om_notN (j_var 2) j_non) (jw_or (jt_cmp (op_neA (hu64 hr)) om_neA (j_var 3) (jx_call I_l_due hr (Nat.le_refl _) tk (ja_cons (j_var 0) ja_nil) (hlen := (mCons_len mNil_len)))) (jw_or1 (jt_cmp (op_neA (hu64 hr)) om_neA (je_lc [("_law_one", 5)] rfl rfl nd (ji_any (j_var 3)) (blkOk_by (N := ["_law_events", "_law_wrong_here", "_law_caught", "_law_found", "e", "_law_one"]) (sc := defScope s_l_right) (by decide +kernel)) (fun _ _ _ _ _ => (jn_name 5 nd)) (fun _ _ _ _ _ => (jts_one (jt_tru (je_isi "bool" (j_var 5) T.b_isinstance T.b_bool (by decide +kernel))))) (fun _ _ _ _ _ => (j_var 5)) (hgs_name)) (je_lst ja_nil))))).jt
    (jb_one (js_ret j_bl))
    jb_nil)
    (jb_cons (js_expr (je_bmL PySem.F.slot_list_append PySem.F.type_list_append mt_append mm_append (j_var 3) (ja_cons j_non ja_nil)))
    (jb_one (js_ret (j_cmp (op_eqA (hu64 hr)) om_eqA (jx_call I_open_answers hr (Nat.le_refl _) tk (ja_cons (j_var 0) ja_nil) (hlen := (mCons_len mNil_len))) (je_sl (j_var 3) jo_no (jo_end (je_neg j_int))))))))
    jb_nil)
    (jb_cons (js_if (jw_or (jt_not (jt_tru (je_isxN (j_var 2) T.i_NoExpressionFor T.b_isinstance))) (jw_or1 (jt_tru (je_isxN (j_var 2) T.i_InvalidEvents T.b_isinstance)))).jt
    (jb_one (js_ret j_bl))
    jb_nil)
    (jb_one (js_ret (je_and (je_not (je_isi "bool" (je_xfl T.xf_index (j_var 2)) T.b_isinstance T.b_bool (by decide +kernel))) (je_and (j_cmp (op_eqA (hu64 hr)) om_eqA (je_xfl T.xf_index (j_var 2)) (j_var 1)) (je_one (je_isxN (j_var 2) T.i_ValueError T.b_isinstance))))))))))))
abbrev s_law : Stmt := topS 40
theorem sc_law : FnScope ["_law_script", "_law_source_here", "_law_turn", "_law_f", "_law_g", "_law_h", "_law_x", "_law_begin", "_law_events", "_law_kept", "_law_wrong_here", "_law_k"] ["_law_script"] (defScope s_law) := ⟨rfl, rfl, rfl, by decide +kernel, rfl, by decide +kernel, by decide +kernel⟩
noncomputable def b_law (ck : Tabl) : MS := (mSeq (mAsg (mCall (ck.f .l_source) (mCons (mVar 0) mNil)) (nName 1))
    (mSeq (mFor (mRng (mCons (mC (.int 30)) mNil)) (nName 2)
    (mSeq (mAsg (mCall (ck.f .l_drawn_events) (mCons (mVar 1) (mCons (mCall (ck.f .l_draw) (mCons (mVar 1) (mCons (mC (.int 7)) mNil))) mNil))) (nName 8))
    (mSeq (mAsg (mCall gListA (mCons (mVar 8) mNil)) (nName 9))
    (mSeq (mIfS (mOrT (mNotT (mTru (mCall (ck.f .l_right) (mCons (mVar 8) mNil)))) (mB (mBin (gEqA true) (mVar 8) (mVar 9))))
    (mRet (mC (.bl false)))
    mSkip)
    (mSeq (mAsg (mCall (ck.f .l_wrong) (mCons (mVar 8) mNil)) (nName 10))
    (mIfS (mAndT (mB (mBin gNotN (mVar 10) (mC .non))) (mNotT (mTru (mCall (ck.f .l_right) (mCons (mSl (mVar 8) mNo (mEnd (mVar 10))) mNil)))))
    (mRet (mC (.bl false)))
    mSkip))))))
    (mSeq (mAsg (mLc (mRng (mCons (mC (.int 3)) mNil)) (ngName 11) mYes (mTup (mCons (mC (.str "object")) (mCons (mTup (mCons (mC (.str "event")) (mCons (mVar 11) mNil))) mNil))) [11]) (nTup 3 (nCons (nName 3) (nCons (nName 4) (nCons (nName 5) nNil)))))
    (mSeq (mAsg (mTup (mCons (mC (.str "object")) (mCons (mTup (mCons (mC (.str "name")) (mCons (mC (.str "x")) mNil))) mNil))) (nName 6))
    (mSeq (mAsg (mLst (mCons (mTup (mCons (mC (.str "f")) (mCons (mTup mNil) mNil))) (mCons (mTup (mCons (mC (.str "g")) (mCons (mTup mNil) mNil))) mNil))) (nName 7))
    (mSeq (mIfS (mOrT (mB (mBin (gEqA true) (mCall (ck.f .open_answers) (mCons (mBin gAdd (mVar 7) (mLst (mCons (mTup (mCons (mC (.str "h")) (mCons (mTup (mCons (mVar 3) (mCons (mVar 4) mNil))) mNil))) mNil))) mNil)) (mLst (mCons (mC (.int 2)) mNil)))) (mB (mBin (gEqA true) (mCall (ck.f .open_answers) (mCons (mBin gAdd (mVar 7) (mLst (mCons (mTup (mCons (mC (.str "k")) (mCons (mTup (mCons (mVar 3) (mCons (mVar 6) mNil))) mNil))) mNil))) mNil)) (mLst (mCons (mC (.int 2)) mNil)))))
    (mRet (mC (.bl false)))
    mSkip)
    (mSeq (mIfS (mNotT (mTru (mCall (ck.f .l_right) (mCons (mLst (mCons (mTup (mCons (mC (.str "f")) (mCons (mTup mNil) mNil))) (mCons (mTup (mCons (mC (.str "g")) (mCons (mTup mNil) mNil))) (mCons (mTup (mCons (mC (.str "<")) (mCons (mTup (mCons (mVar 3) (mCons (mVar 4) mNil))) mNil))) (mCons (mTup (mCons (mC (.str "h")) (mCons (mTup mNil) mNil))) (mCons (mTup (mCons (mC (.str "<")) (mCons (mTup (mCons (mVar 4) (mCons (mTup (mCons (mC (.str "object")) (mCons (mTup (mCons (mC (.str "event")) (mCons (mC (.int 3)) mNil))) mNil))) mNil))) mNil))) mNil)))))) mNil))))
    (mRet (mC (.bl false)))
    mSkip)
    (mRet (mAnd (mCall (ck.f .l_right) (mCons (mLst (mCons (mTup (mCons (mC (.str "f")) (mCons (mTup mNil) mNil))) (mCons (mTup (mCons (mC (.str "g")) (mCons (mTup mNil) mNil))) (mCons (mTup (mCons (mC (.str "h")) (mCons (mTup (mCons (mVar 4) (mCons (mVar 3) mNil))) mNil))) mNil)))) mNil)) (mCall (ck.f .l_right) (mCons (mLst (mCons (mTup (mCons (mC (.str "f")) (mCons (mTup mNil) mNil))) (mCons (mTup (mCons (mC (.str "g")) (mCons (mTup mNil) mNil))) (mCons (mTup (mCons (mC (.str "h")) (mCons (mTup (mCons (mVar 3) mNil)) mNil))) mNil)))) mNil)))))))))))
noncomputable def f_law (ck : Tabl) : MF := fun ds m => endOf (b_law ck (startM 12 ds) m)
theorem ok_law {M : Mode} {P : Program} {w : World} {K : PySem.W.Frag} {mg : Str → Option Value} {base : Heap} {k : Nat} {f : Addr} {fd : FuncData} {ck : Tabl} (Fu : Fun K "law" "law" s_law f fd) (T : Txt K w mg) (I_l_draw : FnX M P w K mg base (lv k) "_law_draw" 2 (ck.f .l_draw)) (I_l_drawn_events : FnX M P w K mg base (lv k) "_law_drawn_events" 2 (ck.f .l_drawn_events)) (I_l_right : FnX M P w K mg base (lv k) "_law_right" 1 (ck.f .l_right)) (I_l_source : FnX M P w K mg base (lv k) "_law_source" 1 (ck.f .l_source)) (I_l_wrong : FnX M P w K mg base (lv k) "_law_wrong" 1 (ck.f .l_wrong)) (I_open_answers : FnX M P w K mg base (lv k) "open_answers" 1 (ck.f .open_answers)) :
    FnOk P w K mg base (M.CX P w) (lv k + 1) f fd ["_law_script"] (spM K 1 (f_law ck)) :=
  have nd := sc_law.nd
  fnx_ok (M := M) (g := b_law ck) Fu sc_law rfl (fun _ _ _ => rfl) fun cdv A outer s H E hr W tk hp =>
    (jb_cons (js_set 1 nd (jx_call I_l_source hr (Nat.le_refl _) tk (ja_cons (j_var 0) ja_nil) (hlen := (mCons_len mNil_len))))
    (jb_cons (js_for hp rfl (ji_rng1 T.b_range (ja_cons j_int ja_nil)) (jg_name 2 nd)
    (jb_cons (js_set 8 nd (jx_call I_l_drawn_events hr (Nat.le_refl _) tk (ja_cons (j_var 1) (ja_cons (jx_call I_l_draw hr (Nat.le_refl _) tk (ja_cons (j_var 1) (ja_cons j_int ja_nil)) (hlen := (mCons_len (mCons_len mNil_len)))) ja_nil)) (hlen := (mCons_len (mCons_len mNil_len)))))
    (jb_cons (js_set 9 nd (je_callTy (cr_listA rfl) cm_listA T.b_list (by decide +kernel) (ja_cons (j_var 8) ja_nil)))
    (jb_cons (js_if (jw_or (jt_not (jt_tru (jx_call I_l_right hr (Nat.le_refl _) tk (ja_cons (j_var 8) ja_nil) (hlen := (mCons_len mNil_len))))) (jw_or1 (jt_cmp (op_neA (hu64 hr)) om_neA (j_var 8) (j_var 9)))).jt
    (jb_one (js_ret j_bl))
    jb_nil)
    (jb_cons (js_set 10 nd (jx_call I_l_wrong hr (Nat.le_refl _) tk (ja_cons (j_var 8) ja_nil) (hlen := (mCons_len mNil_len))))
    (jb_one (js_if (jw_and (jt_cmp op_notN om_notN (j_var 10) j_non) (jw_and1 (jt_not (jt_tru (jx_call I_l_right hr (Nat.le_refl _) tk (ja_cons (je_sl (j_var 8) jo_no (jo_end (j_var 10))) ja_nil) (hlen := (mCons_len mNil_len))))))).jt
    (jb_one (js_ret j_bl))
    jb_nil)))))))
    (jb_cons (js_asg (je_lc [("_law_k", 11)] rfl rfl nd (ji_rng1 T.b_range (ja_cons j_int ja_nil)) (blkOk_by (N := ["_law_script", "_law_source_here", "_law_turn", "_law_f", "_law_g", "_law_h", "_law_x", "_law_begin", "_law_events", "_law_kept", "_law_wrong_here", "_law_k"]) (sc := defScope s_law) (by decide +kernel)) (fun _ _ _ _ _ => (jn_name 11 nd)) (fun _ _ _ _ _ => jts_nil) (fun _ _ _ _ _ => (je_tup (ja_cons j_str (ja_cons (je_tup (ja_cons j_str (ja_cons (j_var 11) ja_nil))) ja_nil)))) (hgs_name)) (jg_tup rfl (jgs_cons (jg_name 3 nd) (jgs_cons (jg_name 4 nd) (jgs_cons (jg_name 5 nd) jgs_nil)))))
    (jb_cons (js_set 6 nd (je_tup (ja_cons j_str (ja_cons (je_tup (ja_cons j_str (ja_cons j_str ja_nil))) ja_nil))))
    (jb_cons (js_set 7 nd (je_lst (ja_cons (je_tup (ja_cons j_str (ja_cons (je_tup ja_nil) ja_nil))) (ja_cons (je_tup (ja_cons j_str (ja_cons (je_tup ja_nil) ja_nil))) ja_nil))))
    (jb_cons (js_if (jw_or (jt_cmp (op_neA (hu64 hr)) om_neA (jx_call I_open_answers hr (Nat.le_refl _) tk (ja_cons (j_op op_addA om_add (j_var 7) (je_lst (ja_cons (je_tup (ja_cons j_str (ja_cons (je_tup (ja_cons (j_var 3) (ja_cons (j_var 4) ja_nil))) ja_nil))) ja_nil))) ja_nil) (hlen := (mCons_len mNil_len))) (je_lst (ja_cons j_int ja_nil))) (jw_or1 (jt_cmp (op_neA (hu64 hr)) om_neA (jx_call I_open_answers hr (Nat.le_refl _) tk (ja_cons (j_op op_addA om_add (j_var 7) (je_lst (ja_cons (je_tup (ja_cons j_str (ja_cons (je_tup (ja_cons (j_var 3) (ja_cons (j_var 6) ja_nil))) ja_nil))) ja_nil))) ja_nil) (hlen := (mCons_len mNil_len))) (je_lst (ja_cons j_int ja_nil))))).jt
    (jb_one (js_ret j_bl))
    jb_nil)
    (jb_cons (js_if (jt_not (jt_tru (jx_call I_l_right hr (Nat.le_refl _) tk (ja_cons (je_lst (ja_cons (je_tup (ja_cons j_str (ja_cons (je_tup ja_nil) ja_nil))) (ja_cons (je_tup (ja_cons j_str (ja_cons (je_tup ja_nil) ja_nil))) (ja_cons (je_tup (ja_cons j_str (ja_cons (je_tup (ja_cons (j_var 3) (ja_cons (j_var 4) ja_nil))) ja_nil))) (ja_cons (je_tup (ja_cons j_str (ja_cons (je_tup ja_nil) ja_nil))) (ja_cons (je_tup (ja_cons j_str (ja_cons (je_tup (ja_cons (j_var 4) (ja_cons (je_tup (ja_cons j_str (ja_cons (je_tup (ja_cons j_str (ja_cons j_int ja_nil))) ja_nil))) ja_nil))) ja_nil))) ja_nil)))))) ja_nil) (hlen := (mCons_len mNil_len)))))
    (jb_one (js_ret j_bl))
    jb_nil)
    (jb_one (js_ret (je_and (jx_call I_l_right hr (Nat.le_refl _) tk (ja_cons (je_lst (ja_cons (je_tup (ja_cons j_str (ja_cons (je_tup ja_nil) ja_nil))) (ja_cons (je_tup (ja_cons j_str (ja_cons (je_tup ja_nil) ja_nil))) (ja_cons (je_tup (ja_cons j_str (ja_cons (je_tup (ja_cons (j_var 4) (ja_cons (j_var 3) ja_nil))) ja_nil))) ja_nil)))) ja_nil) (hlen := (mCons_len mNil_len))) (je_one (jx_call I_l_right hr (Nat.le_refl _) tk (ja_cons (je_lst (ja_cons (je_tup (ja_cons j_str (ja_cons (je_tup ja_nil) ja_nil))) (ja_cons (je_tup (ja_cons j_str (ja_cons (je_tup ja_nil) ja_nil))) (ja_cons (je_tup (ja_cons j_str (ja_cons (je_tup (ja_cons (j_var 3) ja_nil)) ja_nil))) ja_nil)))) ja_nil) (hlen := (mCons_len mNil_len))))))))))))))
abbrev s_i_Terms : Stmt := clsS (topS 23) 0
theorem sc_i_Terms : FnScope ["self", "events", "number"] ["self", "events"] (defScope s_i_Terms) := ⟨rfl, rfl, rfl, by decide +kernel, rfl, by decide +kernel, by decide +kernel⟩
noncomputable def b_i_Terms (ck : Tabl) : MS := (mSeq (mFldS pf_events "events" (mVar 0) (mVar 1))
    (mSeq (mFldS pf_starts "starts" (mVar 0) (mLst mNil))
    (mSeq (mFldS pf_ahead "ahead" (mVar 0) (mLst mNil))
    (mSeq (mFldS pf_waiting "waiting" (mVar 0) (mLst mNil))
    (mSeq (mFor (mRng (mCons (mCall gLen (mCons (mVar 1) mNil)) mNil)) (nName 2)
    (mIfS (mNotT (mTru (mMeth "Terms" "_goes_on" (ck.f .m_Terms__goes_on) (mVar 0) (mCons (mVar 2) mNil))))
    mBrk
    mSkip))
    (mFldS pf_possible "possible" (mVar 0) (mCall gLen (mCons (mFld pf_starts "starts" (mVar 0)) mNil))))))))
noncomputable def f_i_Terms (ck : Tabl) : MF := fun ds m => endOf (b_i_Terms ck (startM 3 ds) m)
theorem ok_i_Terms {M : Mode} {P : Program} {w : World} {K : PySem.W.Frag} {mg : Str → Option Value} {base : Heap} {k : Nat} {f : Addr} {fd : FuncData} {ck : Tabl} (Fu : Fun K "__init__" "Terms.__init__" s_i_Terms f fd) (T : Txt K w mg) (I_m_Terms__goes_on : MthX M P w K mg base (lv k) "Terms" "_goes_on" 1 (ck.f .m_Terms__goes_on)) :
    FnOk P w K mg base (M.CX P w) (lv k + 1) f fd ["self", "events"] (spM K 2 (f_i_Terms ck)) :=
  have nd := sc_i_Terms.nd
  fnx_ok (M := M) (g := b_i_Terms ck) Fu sc_i_Terms rfl (fun _ _ _ => rfl) fun cdv A outer s H E hr W tk hp =>
    (jb_cons (js_fld (j_var 0) (j_var 1) T.f_events)
    (jb_cons (js_fld (j_var 0) (je_lst ja_nil) T.f_starts)
    (jb_cons (js_fld (j_var 0) (je_lst ja_nil) T.f_ahead)
    (jb_cons (js_fld (j_var 0) (je_lst ja_nil) T.f_waiting)
    (jb_cons (js_for hp rfl (ji_rng1 T.b_range (ja_cons (je_callB cr_len cm_len T.b_len PySem.boot_len (ja_cons (j_var 1) ja_nil)) ja_nil)) (jg_name 2 nd)
    (jb_one (js_if (jt_not (jt_tru (jx_meth I_m_Terms__goes_on hr (Nat.le_refl _) tk (j_var 0) (ja_cons (j_var 2) ja_nil) (hlen := (mCons_len mNil_len)))))
    (jb_one js_brk)
    jb_nil)))
    (jb_one (js_fld (j_var 0) (je_callB cr_len cm_len T.b_len PySem.boot_len (ja_cons (je_fld (j_var 0) T.f_starts) ja_nil)) T.f_possible)))))))
abbrev s_m_Terms__goes_on : Stmt := clsS (topS 23) 1
theorem sc_m_Terms__goes_on : FnScope ["self", "number", "_", "values", "used", "link", "start", "answer", "one", "other"] ["self", "number"] (defScope s_m_Terms__goes_on) := ⟨rfl, rfl, rfl, by decide +kernel, rfl, by decide +kernel, by decide +kernel⟩
noncomputable def b_m_Terms__goes_on (ck : Tabl) : MS := (mSeq (mAsg (mBin gItem (mFld pf_events "events" (mVar 0)) (mVar 1)) (nTup 2 (nCons (nName 2) (nCons (nName 3) nNil))))
    (mSeq (mAsg (mCall (ck.f .u_answers_in) (mCons (mVar 3) mNil)) (nName 4))
    (mSeq (mAsg (mMeth "Terms" "_link_ahead" (ck.f .m_Terms__link_ahead) (mVar 0) (mCons (mVar 1) mNil)) (nName 5))
    (mSeq (mIfS (mB (mBin gNotN (mVar 5) (mC .non)))
    (mAsg (mLst (mCons (mVar 5) (mStar (mSl (mVar 4) (mEnd (mC (.int 1))) mNo) mNil))) (nName 4))
    mSkip)
    (mSeq (mIfS (mNotT (mTru (mCall gAll (mCons (mLc (mAnyI (mVar 4)) (ngName 7) mYes (mBin (gInB false) (mVar 7) (mFld pf_waiting "waiting" (mVar 0))) [7]) mNil))))
    (mRet (mC (.bl false)))
    mSkip)
    (mSeq (mIfS (mNotT (mTru (mCall gAll (mCons (mLc (mZip (mCons (mVar 4) (mCons (mSl (mVar 4) (mEnd (mC (.int 1))) mNo) mNil))) (ngTup 2 (ngCons (ngName 8) (ngCons (ngName 9) ngNil))) mYes (mBin gLt (mVar 8) (mVar 9)) [9, 8]) mNil))))
    (mRet (mC (.bl false)))
    mSkip)
    (mSeq (mIfS (mAndT (mB (mBin gGt (mCall gLen (mCons (mVar 3) mNil)) (mC (.int 0)))) (mB (mBin (gInB true) (mCall (ck.f .u_answer_of) (mCons (mBin gItem (mVar 3) (mNeg (mC (.int 1)))) mNil)) (mTup (mCons (mC .non) (mCons (mBin gSub (mVar 1) (mC (.int 1))) mNil))))))
    (mRet (mC (.bl false)))
    mSkip)
    (mSeq (mAsg (mIf (mB (mBin gGt (mCall gLen (mCons (mVar 4) mNil)) (mC (.int 0)))) (mBin gItem (mFld pf_starts "starts" (mVar 0)) (mBin gItem (mVar 4) (mC (.int 0)))) (mVar 1)) (nName 6))
    (mSeq (mDrop (mBM gAppend (mFld pf_starts "starts" (mVar 0)) (mCons (mVar 6) mNil)))
    (mSeq (mDrop (mBM gAppend (mFld pf_ahead "ahead" (mVar 0)) (mCons (mVar 5) mNil)))
    (mSeq (mFldS pf_waiting "waiting" (mVar 0) (mLst (mStar (mLc (mAnyI (mFld pf_waiting "waiting" (mVar 0))) (ngName 7) (mB (mBin gLt (mVar 7) (mVar 6))) (mVar 7) [7]) (mCons (mVar 1) mNil))))
    (mRet (mC (.bl true))))))))))))))
noncomputable def f_m_Terms__goes_on (ck : Tabl) : MF := fun ds m => endOf (b_m_Terms__goes_on ck (startM 10 ds) m)
theorem ok_m_Terms__goes_on {M : Mode} {P : Program} {w : World} {K : PySem.W.Frag} {mg : Str → Option Value} {base : Heap} {k : Nat} {f : Addr} {fd : FuncData} {ck : Tabl} (Fu : Fun K "_goes_on" "Terms._goes_on" s_m_Terms__goes_on f fd) (T : Txt K w mg) (I_u_answer_of : FnX M P w K mg base (lv k) "_answer_of" 1 (ck.f .u_answer_of)) (I_u_answers_in : FnX M P w K mg base (lv k) "_answers_in" 1 (ck.f .u_answers_in)) (I_m_Terms__link_ahead : MthX M P w K mg base (lv k) "Terms" "_link_ahead" 1 (ck.f .m_Terms__link_ahead)) :
    FnOk P w K mg base (M.CX P w) (lv k + 1) f fd ["self", "number"] (spM K 2 (f_m_Terms__goes_on ck)) :=
  have nd := sc_m_Terms__goes_on.nd
  fnx_ok (M := M) (g := b_m_Terms__goes_on ck) Fu sc_m_Terms__goes_on rfl (fun _ _ _ => rfl) fun cdv A outer s H E hr W tk hp =>
    (jb_cons (js_asg (je_item (hu1 hr) (je_fld (j_var 0) T.f_events) (j_var 1)) (jg_tup rfl (jgs_cons (jg_name 2 nd) (jgs_cons (jg_name 3 nd) jgs_nil))))
    (jb_cons (js_set 4 nd (jx_call I_u_answers_in hr (Nat.le_refl _) tk (ja_cons (j_var 3) ja_nil) (hlen := (mCons_len mNil_len))))
    (jb_cons (js_set 5 nd (jx_meth I_m_Terms__link_ahead hr (Nat.le_refl _) tk (j_var 0) (ja_cons (j_var 1) ja_nil) (hlen := (mCons_len mNil_len))))
    (jb_cons (js_if (jt_cmp op_notN om_notN (j_var 5) j_non)
    (jb_one (js_set 4 nd (je_lst (ja_cons (j_var 5) (ja_star (je_sl (j_var 4) (jo_end j_int) jo_no) ja_nil)))))
    jb_nil)
    (jb_cons (js_if (jt_not (jt_tru (je_callB (cr_all rfl) cm_all T.b_all (by decide +kernel) (ja_cons (je_lc [("answer", 7)] rfl rfl nd (ji_any (j_var 4)) (blkOk_by (N := ["self", "number", "_", "values", "used", "link", "start", "answer", "one", "other"]) (sc := defScope s_m_Terms__goes_on) (by decide +kernel)) (fun _ _ _ _ _ => (jn_name 7 nd)) (fun _ _ _ _ _ => jts_nil) (fun _ _ _ _ _ => (je_inB (hu1 hr) (hu65 hr) (j_var 7) (je_fld (j_var 0) T.f_waiting))) (hgs_name)) ja_nil))))
    (jb_one (js_ret j_bl))
    jb_nil)
    (jb_cons (js_if (jt_not (jt_tru (je_callB (cr_all rfl) cm_all T.b_all (by decide +kernel) (ja_cons (je_lc [("other", 9), ("one", 8)] rfl rfl nd (ji_zip T.b_zip (ja_cons (j_var 4) (ja_cons (je_sl (j_var 4) (jo_end j_int) jo_no) ja_nil))) (blkOk_by (N := ["self", "number", "_", "values", "used", "link", "start", "answer", "one", "other"]) (sc := defScope s_m_Terms__goes_on) (by decide +kernel)) (fun _ _ _ _ _ => (jn_tup rfl (jn_cons (jn_name 8 nd) (jn_cons (jn_name 9 nd) jn_nil)))) (fun _ _ _ _ _ => jts_nil) (fun _ _ _ _ _ => (j_cmp op_lt om_lt (j_var 8) (j_var 9))) (by (first | exact MI.wr_tup (MI.wr_cons (MI.wr_name (by decide)) (MI.wr_cons (MI.wr_name (by decide)) MI.wr_nil)) | exact MI.wr_tup (MI.wr_cons (MI.wr_name (by decide)) (MI.wr_cons (MI.wr_name (by decide)) (MI.wr_cons (MI.wr_name (by decide)) MI.wr_nil)))))) ja_nil))))
    (jb_one (js_ret j_bl))
    jb_nil)
    (jb_cons (js_if (jw_and (jt_cmp op_gt om_gt (je_callB cr_len cm_len T.b_len PySem.boot_len (ja_cons (j_var 3) ja_nil)) j_int) (jw_and1 (jt_ninB (hu1 hr) (hu65 hr) (jx_call I_u_answer_of hr (Nat.le_refl _) tk (ja_cons (je_item (hu1 hr) (j_var 3) (je_neg j_int)) ja_nil) (hlen := (mCons_len mNil_len))) (je_tup (ja_cons j_non (ja_cons (j_op op_sub om_sub (j_var 1) j_int) ja_nil)))))).jt
    (jb_one (js_ret j_bl))
    jb_nil)
    (jb_cons (js_set 6 nd (je_if (jt_cmp op_gt om_gt (je_callB cr_len cm_len T.b_len PySem.boot_len (ja_cons (j_var 4) ja_nil)) j_int) (je_item (hu1 hr) (je_fld (j_var 0) T.f_starts) (je_item (hu1 hr) (j_var 4) j_int)) (j_var 1)))
    (jb_cons (js_expr (je_bmL PySem.F.slot_list_append PySem.F.type_list_append mt_append mm_append (je_fld (j_var 0) T.f_starts) (ja_cons (j_var 6) ja_nil)))
    (jb_cons (js_expr (je_bmL PySem.F.slot_list_append PySem.F.type_list_append mt_append mm_append (je_fld (j_var 0) T.f_ahead) (ja_cons (j_var 5) ja_nil)))
    (jb_cons (js_fld (j_var 0) (je_lst (ja_star (je_lc [("answer", 7)] rfl rfl nd (ji_any (je_fld (j_var 0) T.f_waiting)) (blkOk_by (N := ["self", "number", "_", "values", "used", "link", "start", "answer", "one", "other"]) (sc := defScope s_m_Terms__goes_on) (by decide +kernel)) (fun _ _ _ _ _ => (jn_name 7 nd)) (fun _ _ _ _ _ => (jts_one (jt_cmp op_lt om_lt (j_var 7) (j_var 6)))) (fun _ _ _ _ _ => (j_var 7)) (hgs_name)) (ja_cons (j_var 1) ja_nil))) T.f_waiting)
    (jb_one (js_ret j_bl)))))))))))))
abbrev s_m_Terms__link_ahead : Stmt := clsS (topS 23) 2
theorem sc_m_Terms__link_ahead : FnScope ["self", "number", "word", "values", "left", "sign", "ahead"] ["self", "number"] (defScope s_m_Terms__link_ahead) := ⟨rfl, rfl, rfl, by decide +kernel, rfl, by decide +kernel, by decide +kernel⟩
noncomputable def b_m_Terms__link_ahead (ck : Tabl) : MS := (mSeq (mAsg (mBin gItem (mFld pf_events "events" (mVar 0)) (mVar 1)) (nTup 2 (nCons (nName 2) (nCons (nName 3) nNil))))
    (mSeq (mAsg (mIf (mB (mBin (gInB false) (mVar 2) (mC c_SIGNS))) (mCall (ck.f .u_answer_of) (mCons (mBin gItem (mVar 3) (mC (.int 0))) mNil)) (mC .non)) (nName 4))
    (mSeq (mIfS (mOrT (mB (mBin gIsN (mVar 4) (mC .non))) (mB (mBin (gInB true) (mBin gAdd (mVar 4) (mC (.int 1))) (mFld pf_waiting "waiting" (mVar 0)))))
    (mRet (mC .non))
    mSkip)
    (mSeq (mAsg (mBin gItem (mFld pf_events "events" (mVar 0)) (mBin gAdd (mVar 4) (mC (.int 1)))) (nTup 2 (nCons (nName 5) (nCons (nName 6) nNil))))
    (mRet (mIf (mAndT (mB (mBin (gInB false) (mVar 5) (mC c_SIGNS))) (mB (mBin (gEqA false) (mBin gItem (mVar 6) (mC (.int 1))) (mBin gItem (mVar 3) (mC (.int 0)))))) (mBin gAdd (mVar 4) (mC (.int 1))) (mC .non)))))))
noncomputable def f_m_Terms__link_ahead (ck : Tabl) : MF := fun ds m => endOf (b_m_Terms__link_ahead ck (startM 7 ds) m)
theorem ok_m_Terms__link_ahead {M : Mode} {P : Program} {w : World} {K : PySem.W.Frag} {mg : Str → Option Value} {base : Heap} {k : Nat} {f : Addr} {fd : FuncData} {ck : Tabl} (Fu : Fun K "_link_ahead" "Terms._link_ahead" s_m_Terms__link_ahead f fd) (T : Txt K w mg) (I_u_answer_of : FnX M P w K mg base (lv k) "_answer_of" 1 (ck.f .u_answer_of)) :
    FnOk P w K mg base (M.CX P w) (lv k + 1) f fd ["self", "number"] (spM K 2 (f_m_Terms__link_ahead ck)) :=
  have nd := sc_m_Terms__link_ahead.nd
  fnx_ok (M := M) (g := b_m_Terms__link_ahead ck) Fu sc_m_Terms__link_ahead rfl (fun _ _ _ => rfl) fun cdv A outer s H E hr W tk hp =>
    (jb_cons (js_asg (je_item (hu1 hr) (je_fld (j_var 0) T.f_events) (j_var 1)) (jg_tup rfl (jgs_cons (jg_name 2 nd) (jgs_cons (jg_name 3 nd) jgs_nil))))
    (jb_cons (js_set 4 nd (je_if (jt_inB (hu1 hr) (hu65 hr) (j_var 2) (j_con T.c_SIGNS)) (jx_call I_u_answer_of hr (Nat.le_refl _) tk (ja_cons (je_item (hu1 hr) (j_var 3) j_int) ja_nil) (hlen := (mCons_len mNil_len))) j_non))
    (jb_cons (js_if (jw_or (jt_cmp op_isN om_isN (j_var 4) j_non) (jw_or1 (jt_ninB (hu1 hr) (hu65 hr) (j_op op_addA om_add (j_var 4) j_int) (je_fld (j_var 0) T.f_waiting)))).jt
    (jb_one (js_ret j_non))
    jb_nil)
    (jb_cons (js_asg (je_item (hu1 hr) (je_fld (j_var 0) T.f_events) (j_op op_addA om_add (j_var 4) j_int)) (jg_tup rfl (jgs_cons (jg_name 5 nd) (jgs_cons (jg_name 6 nd) jgs_nil))))
    (jb_one (js_ret (je_if (jw_and (jt_inB (hu1 hr) (hu65 hr) (j_var 5) (j_con T.c_SIGNS)) (jw_and1 (jt_cmp (op_eqA (hu64 hr)) om_eqA (je_item (hu1 hr) (j_var 6) j_int) (je_item (hu1 hr) (j_var 3) j_int)))).jt (j_op op_addA om_add (j_var 4) j_int) j_non)))))))
structure Defs (K : PySem.W.Frag) (mg : Str → Option Value) : Prop where
  is_integer : DefAt K mg "is_integer" s_is_integer ["value"]
  is_name : DefAt K mg "is_name" s_is_name ["value"]
  is_value : DefAt K mg "is_value" s_is_value ["value", "many"]
  u_is_source : DefAt K mg "_is_source" s_u_is_source ["value", "many"]
  u_is_event : DefAt K mg "_is_event" s_u_is_event ["value", "number"]
  check_events : DefAt K mg "check_events" s_check_events ["events"]
  names_in : DefAt K mg "names_in" s_names_in ["events", "value"]
  u_answer_of : DefAt K mg "_answer_of" s_u_answer_of ["value"]
  u_answers_in : DefAt K mg "_answers_in" s_u_answers_in ["values"]
  terms_of : DefAt K mg "terms_of" s_terms_of ["events"]
  open_answers : DefAt K mg "open_answers" s_open_answers ["events"]
  l_source : DefAt K mg "_law_source" s_l_source ["_law_script"]
  l_draw : DefAt K mg "_law_draw" s_l_draw ["_law_source_here", "_law_limit"]
  l_pick : DefAt K mg "_law_pick" s_l_pick ["_law_source_here", "_law_values"]
  l_constant : DefAt K mg "_law_constant" s_l_constant ["_law_source_here"]
  l_operand : DefAt K mg "_law_operand" s_l_operand ["_law_source_here", "_law_number"]
  l_drawn_events : DefAt K mg "_law_drawn_events" s_l_drawn_events ["_law_source_here", "_law_many"]
  l_answer : DefAt K mg "_law_answer" s_l_answer ["_law_value"]
  l_fits : DefAt K mg "_law_fits" s_l_fits ["_law_can_here", "_law_values", "_law_begin", "_law_end"]
  l_links : DefAt K mg "_law_links" s_l_links ["_law_events", "_law_can_here", "_law_begin", "_law_last", "_law_links_here"]
  l_can : DefAt K mg "_law_can" s_l_can ["_law_events"]
  l_wrong : DefAt K mg "_law_wrong" s_l_wrong ["_law_events"]
  l_due : DefAt K mg "_law_due" s_l_due ["_law_events"]
  l_right : DefAt K mg "_law_right" s_l_right ["_law_events"]
  law : DefAt K mg "law" s_law ["_law_script"]
  i_Terms : IniAt K mg "Terms" "Terms.__init__" s_i_Terms ["self", "events"]
  m_Terms__goes_on : MthAt K "Terms" "_goes_on" "Terms._goes_on" s_m_Terms__goes_on ["self", "number"]
  m_Terms__link_ahead : MthAt K "Terms" "_link_ahead" "Terms._link_ahead" s_m_Terms__link_ahead ["self", "number"]
structure Bas (K : PySem.W.Frag) (mg : Str → Option Value) (base : Heap) : Prop where
noncomputable def bodyF (ck : Tabl) (h : Nat → Tabl) (k : Nat) : Fnm → MF
  | .is_integer => f_is_integer ck
  | .is_name => f_is_name ck
  | .is_value => f_is_value ck
  | .u_is_source => f_u_is_source ck
  | .u_is_event => f_u_is_event ck
  | .check_events => f_check_events ck
  | .names_in => f_names_in ck
  | .u_answer_of => f_u_answer_of ck
  | .u_answers_in => f_u_answers_in ck
  | .terms_of => f_terms_of ck h k
  | .open_answers => f_open_answers ck
  | .l_source => f_l_source ck
  | .l_draw => f_l_draw ck
  | .l_pick => f_l_pick ck
  | .l_constant => f_l_constant ck
  | .l_operand => f_l_operand ck
  | .l_drawn_events => f_l_drawn_events ck
  | .l_answer => f_l_answer ck
  | .l_fits => f_l_fits ck
  | .l_links => f_l_links ck
  | .l_can => f_l_can ck
  | .l_wrong => f_l_wrong ck
  | .l_due => f_l_due ck
  | .l_right => f_l_right ck
  | .law => f_law ck
  | .i_Terms => f_i_Terms ck
  | .m_Terms__goes_on => f_m_Terms__goes_on ck
  | .m_Terms__link_ahead => f_m_Terms__link_ahead ck
  | _ => fun _ _ => .stuck
noncomputable def bodyC (ck : Tabl) (h : Nat → Tabl) (k : Nat) : Fnm → (Nat → MF) → MF
  | _ => fun _ _ _ => .stuck
def noTab : Tabl := ⟨fun _ _ _ => .stuck, fun _ _ _ _ => .stuck⟩
noncomputable def PT : Nat → Tabl × (Nat → Tabl) := fun k => Nat.rec (noTab, fun _ => noTab) (fun k p => (⟨bodyF p.1 (fun j => if j = k then p.1 else p.2 j) k, bodyC p.1 (fun j => if j = k then p.1 else p.2 j) k⟩, fun j => if j = k then p.1 else p.2 j)) k
noncomputable def Tab (k : Nat) : Tabl := (PT k).1
noncomputable def Hk (k : Nat) : Nat → Tabl := (PT (k + 1)).2
theorem Hk_eq : ∀ {k j : Nat}, j ≤ k → Hk k j = Tab j
  | k, j, h => by
    show (if j = k then Tab k else (PT k).2 j) = Tab j
    by_cases e : j = k
    · rw [if_pos e, e]
    · rw [if_neg e]
      cases k with
      | zero => exact absurd (Nat.le_zero.mp h) e
      | succ k => exact Hk_eq (k := k) (by omega)
structure OkN (M : Mode) (P : Program) (w : World) (K : PySem.W.Frag) (mg : Str → Option Value) (base : Heap) (k : Nat) : Prop where
  is_integer : FnX M P w K mg base (lv k) "is_integer" 1 ((Tab k).f .is_integer)
  is_name : FnX M P w K mg base (lv k) "is_name" 1 ((Tab k).f .is_name)
  is_value : FnX M P w K mg base (lv k) "is_value" 2 ((Tab k).f .is_value)
  u_is_source : FnX M P w K mg base (lv k) "_is_source" 2 ((Tab k).f .u_is_source)
  u_is_event : FnX M P w K mg base (lv k) "_is_event" 2 ((Tab k).f .u_is_event)
  check_events : FnX M P w K mg base (lv k) "check_events" 1 ((Tab k).f .check_events)
  names_in : FnX M P w K mg base (lv k) "names_in" 2 ((Tab k).f .names_in)
  u_answer_of : FnX M P w K mg base (lv k) "_answer_of" 1 ((Tab k).f .u_answer_of)
  u_answers_in : FnX M P w K mg base (lv k) "_answers_in" 1 ((Tab k).f .u_answers_in)
  l_source : FnX M P w K mg base (lv k) "_law_source" 1 ((Tab k).f .l_source)
  l_draw : FnX M P w K mg base (lv k) "_law_draw" 2 ((Tab k).f .l_draw)
  l_pick : FnX M P w K mg base (lv k) "_law_pick" 2 ((Tab k).f .l_pick)
  l_constant : FnX M P w K mg base (lv k) "_law_constant" 1 ((Tab k).f .l_constant)
  l_operand : FnX M P w K mg base (lv k) "_law_operand" 2 ((Tab k).f .l_operand)
  l_drawn_events : FnX M P w K mg base (lv k) "_law_drawn_events" 2 ((Tab k).f .l_drawn_events)
  l_answer : FnX M P w K mg base (lv k) "_law_answer" 1 ((Tab k).f .l_answer)
  l_fits : FnX M P w K mg base (lv k) "_law_fits" 4 ((Tab k).f .l_fits)
  l_links : FnX M P w K mg base (lv k) "_law_links" 5 ((Tab k).f .l_links)
  l_can : FnX M P w K mg base (lv k) "_law_can" 1 ((Tab k).f .l_can)
  l_wrong : FnX M P w K mg base (lv k) "_law_wrong" 1 ((Tab k).f .l_wrong)
  l_due : FnX M P w K mg base (lv k) "_law_due" 1 ((Tab k).f .l_due)
  i_Terms : MkX M P w K mg base (lv k) "Terms" 1 ((Tab k).f .i_Terms)
  m_Terms__goes_on : MthX M P w K mg base (lv k) "Terms" "_goes_on" 1 ((Tab k).f .m_Terms__goes_on)
  m_Terms__link_ahead : MthX M P w K mg base (lv k) "Terms" "_link_ahead" 1 ((Tab k).f .m_Terms__link_ahead)
theorem ok0 (M : Mode) {P : Program} {w : World} {K : PySem.W.Frag} {mg : Str → Option Value} {base : Heap} (D : Defs K mg) : OkN M P w K mg base 0 :=
  ⟨D.is_integer.fn0 rfl, D.is_name.fn0 rfl, D.is_value.fn0 rfl, D.u_is_source.fn0 rfl, D.u_is_event.fn0 rfl, D.check_events.fn0 rfl, D.names_in.fn0 rfl, D.u_answer_of.fn0 rfl, D.u_answers_in.fn0 rfl, D.l_source.fn0 rfl, D.l_draw.fn0 rfl, D.l_pick.fn0 rfl, D.l_constant.fn0 rfl, D.l_operand.fn0 rfl, D.l_drawn_events.fn0 rfl, D.l_answer.fn0 rfl, D.l_fits.fn0 rfl, D.l_links.fn0 rfl, D.l_can.fn0 rfl, D.l_wrong.fn0 rfl, D.l_due.fn0 rfl, D.i_Terms.mk0 rfl, D.m_Terms__goes_on.mth0 rfl, D.m_Terms__link_ahead.mth0 rfl⟩
theorem okS (M : Mode) {P : Program} {w : World} {K : PySem.W.Frag} {mg : Str → Option Value} {base : Heap} (D : Defs K mg) (T : Txt K w mg) (B : Bas K mg base) {k : Nat} (hs : ∀ j, j ≤ k → OkN M P w K mg base j) : OkN M P w K mg base (k + 1) :=
    have h := hs k (Nat.le_refl k)
    ⟨D.is_integer.fnx fun f fd Fu => ok_is_integer (M := M) (ck := Tab k) Fu T,
     D.is_name.fnx fun f fd Fu => ok_is_name (M := M) (ck := Tab k) Fu T,
     D.is_value.fnx fun f fd Fu => ok_is_value (M := M) (ck := Tab k) Fu T h.u_is_source,
     D.u_is_source.fnx fun f fd Fu => ok_u_is_source (M := M) (ck := Tab k) Fu T h.is_integer h.is_name,
     D.u_is_event.fnx fun f fd Fu => ok_u_is_event (M := M) (ck := Tab k) Fu T h.is_name h.is_value,
     D.check_events.fnx fun f fd Fu => ok_check_events (M := M) (ck := Tab k) Fu T h.u_is_event h.names_in,
     D.names_in.fnx fun f fd Fu => ok_names_in (M := M) (ck := Tab k) Fu T,
     D.u_answer_of.fnx fun f fd Fu => ok_u_answer_of (M := M) (ck := Tab k) Fu T,
     D.u_answers_in.fnx fun f fd Fu => ok_u_answers_in (M := M) (ck := Tab k) Fu T h.u_answer_of,
     D.l_source.fnx fun f fd Fu => ok_l_source (M := M) (ck := Tab k) Fu T,
     D.l_draw.fnx fun f fd Fu => ok_l_draw (M := M) (ck := Tab k) Fu T,
     D.l_pick.fnx fun f fd Fu => ok_l_pick (M := M) (ck := Tab k) Fu T h.l_draw,
     D.l_constant.fnx fun f fd Fu => ok_l_constant (M := M) (ck := Tab k) Fu T h.l_pick,
     D.l_operand.fnx fun f fd Fu => ok_l_operand (M := M) (ck := Tab k) Fu T h.l_constant h.l_draw,
     D.l_drawn_events.fnx fun f fd Fu => ok_l_drawn_events (M := M) (ck := Tab k) Fu T h.l_draw h.l_operand h.l_pick,
     D.l_answer.fnx fun f fd Fu => ok_l_answer (M := M) (ck := Tab k) Fu T,
     D.l_fits.fnx fun f fd Fu => ok_l_fits (M := M) (ck := Tab k) Fu T h.l_answer h.l_fits,
     D.l_links.fnx fun f fd Fu => ok_l_links (M := M) (ck := Tab k) Fu T h.l_fits,
     D.l_can.fnx fun f fd Fu => ok_l_can (M := M) (ck := Tab k) Fu T h.l_fits h.l_links,
     D.l_wrong.fnx fun f fd Fu => ok_l_wrong (M := M) (ck := Tab k) Fu T h.l_can,
     D.l_due.fnx fun f fd Fu => ok_l_due (M := M) (ck := Tab k) Fu T h.l_wrong,
     D.i_Terms.mkx fun f fd Fu => ok_i_Terms (M := M) (ck := Tab k) Fu T h.m_Terms__goes_on,
     D.m_Terms__goes_on.mthx fun f fd Fu => ok_m_Terms__goes_on (M := M) (ck := Tab k) Fu T h.u_answer_of h.u_answers_in h.m_Terms__link_ahead,
     D.m_Terms__link_ahead.mthx fun f fd Fu => ok_m_Terms__link_ahead (M := M) (ck := Tab k) Fu T h.u_answer_of⟩
theorem okA (M : Mode) {P : Program} {w : World} {K : PySem.W.Frag} {mg : Str → Option Value} {base : Heap} (D : Defs K mg) (T : Txt K w mg) (B : Bas K mg base) : ∀ k, ∀ j, j ≤ k → OkN M P w K mg base j
  | 0, j, h => by rw [Nat.le_zero.mp h]; exact ok0 M D
  | k + 1, j, h => by
    by_cases e : j = k + 1
    · rw [e]; exact okS M D T B (okA M D T B k)
    · exact okA M D T B k j (by omega)
theorem okN (M : Mode) {P : Program} {w : World} {K : PySem.W.Frag} {mg : Str → Option Value} {base : Heap} (D : Defs K mg) (T : Txt K w mg) (B : Bas K mg base) (k : Nat) : OkN M P w K mg base k := okA M D T B k k (Nat.le_refl k)
structure Ok2 (P : Program) (w : World) (K : PySem.W.Frag) (mg : Str → Option Value) (base : Heap) (k : Nat) : Prop where
  terms_of : FnX M2 P w K mg base (lv k) "terms_of" 1 ((Tab k).f .terms_of)
  open_answers : FnX M2 P w K mg base (lv k) "open_answers" 1 ((Tab k).f .open_answers)
  l_right : FnX M2 P w K mg base (lv k) "_law_right" 1 ((Tab k).f .l_right)
  law : FnX M2 P w K mg base (lv k) "law" 1 ((Tab k).f .law)
theorem ok2 {P : Program} {w : World} {K : PySem.W.Frag} {mg : Str → Option Value} {base : Heap} (D : Defs K mg) (T : Txt K w mg) (B : Bas K mg base) : ∀ k, Ok2 P w K mg base k
  | 0 => ⟨D.terms_of.fn0 rfl, D.open_answers.fn0 rfl, D.l_right.fn0 rfl, D.law.fn0 rfl⟩
  | k + 1 =>
    have h : Ok2 P w K mg base k := ok2 D T B k
    have g : OkN M2 P w K mg base k := okN M2 D T B k
    have gN : OkN MN P w K mg base k := okN MN D T B k
    have hs : ∀ j, j ≤ k → OkN M2 P w K mg base j := okA M2 D T B k
    have hsN : ∀ j, j ≤ k → OkN MN P w K mg base j := okA MN D T B k
    ⟨D.terms_of.fnx fun f fd Fu => ok_terms_of (ck := Tab k) (h := Hk k) Fu T g.check_events (fun j hj => by rw [Hk_eq (Nat.le_of_lt hj)]; exact (hs j (Nat.le_of_lt hj)).i_Terms),
     D.open_answers.fnx fun f fd Fu => ok_open_answers (M := M2) (ck := Tab k) Fu T h.terms_of,
     D.l_right.fnx fun f fd Fu => ok_l_right (ck := Tab k) Fu T g.l_due g.l_wrong h.open_answers,
     D.law.fnx fun f fd Fu => ok_law (M := M2) (ck := Tab k) Fu T g.l_draw g.l_drawn_events h.l_right g.l_source g.l_wrong h.open_answers⟩
theorem law_at {P : Program} {w : World} {K : PySem.W.Frag} {mg : Str → Option Value} (D : Defs K mg) (T : Txt K w mg) {cs : List (Addr × Addr)} (Bs : ∀ base : Heap, (∀ p ∈ cs, LamX.TabB base mg p.1 p.2) → Bas K mg base) (k : Nat) {fa : Addr} (h : mg "law" = some (.ref fa)) : ∃ fd : FuncData, (∀ (s : Shared) (u : Value), BindsTo s fd ⟨[u], []⟩ [("_law_script", u)]) ∧ ∀ base : Heap, (∀ p ∈ cs, LamX.TabB base mg p.1 p.2) → FnOk P w K mg base (L2.CX P w) (lv k + 1) fa fd ["_law_script"] (spM K 1 ((Tab (k + 1)).f .law)) := by
  obtain ⟨f, fd, Fu, h2, _, _⟩ := D.law.ex
  rw [h] at h2
  cases h2
  refine ⟨fd, fun s u => ?_, fun base tb => ?_⟩
  · obtain ⟨oc, od, kV, doc, pm, an, cdv, ct, osl, rfl, lk, hcd⟩ := Fu.ex
    exact .of_eq rfl
  · have B := Bs base tb
    have hs : ∀ j, j ≤ k → OkN M2 P w K mg base j := okA M2 D T B k
    exact ok_law (M := M2) (ck := Tab k) Fu T (okN M2 D T B k).l_draw (okN M2 D T B k).l_drawn_events (ok2 D T B k).l_right (okN M2 D T B k).l_source (okN M2 D T B k).l_wrong (ok2 D T B k).open_answers
end K32
set_option maxHeartbeats 4000000
namespace K32
open PySem L2 MI
/-- all but those at S is as it was -/
def Kp (S : List Nat) (m m' : Mem) : Prop := m.length ≤ m'.length ∧ ∀ n, n < m.length → n ∉ S → m'[n]? = m[n]?
theorem Kp.refl {S : List Nat} {m : Mem} : Kp S m m := ⟨Nat.le_refl _, fun _ _ _ => rfl⟩
theorem Kp.trans {S : List Nat} {m m' m'' : Mem} (a : Kp S m m') (b : Kp S m' m'') : Kp S m m'' := ⟨Nat.le_trans a.1 b.1, fun n h1 h2 => (b.2 n (Nat.lt_of_lt_of_le h1 a.1) h2).trans (a.2 n h1 h2)⟩
theorem Kp.get {S : List Nat} {m m' : Mem} (a : Kp S m m') {n : Nat} {o : MO} (h : m[n]? = some o) (hn : n ∉ S) : m'[n]? = some o := (a.2 n (List.getElem?_eq_some_iff.mp h).1 hn).trans h
theorem Kp.push {S : List Nat} {m : Mem} {o : MO} : Kp S m (m ++ [o]) := ⟨by simp, fun n h _ => List.getElem?_append_left h⟩
theorem Kp.wr {S : List Nat} {m : Mem} {n : Nat} {o : MO} (h : n ∈ S) : Kp S m (m.set n o) := ⟨by simp, fun i _ hi => by rw [List.getElem?_set_ne (fun e => hi (by rw [← e]; exact h))]⟩
theorem Kp.mono {S S' : List Nat} {m m' : Mem} (a : Kp S m m') (h : ∀ n ∈ S, n ∈ S') : Kp S' m m' := ⟨a.1, fun n h1 h2 => a.2 n h1 fun z => h2 (h n z)⟩
theorem at_lst {m : Mem} {n : Nat} {l : List MV} (h : m[n]? = some (.lst l)) : lstOf m (.ref n) = some l ∧ dctOf m (.ref n) = none ∧ mutOf m (.ref n) = some (n, l) ∧ seqOf m (.ref n) = some l := by
  simp [lstOf, dctOf, mutOf, seqOf, h]
/-- the source of draws: its list at s, the cells at c, t draws so far -/
structure Src (m : Mem) (s c : Nat) (t : Int) : Prop where
  ex : ∃ cells : List Int, cells ≠ [] ∧ m[s]? = some (.lst [.ref c, .int t]) ∧ m[c]? = some (.lst (cells.map .int))
  ne : s ≠ c
  lo : 0 ≤ t
theorem Src.kp {m m' : Mem} {s c : Nat} {t : Int} {S : List Nat} (a : Src m s c t) (k : Kp S m m') (h1 : s ∉ S) (h2 : c ∉ S) : Src m' s c t :=
  let ⟨cells, e1, e2, e3⟩ := a.ex; ⟨⟨cells, e1, k.get e2 h1, k.get e3 h2⟩, a.ne, a.lo⟩
theorem draw_ok {k : Nat} {m : Mem} {s c : Nat} {t lim : Int} (a : Src m s c t) (h0 : 0 < lim) (h1 : lim < 2 ^ 60) (ht : t < 2 ^ 60) :
    MI.W ((Tab (k + 1)).f .l_draw [.ref s, .int lim] m) (fun d m' => ∃ v : Int, d = .int v ∧ 0 ≤ v ∧ v < lim ∧ Src m' s c (t + 1) ∧ Kp [s, c] m m' ∧ m'.length = m.length) E0 := by
  obtain ⟨cells, e1, e2, e3⟩ := a.ex
  have ne := a.ne
  have lo := a.lo
  have ls : s < m.length := (List.getElem?_eq_some_iff.mp e2).1
  have lc : c < m.length := (List.getElem?_eq_some_iff.mp e3).1
  have n0 : 0 < (cells.length : Int) := by
    cases cells with
    | nil => exact absurd rfl e1
    | cons _ _ => simp only [List.length_cons]; omega
  -- the place
  have p0 := Int.emod_nonneg t (Int.ne_of_gt n0)
  have p1 := Int.emod_lt_of_pos t n0
  have hp : (t % (cells.length : Int)).toNat < cells.length := by omega
  obtain ⟨cell, at1⟩ : ∃ cell : Int, atM (cells.map MV.int) (t % (cells.length : Int)) = some (.int cell) := by
    refine ⟨cells[(t % (cells.length : Int)).toNat], ?_⟩
    unfold atM ixN
    rw [if_pos p0, List.length_map, if_pos p1]
    simp [hp]
  obtain ⟨j, ix1⟩ : ∃ j, ixN cells.length (t % (cells.length : Int)) = some j := by
    refine ⟨(t % (cells.length : Int)).toNat, ?_⟩
    unfold ixN
    rw [if_pos p0, if_pos p1]
  have d2 : (m.set s (.lst [.ref c, .int (t + 1)]))[c]? = some (.lst (cells.map .int)) := by rw [List.getElem?_set_ne ne]; exact e3
  have ds : (m.set s (.lst [.ref c, .int (t + 1)]))[s]? = some (.lst [.ref c, .int (t + 1)]) := by rw [List.getElem?_set_self ls]
  have kp1 : Kp [s, c] m (m.set s (.lst [.ref c, .int (t + 1)])) := Kp.wr (by simp)
  have src1 : Src (m.set s (.lst [.ref c, .int (t + 1)])) s c (t + 1) := ⟨⟨cells, e1, ds, d2⟩, ne, by omega⟩
  have src2 : ∀ v : Int, Src ((m.set s (.lst [.ref c, .int (t + 1)])).set c (.lst ((cells.set j v).map .int))) s c (t + 1) := fun v => by
    refine ⟨⟨cells.set j v, ?_, ?_, ?_⟩, ne, by omega⟩
    · intro z
      have := congrArg List.length z
      simp at this
      exact e1 this
    · rw [List.getElem?_set_ne (Ne.symm ne)]; exact ds
    · rw [List.getElem?_set_self (by simpa using lc)]
  have kp2 : ∀ v : Int, Kp [s, c] m ((m.set s (.lst [.ref c, .int (t + 1)])).set c (.lst ((cells.set j v).map .int))) := fun v => kp1.trans (Kp.wr (by simp))
  have dv : CDivW cell lim := by
    refine ⟨h0, ?_⟩
    have : lim.natAbs < 2 ^ 60 := by omega
    have := (Nat.log2_lt (n := lim.natAbs) (k := 60) (by omega)).mpr this
    omega
  have pw : CPowW 10 18 := by decide
  have ans : ∀ x : Int, 0 ≤ x % lim ∧ x % lim < lim := fun x => ⟨Int.emod_nonneg _ (Int.ne_of_gt h0), Int.emod_lt_of_pos _ h0⟩
  show MI.W (f_l_draw (Tab k) [.ref s, .int lim] m) _ _
  unfold f_l_draw b_l_draw
  simp [startM, W_asgT, nCons, nName, nNil, e2, e3, at1, n0, d2, ds, dv, pw, h0, ix1, show ixN 2 1 = some 1 from rfl]
  refine ⟨by omega, ?_⟩
  have md : ∀ x : Int, -18446744073709551616 < x % 2147483647 ∧ x % 2147483647 < 18446744073709551616 := fun x => by omega
  have md2 : ∀ x : Int, -18446744073709551616 < x % 2147483629 ∧ x % 2147483629 < 18446744073709551616 := fun x => by omega
  split
  · have q1 := src2 (cell / lim)
    have q2 := kp2 (cell / lim)
    rw [List.map_set] at q1 q2
    exact ⟨(ans _).1, (ans _).2, q1, q2⟩
  · exact ⟨⟨by omega, by omega⟩, md _, md2 _, (ans _).1, (ans _).2, src1, kp1⟩
/-- a name by the words of the document -/
def IsName (s : Str) : Prop := 1 ≤ s.length ∧ s.length ≤ 8 ∧ (∀ c ∈ s.cps.toList, 97 ≤ c ∧ c ≤ 122) ∧ s ∉ (["and", "or", "not", "if", "else", "is", "none", "true", "false", "set", "give", "try", "except", "end", "then", "program", "keep", "self"] : List Str)
instance (s : Str) : Decidable (IsName s) := by unfold IsName; exact inferInstance
theorem atM_of {l : List MV} {v : Int} (h0 : 0 ≤ v) (h1 : v < l.length) : ∃ d, d ∈ l ∧ atM l v = some d := by
  refine ⟨l[v.toNat]'(by omega), List.getElem_mem _, ?_⟩
  unfold atM ixN
  rw [if_pos h0, if_pos h1]
  show l[v.toNat]? = _
  rw [List.getElem?_eq_getElem]
/-- what came of a draw of an expression -/
theorem Kp.app {S : List Nat} {m r : Mem} : Kp S m (m ++ r) := ⟨by simp, fun n h _ => List.getElem?_append_left h⟩
theorem at_app {m r : Mem} {i : Nat} : (m ++ r)[m.length + i]? = r[i]? := by rw [List.getElem?_append_right (by omega), show m.length + i - m.length = i by omega]
theorem Kp.wrNew {S : List Nat} {m m' : Mem} {f : Nat} {o : MO} (a : Kp S m m') (h : m.length ≤ f) : Kp S m (m'.set f o) :=
  ⟨by simpa using a.1, fun n h1 h2 => by rw [List.getElem?_set_ne (by omega)]; exact a.2 n h1 h2⟩
theorem rngL_length {lo : Int} {n : Nat} : (rngL lo n).length = n := by simp [rngL]
@[simp] theorem at0 {a : MV} {l : List MV} : atM (a :: l) 0 = some a := by
  unfold atM ixN
  rw [if_pos (by decide), if_pos (by simp)]
  rfl
@[simp] theorem at1 {a b : MV} {l : List MV} : atM (a :: b :: l) 1 = some b := by
  unfold atM ixN
  rw [if_pos (by decide), if_pos (by simp; omega)]
  rfl
@[simp] theorem at2 {a b c : MV} {l : List MV} : atM (a :: b :: c :: l) 2 = some c := by
  unfold atM ixN
  rw [if_pos (by decide), if_pos (by simp; omega)]
  rfl
theorem W_eq {α : Type} {r : Re α} {x : α} {m : Mem} (h : MI.W r (fun d m' => d = x ∧ m' = m) E0) : r = .ok x m := by with_unfolding_all
  cases r with
  | ok a m1 => rw [W_ok] at h; obtain ⟨h1, h2⟩ := h; rw [h1, h2]
  | ex x m1 => exact h.elim
  | stuck => exact h.elim
theorem inV_str {s : Str} : ∀ {l : List Str}, inV (.str s) (l.map V.str) = decide (s ∈ l)
  | [] => rfl
  | x :: r => by
    have ih := inV_str (s := s) (l := r)
    unfold inV at ih ⊢
    rw [List.map_cons, List.any_cons, ih]
    show ((x == s) || decide (s ∈ r)) = _
    by_cases h : x = s
    · subst h; simp
    · rw [beq_eq_false_iff_ne.mpr h]
      simp [Ne.symm h]
theorem W_in_strs {s : Str} {l : List Str} {neg : Bool} {m : Mem} {Q : MV → Mem → Prop} {E : Exn → Mem → Prop} : MI.W (gInA neg (.str s) (.tup (l.map .str)) m) Q E = Q (.bl (if neg = true then !decide (s ∈ l) else decide (s ∈ l))) m := by with_unfolding_all
  classical
  unfold gInA
  have al : (l.map MV.str).all flat = true := by with_unfolding_all simp [flat]
  rw [if_neg (by rintro ⟨z, h⟩; cases h), if_neg (by simp), if_pos ⟨_, rfl, rfl, al⟩]
  show MI.W (if flat (.str s) = true ∧ (l.map MV.str).all flat = true then .ok (.bl (if neg then !inV (toV (.str s)) ((l.map MV.str).map toV) else inV (toV (.str s)) ((l.map MV.str).map toV))) m else .stuck) Q E = _
  rw [if_pos ⟨rfl, al⟩]
  have e : (l.map MV.str).map toV = l.map V.str := by with_unfolding_all rw [List.map_map]; rfl
  rw [e]
  show Q (.bl (if neg then !inV (.str s) (l.map V.str) else inV (.str s) (l.map V.str))) m = _
  rw [inV_str]
theorem bls_map : ∀ bs : List Bool, blsOf (bs.map .bl) = some bs
  | [] => rfl
  | b :: r => by
    show (blsOf (r.map .bl)).map (b :: ·) = _
    rw [bls_map r]; rfl
theorem W_all {n : Nat} {bs : List Bool} {m : Mem} {Q : MV → Mem → Prop} {E : Exn → Mem → Prop} (h : m[n]? = some (.lst (bs.map .bl))) : MI.W (gAll [.ref n] m) Q E = Q (.bl (bs.all id)) m := by with_unfolding_all
  show MI.W (match (lstOf m (.ref n)).bind blsOf with | some bs => .ok (.bl (bs.all id)) m | none => .stuck) Q E = _
  simp only [lstOf_ref, h, Option.bind_some, bls_map]
  rfl
theorem kit_ss : kitB "str" "str" = some true := rfl
theorem kit_tt : kitB "tuple" "tuple" = some true := rfl
@[simp] theorem ty_str {m : Mem} {s : Str} : tyM m (.str s) = some "str" := rfl
@[simp] theorem ty_tup {m : Mem} {s : List MV} : tyM m (.tup s) = some "tuple" := rfl
@[simp] theorem ty_int {m : Mem} {s : Int} : tyM m (.int s) = some "int" := rfl
@[simp] theorem ty_bl {m : Mem} {s : Bool} : tyM m (.bl s) = some "bool" := rfl
@[simp] theorem ty_non {m : Mem} : tyM m .non = some "NoneType" := rfl
def isLow (d : MV) : MV := match d with
  | .str z => .bl (!decide (z.cps.toList < ("a" : Str).cps.toList) && !decide (("z" : Str).cps.toList < z.cps.toList))
  | _ => .non
theorem low_c {c : Nat} : isLow (.str ⟨#[c]⟩) = .bl (decide (97 ≤ c ∧ c ≤ 122)) := by
  have e1 : ("a" : Str).cps.toList = [97] := by decide
  have e2 : ("z" : Str).cps.toList = [122] := by decide
  unfold isLow
  simp only [e1, e2]
  have l1 : ([c] < [97]) ↔ c < 97 := by simp [List.cons_lt_cons_iff]
  have l2 : ([122] < [c]) ↔ 122 < c := by simp [List.cons_lt_cons_iff]
  simp only [l1, l2]
  congr 1
  by_cases h1 : c < 97 <;> by_cases h2 : 122 < c <;> simp [h1, h2] <;> omega
abbrev barred : List Str := ["and", "or", "not", "if", "else", "is", "none", "true", "false", "set", "give", "try", "except", "end", "then", "program", "keep", "self"]
/-- the source may be drawn from n more times -/
structure Bud (m : Mem) (s c n : Nat) : Prop where
  ex : ∃ t : Int, Src m s c t ∧ t + n ≤ 2 ^ 50
theorem Bud.kp {m m' : Mem} {s c n : Nat} {S : List Nat} (a : Bud m s c n) (k : Kp S m m') (h1 : s ∉ S) (h2 : c ∉ S) : Bud m' s c n :=
  let ⟨t, h, hl⟩ := a.ex; ⟨t, h.kp k h1 h2, hl⟩
theorem Bud.less {m : Mem} {s c n n' : Nat} (a : Bud m s c n) (h : n' ≤ n) : Bud m s c n' :=
  let ⟨t, h1, hl⟩ := a.ex; ⟨t, h1, by omega⟩
theorem Bud.lt {m : Mem} {s c n : Nat} (a : Bud m s c n) : s < m.length ∧ c < m.length :=
  let ⟨t, h, hl⟩ := a.ex
  let ⟨cells, e1, e2, e3⟩ := h.ex
  ⟨(List.getElem?_eq_some_iff.mp e2).1, (List.getElem?_eq_some_iff.mp e3).1⟩
theorem Bud.new {m : Mem} {s c n : Nat} (a : Bud m s c n) {j : Nat} (h : m.length ≤ j) : j ∉ [s, c] := by
  obtain ⟨h1, h2⟩ := a.lt
  simp
  omega
theorem Bud.any {m m' : Mem} {s c n : Nat} (a : Bud m s c n) (k : Kp [] m m') : Bud m' s c n := a.kp k (by simp) (by simp)
theorem dr_ok {k : Nat} {m : Mem} {s c n : Nat} {lim : Int} (a : Bud m s c (n + 1)) (h0 : 0 < lim) (h1 : lim < 2 ^ 60) :
    MI.W ((Tab (k + 1)).f .l_draw [.ref s, .int lim] m) (fun d m' => ∃ v : Int, d = .int v ∧ 0 ≤ v ∧ v < lim ∧ Bud m' s c n ∧ Kp [s, c] m m') E0 := by
  obtain ⟨t, h, hl⟩ := a.ex
  refine (draw_ok (k := k) h h0 h1 (by omega)).mono ?_
  rintro d m' ⟨v, rfl, v0, v1, h', k', _⟩
  exact ⟨v, rfl, v0, v1, ⟨t + 1, h', by omega⟩, k'⟩
theorem pick_ok {k : Nat} {m : Mem} {s c n x : Nat} {l : List MV} (a : Bud m s c (n + 1)) (hx : m[x]? = some (.lst l)) (xs : x ∉ [s, c]) (h0 : l ≠ []) (h1 : l.length ≤ 3000) :
    MI.W ((Tab (k + 2)).f .l_pick [.ref s, .ref x] m) (fun d m' => d ∈ l ∧ Bud m' s c n ∧ Kp [s, c] m m') E0 := by
  show MI.W (f_l_pick (Tab (k + 1)) [.ref s, .ref x] m) _ _
  unfold f_l_pick b_l_pick
  have hl : 0 < l.length := List.length_pos_iff.mpr h0
  simp [startM, hx]
  refine (dr_ok (k := k) a (by omega) (by omega)).mono ?_
  rintro d m' ⟨v, rfl, v0, v1, b1, k1⟩
  obtain ⟨d, hd, e⟩ := atM_of v0 v1
  simp [k1.get hx xs, e]
  exact ⟨hd, b1, k1⟩
theorem rng_len {n : Nat} : (rngL 0 n).length = n := rngL_length
theorem szl {n : Nat} (h : n ≤ 3000) : n ≤ sizeLine := by rw [sizeLine_eq]; omega
theorem atM_nat {l : List MV} {i : Nat} {d : MV} (h : l[i]? = some d) : atM l (i : Int) = some d := by
  have hi := (List.getElem?_eq_some_iff.mp h).1
  unfold atM ixN
  rw [if_pos (by omega), if_pos (by omega)]
  show l[(i : Int).toNat]? = _
  rw [Int.toNat_natCast]
  exact h
theorem drop_rng {lo : Int} {n i : Nat} (h : i < n) : (rngL lo n).drop i = .int (lo + i) :: (rngL lo n).drop (i + 1) := by
  rw [List.drop_eq_getElem_cons (by rw [rngL_length]; exact h)]
  simp [rngL]
theorem ixN_nat {n i : Nat} (h : i < n) : ixN n (i : Int) = some i := by
  unfold ixN
  rw [if_pos (by omega), if_pos (by omega)]
  simp
theorem at_set {m : Mem} {n : Nat} {o o' : MO} (h : m[n]? = some o) : (m.set n o')[n]? = some o' := List.getElem?_set_self (List.getElem?_eq_some_iff.mp h).1
structure SoI (m : Mem) (e0 : MV) (rem : List MV) (ρ : MI.Env) (m' : Mem) : Prop where
  ex : ∃ (i c N : Nat) (cs : List Int) (x2 : Option MV), rem = (rngL 0 N).drop i ∧ ρ = [some e0, some (.ref c), x2] ∧ m'[c]? = some (.lst (cs.map .int)) ∧ cs.length = N ∧ m.length ≤ c ∧ Kp [] m m'
theorem source_ok {k : Nat} {m : Mem} {ns : List Int} : MI.W ((Tab (k + 1)).f .l_source [.kl (ns.map .int)] m) (fun d m' => ∃ s c, d = .ref s ∧ Src m' s c 0 ∧ m.length ≤ s ∧ m.length ≤ c ∧ Kp [] m m') E0 := by
  show MI.W (f_l_source (Tab k) [.kl (ns.map .int)] m) _ _
  unfold f_l_source b_l_source
  simp [startM]
  have hcut : ∃ cs : List Int, cutM (ns.map MV.int) none (some 63) = cs.map .int ∧ cs.length ≤ 63 := ⟨cutM ns none (some 63), by unfold cutM; simp [List.map_take, List.map_drop], by unfold cutM HT.sIx; simp; omega⟩
  obtain ⟨cs, e1, e2⟩ := hcut
  rw [e1]
  simp
  refine ⟨by omega, ?_⟩
  refine W_loop (SoI m (.kl (ns.map .int))) _ _ _ ⟨0, _, _, cs, none, rfl, rfl, List.getElem?_concat_length, by simp, Nat.le_refl _, Kp.push⟩ (fun _ _ _ _ => trivial) ?_ ?_
  · rintro d rem ρ m1 ⟨i, c, N, cs, x2, q1, rfl, q3, q4, q5, q6⟩
    by_cases hi : i < N
    · rw [drop_rng hi] at q1
      cases q1
      have ea : atM (cs.map MV.int) (i : Nat) = some (.int cs[i]) := atM_nat (by simp [q4, hi])
      have pw1 : CPowW 10 18 := by decide
      have pw2 : CPowW 10 60 := by decide
      have pw3 : CPowW 1000000000000000000000000000000000000000000000000000000000000 20 := by decide
      have st : ∀ v : Int, SoI m (.kl (ns.map .int)) ((rngL 0 N).drop (i + 1)) [some (.kl (ns.map .int)), some (.ref c), some (.int (i : Nat))] (m1.set c (.lst ((cs.map MV.int).set i (.int v)))) := fun v =>
        ⟨i + 1, c, N, cs.set i v, _, rfl, rfl, by rw [at_set q3, List.map_set], by simpa using q4, q5, q6.wrNew q5⟩
      have nx : SoI m (.kl (ns.map .int)) ((rngL 0 N).drop (i + 1)) [some (.kl (ns.map .int)), some (.ref c), some (.int (i : Nat))] m1 := ⟨i + 1, c, N, cs, _, rfl, rfl, q3, q4, q5, q6⟩
      simp [q3, ea, pw1, pw2, pw3, ixN_nat, q4, hi]
      split
      · split
        · exact st _
        · exact nx
      · split
        · exact st _
        · exact nx
    · rw [List.drop_of_length_le (by rw [rngL_length]; omega)] at q1
      cases q1
  · rintro ρ m1 ⟨i, c, N, cs, x2, q1, rfl, q3, q4, q5, q6⟩
    simp
    have lc : c < m1.length := (List.getElem?_eq_some_iff.mp q3).1
    have q3' : (m1 ++ [MO.lst []])[c]? = some (.lst (cs.map .int)) := (Kp.push (S := [])).get q3 (by simp)
    rw [q3']
    simp
    have lm := q6.1
    split
    · refine ⟨szl (by decide), szl (by decide), m1.length + 1, ⟨⟨[0], by simp, ?_, ?_⟩, by omega, by omega⟩, by omega, by omega, q6.trans Kp.app⟩
      · rw [show m1.length + 1 + 1 = m1.length + 2 by omega, at_app]; rfl
      · rw [at_app]; rfl
    · refine ⟨szl (by decide), c, ⟨⟨cs, by assumption, ?_, ?_⟩, by omega, by omega⟩, by omega, by omega, q6.trans Kp.app⟩
      · rw [at_app]; rfl
      · exact (Kp.app (S := [])).get q3 (by simp)
theorem W_range {i n : Nat} {body : MS} {ρ : MI.Env} {m : Mem} {Q : Fl → Mem → Prop} {E : Exn → Mem → Prop} (I : Nat → MI.Env → Mem → Prop) (h0 : I 0 ρ m) (hs : ∀ j ρ m, j < n → I j ρ m → MI.W (body (ρ.set i (some (.int ((j : Nat) : Int)))) m) (fun a m => match a with | .nx ρ' => I (j + 1) ρ' m | .ct ρ' => I (j + 1) ρ' m | .bk ρ' => Q (.nx ρ') m | a => Q a m) E) (hd : ∀ ρ m, I n ρ m → Q (.nx ρ) m) : MI.W (loopM (fun _ => True) (nName i) body (rngL 0 n) ρ m) Q E := by
  have get : ∀ j, j < n → rngL 0 n = (rngL 0 n).take j ++ .int ((j : Nat) : Int) :: (rngL 0 n).drop (j + 1) := fun j hj => by
    have : (rngL 0 n)[j]'(by rw [rng_len]; exact hj) = .int ((j : Nat) : Int) := by simp [rngL]
    rw [← this, List.getElem_cons_drop, List.take_append_drop]
  refine W_loop (fun l ρ m => ∃ j, j ≤ n ∧ l = (rngL 0 n).drop j ∧ I j ρ m) _ ρ m ⟨0, by omega, by simp, h0⟩ (fun _ _ _ _ => trivial) ?_ ?_
  · rintro d l ρ m ⟨j, hj, hl, hI⟩
    have hj2 : j < n := by
      rcases Nat.lt_or_ge j n with h | h
      · exact h
      · rw [List.drop_eq_nil_of_le (by rw [rng_len]; exact h)] at hl; cases hl
    rw [List.drop_eq_getElem_cons (by rw [rng_len]; exact hj2)] at hl
    obtain ⟨rfl, rfl⟩ := List.cons.inj hl
    have : (rngL 0 n)[j]'(by rw [rng_len]; exact hj2) = .int ((j : Nat) : Int) := by simp [rngL]
    rw [this]
    refine (hs j ρ m hj2 hI).mono ?_
    intro a m' h
    cases a with
    | nx ρ' => exact ⟨j + 1, by omega, rfl, h⟩
    | ct ρ' => exact ⟨j + 1, by omega, rfl, h⟩
    | bk ρ' => exact h
    | rt d => exact h
    | ex x ρ' => exact h
  · rintro ρ m ⟨j, hj, hl, hI⟩
    have : j = n := by
      rcases Nat.lt_or_ge j n with h | h
      · have := congrArg List.length hl
        rw [List.length_drop, rng_len] at this
        simp at this
        omega
      · omega
    subst this
    exact hd ρ m hI
end K32
set_option maxHeartbeats 4000000
namespace K32
open PySem L2 MI
abbrev consts : List Str := ["none", "true", "false"]
abbrev signs : List Str := ["<", "<=", ">", ">=", "==", "!="]
def vlV : Vl → MV
  | .ans a => .tup [.str "object", .tup [.str "event", .int a]]
  | .con c => c
def anV : Option Nat → MV
  | some a => .int a
  | none => .non
abbrev nms : List Str := ["a", "b", "x"]
def ConOk (c : MV) : Prop := (∃ s ∈ consts, c = .tup [.str s]) ∨ ∃ nm : Str, nm ∈ nms ∧ c = .tup [.str "object", .tup [.str "name", .str nm]]
def VlOk : Vl → Prop
  | .ans _ => True
  | .con c => ConOk c
theorem s_ev : ¬ (("name" : Str) = "event") := by decide
theorem c_ob : ∀ s ∈ consts, ¬ (s = "object") := by decide
/-- what a value's answer is -/
theorem lans_ok {k : Nat} {m : Mem} {v : Vl} (h : VlOk v) : MI.W ((Tab (k + 1)).f .l_answer [vlV v] m) (fun d m' => d = anV v.an ∧ m' = m) E0 := by
  have e1 : (Tab (k + 1)).f .l_answer = f_l_answer (Tab k) := rfl
  rw [e1]
  unfold f_l_answer b_l_answer
  cases v with
  | ans a => simp [vlV, startM, Vl.an, anV]
  | con c =>
    rcases h with ⟨s, hs, rfl⟩ | ⟨nm, _, rfl⟩
    · have := c_ob s hs
      simp [vlV, startM, Vl.an, anV, this]
    · simp [vlV, startM, Vl.an, anV, s_ev]
theorem uans_ok {k : Nat} {m : Mem} {v : Vl} (h : VlOk v) : MI.W ((Tab (k + 1)).f .u_answer_of [vlV v] m) (fun d m' => d = anV v.an ∧ m' = m) E0 := by
  have e1 : (Tab (k + 1)).f .u_answer_of = f_u_answer_of (Tab k) := rfl
  rw [e1]
  unfold f_u_answer_of b_u_answer_of
  cases v with
  | ans a => simp [vlV, startM, Vl.an, anV]
  | con c =>
    rcases h with ⟨s, hs, rfl⟩ | ⟨nm, _, rfl⟩
    · have := c_ob s hs
      simp [vlV, startM, Vl.an, anV, this]
    · simp [vlV, startM, Vl.an, anV, s_ev]
def deco (d : MV) : Option Nat := match d with
  | .tup [.str w, .tup [.str x, .int a]] => if w = "object" ∧ x = "event" then some a.toNat else none
  | _ => none
theorem deco_v {v : Vl} (h : VlOk v) : deco (vlV v) = v.an := by
  cases v with
  | ans a => simp [deco, vlV, Vl.an]
  | con c =>
    rcases h with ⟨s, hs, rfl⟩ | ⟨nm, _, rfl⟩
    · rfl
    · rfl
def intsV (l : List Nat) : List MV := l.map fun (a : Nat) => .int a
theorem us_deco : ∀ {vs : List Vl}, (∀ v ∈ vs, VlOk v) → ((vs.map vlV).filter fun d => (deco d).isSome).map (fun d => anV (deco d)) = intsV (us vs)
  | [], _ => rfl
  | v :: vs, h => by
    have hv := deco_v (h v List.mem_cons_self)
    have ih := us_deco (vs := vs) fun x hx => h x (List.mem_cons_of_mem _ hx)
    rw [List.map_cons, List.filter_cons, hv]
    cases v with
    | ans a =>
      show (vlV (.ans a) :: _).map _ = .int (a : Nat) :: intsV (us vs)
      rw [List.map_cons, hv, ih]
      rfl
    | con c => exact ih
theorem uin_ok {k : Nat} {m : Mem} {vs : List Vl} (h : ∀ v ∈ vs, VlOk v) (hl : vs.length ≤ 1000) : MI.W ((Tab (k + 2)).f .u_answers_in [.tup (vs.map vlV)] m) (fun d m' => d = .ref m.length ∧ m' = m ++ [.lst (intsV (us vs))]) E0 := by
  have e1 : (Tab (k + 2)).f .u_answers_in = f_u_answers_in (Tab (k + 1)) := rfl
  rw [e1]
  unfold f_u_answers_in b_u_answers_in
  simp [startM]
  refine W_pureN (fun d => anV (deco d)) (fun d => (deco d).isSome) trivial (fun d hd => ?_) (by simp; omega) (fun k1 h1 => ?_)
  · obtain ⟨v, hv, rfl⟩ := List.mem_map.mp hd
    have hd2 := deco_v (h v hv)
    rw [hd2]
    refine ⟨W_eq ?_, fun _ => W_eq ?_⟩
    · simp [wipeM]
      refine (uans_ok (k := k) (h v hv)).mono ?_
      rintro d m' ⟨rfl, rfl⟩
      cases v.an <;> simp [anV]
    · simp [wipeM]
      exact uans_ok (k := k) (h v hv)
  · rw [us_deco h] at h1
    subst h1
    simp
end K32
set_option maxHeartbeats 4000000
namespace K32
open PySem L2 MI
@[simp] theorem W_rngg2 {ρ : MI.Env} {m : Mem} {g : MA} {Q : IterM → Mem → Prop} {E : Exn → Mem → Prop} : MI.W (mRng2 g ρ m) Q E = MI.W (g ρ m) (fun ds m => MI.W (rngOf2 ds m) Q E) E := by
  unfold mRng2
  simp
@[simp] theorem W_rng2 {i j : Int} {m : Mem} {Q : IterM → Mem → Prop} {E : Exn → Mem → Prop} : MI.W (rngOf2 [.int i, .int j] m) Q E = ((-(2 ^ 62) ≤ i ∧ i < 2 ^ 62 ∧ -(2 ^ 62) ≤ j ∧ j < 2 ^ 62) ∧ Q ⟨rngL i (j - i).toNat, fun _ => True⟩ m) := by
  show MI.W (if -(2 ^ 62) ≤ i ∧ i < 2 ^ 62 ∧ -(2 ^ 62) ≤ j ∧ j < 2 ^ 62 then .ok ⟨rngL i (j - i).toNat, fun _ => True⟩ m else .stuck) Q E = _
  by_cases h : -(2 ^ 62) ≤ i ∧ i < 2 ^ 62 ∧ -(2 ^ 62) ≤ j ∧ j < 2 ^ 62
  · rw [if_pos h]; simp only [W_ok, eq_iff_iff]; exact ⟨fun q => ⟨h, q⟩, fun q => q.2⟩
  · rw [if_neg h]; simp only [W_stuck, eq_iff_iff]; exact ⟨fun q => q.elim, fun q => h q.1⟩
/-- a loop over numbers from lo on -/
theorem W_range2 {i lo n : Nat} {body : MS} {ρ : MI.Env} {m : Mem} {Q : Fl → Mem → Prop} {E : Exn → Mem → Prop} (I : Nat → MI.Env → Mem → Prop) (h0 : I 0 ρ m) (hs : ∀ j ρ m, j < n → I j ρ m → MI.W (body (ρ.set i (some (.int ((lo + j : Nat) : Int)))) m) (fun a m => match a with | .nx ρ' => I (j + 1) ρ' m | .ct ρ' => I (j + 1) ρ' m | .bk ρ' => Q (.nx ρ') m | a => Q a m) E) (hd : ∀ ρ m, I n ρ m → Q (.nx ρ) m) : MI.W (loopM (fun _ => True) (nName i) body (rngL lo n) ρ m) Q E := by
  have len : (rngL lo n).length = n := rngL_length
  refine W_loop (fun l ρ m => ∃ j, j ≤ n ∧ l = (rngL lo n).drop j ∧ I j ρ m) _ ρ m ⟨0, by omega, by simp, h0⟩ (fun _ _ _ _ => trivial) ?_ ?_
  · rintro d l ρ m ⟨j, hj, hl, hI⟩
    have hj2 : j < n := by
      rcases Nat.lt_or_ge j n with h | h
      · exact h
      · rw [List.drop_eq_nil_of_le (by rw [len]; exact h)] at hl; cases hl
    rw [List.drop_eq_getElem_cons (by rw [len]; exact hj2)] at hl
    obtain ⟨rfl, rfl⟩ := List.cons.inj hl
    have : (rngL lo n)[j]'(by rw [len]; exact hj2) = .int ((lo + j : Nat) : Int) := by simp [rngL]
    rw [this]
    refine (hs j ρ m hj2 hI).mono ?_
    intro a m' h
    cases a with
    | nx ρ' => exact ⟨j + 1, by omega, rfl, h⟩
    | ct ρ' => exact ⟨j + 1, by omega, rfl, h⟩
    | bk ρ' => exact h
    | rt d => exact h
    | ex x ρ' => exact h
  · rintro ρ m ⟨j, hj, hl, hI⟩
    have : j = n := by
      rcases Nat.lt_or_ge j n with h | h
      · have := congrArg List.length hl
        rw [List.length_drop, len] at this
        simp at this
        omega
      · omega
    subst this
    exact hd ρ m hI
structure TabAt (m : Mem) (t N : Nat) (f : Nat → Nat → MV) : Prop where
  ex : ∃ rows : List Nat, rows.length = N ∧ m[t]? = some (.lst (rows.map .ref)) ∧ ∀ b, b < N → ∃ a, rows[b]? = some a ∧ m[a]? = some (.lst ((List.range N).map (f b)))
theorem TabAt.kp {m m' : Mem} {t N : Nat} {f : Nat → Nat → MV} (h : TabAt m t N f) (k : Kp [] m m') : TabAt m' t N f := by
  obtain ⟨rows, h1, h2, h3⟩ := h.ex
  refine ⟨rows, h1, k.get h2 (by simp), fun b hb => ?_⟩
  obtain ⟨a, g1, g2⟩ := h3 b hb
  exact ⟨a, g1, k.get g2 (by simp)⟩
def blF (can : Nat → Nat → Bool) : Nat → Nat → MV := fun b e => .bl (can b e)
theorem cut1 {a : MV} {l : List MV} : cutM (a :: l) (some 1) none = l := by
  unfold cutM HT.sIx
  simp
/-- a truth, and nothing is changed -/
structure Bz (P : Prop) (m : Mem) (d : MV) (m' : Mem) : Prop where
  ex : ∃ z : Bool, d = .bl z ∧ (z = true ↔ P)
  kp : Kp [] m m'
theorem Bz.of {P P' : Prop} {m m1 m' : Mem} {d : MV} (h : Bz P m1 d m') (k : Kp [] m m1) (e : P ↔ P') : Bz P' m d m' :=
  let ⟨z, h1, h2⟩ := h.ex; ⟨⟨z, h1, h2.trans e⟩, k.trans h.kp⟩
theorem bz_t {P : Prop} {m m' : Mem} (h : P) (k : Kp [] m m') : Bz P m (.bl true) m' := ⟨⟨true, rfl, by simp [h]⟩, k⟩
theorem bz_f {P : Prop} {m m' : Mem} (h : ¬ P) (k : Kp [] m m') : Bz P m (.bl false) m' := ⟨⟨false, rfl, by simp [h]⟩, k⟩
/-- the answers of a range of numbers up to now -/
structure FiI (m0 : Mem) (a t e : Nat) (v4 : Option MV) (b : Nat) (P : Nat → Prop) (j : Nat) (ρ : MI.Env) (m : Mem) : Prop where
  ex : ∃ y5, ρ = [some (.ref t), some (.ref a), some (.int ((b : Nat) : Int)), some (.int ((e : Nat) : Int)), v4, y5]
  kp : Kp [] m0 m
  no : ∀ i, i < j → ¬ P (b + i)
theorem fits_ok {can : Nat → Nat → Bool} {N t : Nat} : ∀ (l : List Vl) (b e k a : Nat) (m : Mem), TabAt m t N (blF can) → (∀ v ∈ l, VlOk v) → m[a]? = some (.lst (l.map vlV)) → b ≤ e → e < N → l.length ≤ 10 → N ≤ 20 →
    MI.W ((Tab (k + 2 + l.length)).f .l_fits [.ref t, .ref a, .int b, .int e] m) (Bz (fits can l b e) m) E0 := by
  intro l
  induction l with
  | nil =>
    intro b e k a m T hv ha hb he hl hN
    show MI.W (f_l_fits (Tab (k + 1)) _ m) _ _
    unfold f_l_fits b_l_fits
    have ha' : ∀ r : List MO, (m ++ r)[a]? = some (.lst []) := fun r => (Kp.app (S := [])).get (by simpa using ha) (by simp)
    simp [startM, ha']
    refine ⟨⟨_, rfl, ?_⟩, Kp.app⟩
    unfold fits
    simp
    omega
  | cons v l ih =>
    intro b e k a m T hv ha hb he hl hN
    have e1 : (Tab (k + 2 + (v :: l).length)).f .l_fits = f_l_fits (Tab (k + 2 + l.length)) := rfl
    rw [e1]
    unfold f_l_fits b_l_fits
    have hA : ∀ r : List MO, (m ++ r)[a]? = some (.lst (vlV v :: l.map vlV)) := fun r => (Kp.app (S := [])).get (by simpa using ha) (by simp)
    have hv0 := hv v List.mem_cons_self
    have hl' : l.length + 1 ≤ 10 := by simpa using hl
    simp [startM, hA]
    rw [show k + 2 + l.length = (k + 1 + l.length) + 1 by omega]
    refine (lans_ok (k := k + 1 + l.length) hv0).mono ?_ (fun x m' h => h.elim)
    rintro d m1 ⟨rfl, rfl⟩
    rw [show (k + 1 + l.length) + 1 = k + 2 + l.length by omega]
    have T1 : TabAt (m ++ [MO.lst []]) t N (blF can) := T.kp Kp.app
    have A1 := hA [.lst []]
    have k1 : Kp [] m (m ++ [MO.lst []]) := Kp.app
    generalize (m ++ [MO.lst []]) = m1 at T1 A1 k1
    cases v with
    | ans x =>
      simp [Vl.an, anV]
      by_cases h1 : x < b
      · simp [h1]
        exact bz_f (by unfold fits; omega) k1
      · by_cases h2 : e ≤ x
        · simp [h1, h2]
          exact bz_f (by unfold fits; omega) k1
        · obtain ⟨rows, g1, g2, g3⟩ := T1.ex
          obtain ⟨ar, g4, g5⟩ := g3 b (by omega)
          have a1 : atM (rows.map MV.ref) ((b : Nat) : Int) = some (.ref ar) := atM_nat (by rw [List.getElem?_map, g4]; rfl)
          have a2 : atM ((List.range N).map (blF can b)) ((x : Int) + 1) = some (.bl (can b (x + 1))) := by
            have := atM_nat (l := (List.range N).map (blF can b)) (i := x + 1) (d := .bl (can b (x + 1))) (by rw [List.getElem?_map, List.getElem?_range (by omega)]; rfl)
            simpa using this
          simp [h1, h2, g2, a1, g5, a2, A1, tru, cut1]
          cases hc : can b (x + 1) with
          | false =>
            simp
            exact bz_f (by unfold fits; rw [hc]; simp) k1
          | true =>
            simp
            have k2 : Kp [] m1 (m1 ++ [MO.lst (l.map vlV)]) := Kp.app
            have r := ih (x + 1) e k m1.length (m1 ++ [MO.lst (l.map vlV)]) (T1.kp k2) (fun v h => hv v (List.mem_cons_of_mem _ h)) (by simp) (by omega) he (by omega) hN
            simp at r
            refine r.mono ?_ (fun x m' h => h.elim)
            intro d m2 h
            refine h.of (k1.trans k2) ?_
            conv => rhs; unfold fits
            rw [hc]
            have : b ≤ x ∧ x < e := by omega
            simp [this]
    | con c =>
      simp [Vl.an, anV]
      refine ⟨by omega, ?_⟩
      refine W_range2 (FiI m a t e (some .non) b (fun s => can b s = true ∧ fits can l s e)) ⟨⟨none, rfl⟩, k1, by omega⟩ ?_ ?_
      · rintro j ρ m2 hj ⟨⟨y5, rfl⟩, k2, no⟩
        have T2 := T.kp k2
        have A2 := k2.get ha (by simp)
        obtain ⟨rows, g1, g2, g3⟩ := T2.ex
        obtain ⟨ar, g4, g5⟩ := g3 b (by omega)
        have a1 : atM (rows.map MV.ref) ((b : Nat) : Int) = some (.ref ar) := atM_nat (by rw [List.getElem?_map, g4]; rfl)
        have a2 : atM ((List.range N).map (blF can b)) ((b : Int) + j) = some (.bl (can b (b + j))) := by
          have := atM_nat (l := (List.range N).map (blF can b)) (i := b + j) (d := .bl (can b (b + j))) (by rw [List.getElem?_map, List.getElem?_range (by omega)]; rfl)
          simpa using this
        simp [g2, a1, g5, a2, A2, tru, cut1]
        cases hc : can b (b + j) with
        | false =>
          simp
          exact ⟨⟨_, rfl⟩, k2, fun i hi => by
            rcases Nat.lt_or_ge i j with h | h
            · exact no i h
            · rw [show i = j by omega, hc]; simp⟩
        | true =>
          simp
          have k3 : Kp [] m2 (m2 ++ [MO.lst (l.map vlV)]) := Kp.app
          have r := ih (b + j) e k m2.length (m2 ++ [MO.lst (l.map vlV)]) (T2.kp k3) (fun v h => hv v (List.mem_cons_of_mem _ h)) (by simp) (by omega) he (by omega) hN
          simp at r
          refine r.mono ?_ (fun x m' h => h.elim)
          intro d m3 h
          obtain ⟨z, rfl, hz⟩ := h.ex
          have k4 := (k2.trans k3).trans h.kp
          cases z with
          | true =>
            simp
            exact bz_t (by unfold fits; exact ⟨b + j, by omega, by omega, hc, hz.mp rfl⟩) k4
          | false =>
            simp
            exact ⟨⟨_, rfl⟩, k4, fun i hi => by
              rcases Nat.lt_or_ge i j with h | h
              · exact no i h
              · rw [show i = j by omega]; simp at hz; simp [hz]⟩
      · rintro ρ m2 ⟨⟨y5, rfl⟩, k2, no⟩
        simp
        exact bz_f (by
          unfold fits
          rintro ⟨t', h1, h2, h3, h4⟩
          exact no (t' - b) (by omega) (by rw [show b + (t' - b) = t' by omega]; exact ⟨h3, h4⟩)) k2
end K32
set_option maxHeartbeats 4000000
namespace K32
open PySem L2 MI
theorem fits_congr {c c' : Nat → Nat → Bool} {b0 e0 : Nat} (h : ∀ x y, b0 ≤ x → x ≤ y → y ≤ e0 → c x y = c' x y) : ∀ (l : List Vl) (b e : Nat), b0 ≤ b → b ≤ e → e ≤ e0 → (fits c l b e ↔ fits c' l b e)
  | [], b, e, _, _, _ => Iff.rfl
  | .ans a :: r, b, e, hb, hl, he => by
    unfold fits
    constructor
    · rintro ⟨h1, h2, h3, h4⟩
      exact ⟨h1, h2, by rw [← h b (a + 1) hb (by omega) (by omega)]; exact h3, (fits_congr h r (a + 1) e (by omega) (by omega) he).mp h4⟩
    · rintro ⟨h1, h2, h3, h4⟩
      exact ⟨h1, h2, by rw [h b (a + 1) hb (by omega) (by omega)]; exact h3, (fits_congr h r (a + 1) e (by omega) (by omega) he).mpr h4⟩
  | .con _ :: r, b, e, hb, hl, he => by
    unfold fits
    constructor
    · rintro ⟨t, h1, h2, h3, h4⟩
      exact ⟨t, h1, h2, by rw [← h b t hb h1 (by omega)]; exact h3, (fits_congr h r t e (by omega) h2 he).mp h4⟩
    · rintro ⟨t, h1, h2, h3, h4⟩
      exact ⟨t, h1, h2, by rw [h b t hb h1 (by omega)]; exact h3, (fits_congr h r t e (by omega) h2 he).mpr h4⟩
def condL (V : Evs) (c : Nat → Nat → Bool) (l t : Nat) : Prop := V.sg t = true ∧ (V.vs t)[1]? = (V.vs l)[0]? ∧ fits c (second (V.vs l)) (t + 1) l
open Classical in
noncomputable def linkL (V : Evs) (c : Nat → Nat → Bool) (k : Nat → Nat → Nat) (b l : Nat) : Nat → Nat
  | 0 => 9
  | j + 1 => if condL V c l (b + j) then min (linkL V c k b l j) (1 + k b (b + j)) else linkL V c k b l j
open Classical in
noncomputable def linkS (V : Evs) (c : Nat → Nat → Bool) (k : Nat → Nat → Nat) (b l : Nat) : Nat := if fits c (V.vs l) b l then 1 else linkL V c k b l (l - b)
open Classical in
noncomputable def canS (V : Evs) (c : Nat → Nat → Bool) (k : Nat) (b l : Nat) : Bool := decide ((if V.sg l = true then k < 5 else fits c (V.vs l) b l) ∨ ∃ t, b < t ∧ t ≤ l ∧ c b t = true ∧ c t (l + 1) = true)
theorem canS_iff {V : Evs} {c : Nat → Nat → Bool} {k b l : Nat} : canS V c k b l = true ↔ ((if V.sg l = true then k < 5 else fits c (V.vs l) b l) ∨ ∃ t, b < t ∧ t ≤ l ∧ c b t = true ∧ c t (l + 1) = true) := by
  classical
  unfold canS
  rw [decide_eq_true_eq]
noncomputable def Tb (V : Evs) : Nat → (Nat → Nat → Bool) × (Nat → Nat → Nat)
  | 0 => (fun b e => decide (b = e), fun _ _ => 9)
  | w + 1 => (fun b e => if b + (w + 1) = e then canS V (Tb V w).1 (linkS V (Tb V w).1 (Tb V w).2 b (e - 1)) b (e - 1) else (Tb V w).1 b e,
      fun b l => if b + w = l ∧ V.sg l = true then linkS V (Tb V w).1 (Tb V w).2 b l else (Tb V w).2 b l)
theorem Tb1 {V : Evs} {w b e : Nat} (h : b ≤ e) (hw : e - b ≤ w) : ∀ {w'}, w ≤ w' → (Tb V w').1 b e = (Tb V w).1 b e := by
  intro w' h'
  induction w' with
  | zero => rw [show w = 0 by omega]
  | succ n ih =>
    by_cases q : w = n + 1
    · rw [q]
    · show (if b + (n + 1) = e then _ else (Tb V n).1 b e) = _
      rw [if_neg (by omega)]
      exact ih (by omega)
theorem Tb2 {V : Evs} {w b l : Nat} (h : b ≤ l) (hw : l - b < w) : ∀ {w'}, w ≤ w' → (Tb V w').2 b l = (Tb V w).2 b l := by
  intro w' h'
  induction w' with
  | zero => rw [show w = 0 by omega]
  | succ n ih =>
    by_cases q : w = n + 1
    · rw [q]
    · show (if b + n = l ∧ V.sg l = true then _ else (Tb V n).2 b l) = _
      rw [if_neg (by omega)]
      exact ih (by omega)
theorem Tb_can {V : Evs} {n b l : Nat} (h : b ≤ l) (hl : l < n) : (Tb V n).1 b (l + 1) = canS V (Tb V (l - b)).1 (linkS V (Tb V (l - b)).1 (Tb V (l - b)).2 b l) b l := by
  rw [Tb1 (w := l - b + 1) (by omega) (by omega) (by omega)]
  show (if b + (l - b + 1) = l + 1 then _ else _) = _
  rw [if_pos (by omega)]
  rfl
theorem Tb_lk {V : Evs} {n b l : Nat} (h : b ≤ l) (hl : l < n) (sg : V.sg l = true) : (Tb V n).2 b l = linkS V (Tb V (l - b)).1 (Tb V (l - b)).2 b l := by
  rw [Tb2 (w := l - b + 1) (by omega) (by omega) (by omega)]
  show (if b + (l - b) = l ∧ V.sg l = true then _ else _) = _
  rw [if_pos ⟨by omega, sg⟩]
theorem condL_congr {V : Evs} {c c' : Nat → Nat → Bool} {b l t : Nat} (h : ∀ x y, b ≤ x → x ≤ y → y ≤ l → c x y = c' x y) (h1 : b ≤ t) (h2 : t < l) : condL V c l t ↔ condL V c' l t := by
  unfold condL
  rw [fits_congr h _ (t + 1) l (by omega) (by omega) (Nat.le_refl _)]
theorem linkL_congr {V : Evs} {c c' : Nat → Nat → Bool} {k k' : Nat → Nat → Nat} {b l : Nat} (h : ∀ x y, b ≤ x → x ≤ y → y ≤ l → c x y = c' x y) (hk : ∀ t, b ≤ t → t < l → V.sg t = true → k b t = k' b t) : ∀ j, b + j ≤ l → linkL V c k b l j = linkL V c' k' b l j := by
  intro j hj
  induction j with
  | zero => rfl
  | succ j ih =>
    unfold linkL
    rw [ih (by omega)]
    have q := condL_congr (V := V) h (t := b + j) (by omega) (by omega)
    by_cases d : condL V c l (b + j)
    · rw [if_pos d, if_pos (q.mp d), hk (b + j) (by omega) (by omega) d.1]
    · rw [if_neg d, if_neg (fun z => d (q.mpr z))]
theorem linkS_congr {V : Evs} {c c' : Nat → Nat → Bool} {k k' : Nat → Nat → Nat} {b l : Nat} (hb : b ≤ l) (h : ∀ x y, b ≤ x → x ≤ y → y ≤ l → c x y = c' x y) (hk : ∀ t, b ≤ t → t < l → V.sg t = true → k b t = k' b t) : linkS V c k b l = linkS V c' k' b l := by
  unfold linkS
  have q := fits_congr h (V.vs l) b l (Nat.le_refl _) hb (Nat.le_refl _)
  rw [linkL_congr h hk (l - b) (by omega)]
  by_cases d : fits c (V.vs l) b l
  · rw [if_pos d, if_pos (q.mp d)]
  · rw [if_neg d, if_neg (fun z => d (q.mpr z))]
theorem linkL_le {V : Evs} {c : Nat → Nat → Bool} {k : Nat → Nat → Nat} {b l : Nat} : ∀ j, linkL V c k b l j ≤ 9 := by
  intro j
  induction j with
  | zero => exact Nat.le_refl _
  | succ j ih =>
    unfold linkL
    split <;> omega
theorem linkL_lk2 {V : Evs} {c : Nat → Nat → Bool} {k : Nat → Nat → Nat} {b l t : Nat} (h1 : b ≤ t) (d : condL V c l t) : ∀ j, t < b + j → linkL V c k b l j ≤ 1 + k b t := by
  intro j
  induction j with
  | zero => intro h; omega
  | succ j ih =>
    intro h
    unfold linkL
    by_cases e : t = b + j
    · subst e
      rw [if_pos d]
      omega
    · have := ih (by omega)
      split <;> omega
theorem linkL_lk3 {V : Evs} {c : Nat → Nat → Bool} {k : Nat → Nat → Nat} {b l : Nat} : ∀ j, linkL V c k b l j = 9 ∨ ∃ t, b ≤ t ∧ t < b + j ∧ condL V c l t ∧ linkL V c k b l j = 1 + k b t := by
  intro j
  induction j with
  | zero => exact .inl rfl
  | succ j ih =>
    unfold linkL
    by_cases d : condL V c l (b + j)
    · rw [if_pos d]
      by_cases e : linkL V c k b l j ≤ 1 + k b (b + j)
      · rw [Nat.min_eq_left e]
        rcases ih with h | ⟨t, h1, h2, h3, h4⟩
        · exact .inl h
        · exact .inr ⟨t, h1, by omega, h3, h4⟩
      · exact .inr ⟨b + j, by omega, by omega, d, by omega⟩
    · rw [if_neg d]
      rcases ih with h | ⟨t, h1, h2, h3, h4⟩
      · exact .inl h
      · exact .inr ⟨t, h1, by omega, h3, h4⟩
theorem Tb_law {V : Evs} {n : Nat} : LawT V n (Tb V n).1 (Tb V n).2 := by
  have nar : ∀ b l, b ≤ l → l < n → ∀ x y, b ≤ x → x ≤ y → y ≤ l → (Tb V (l - b)).1 x y = (Tb V n).1 x y := fun b l h hl x y h1 h2 h3 => (Tb1 h2 (by omega) (by omega)).symm
  have nark : ∀ b l, b ≤ l → l < n → ∀ t, b ≤ t → t < l → (Tb V (l - b)).2 b t = (Tb V n).2 b t := fun b l h hl t h1 h2 => (Tb2 h1 (by omega) (by omega)).symm
  have lk : ∀ b l, b ≤ l → l < n → V.sg l = true → (Tb V n).2 b l = linkS V (Tb V n).1 (Tb V n).2 b l := fun b l h hl sg => by
    rw [Tb_lk h hl sg]
    exact linkS_congr h (nar b l h hl) (fun t h1 h2 _ => nark b l h hl t h1 h2)
  have cut : ∀ b l, b ≤ l → l < n → ((∃ t, b < t ∧ t ≤ l ∧ (Tb V (l - b)).1 b t = true ∧ (Tb V (l - b)).1 t (l + 1) = true) ↔ ∃ t, b < t ∧ t ≤ l ∧ (Tb V n).1 b t = true ∧ (Tb V n).1 t (l + 1) = true) := fun b l h hl => by
    constructor
    · rintro ⟨t, h1, h2, h3, h4⟩
      exact ⟨t, h1, h2, by rw [Tb1 (w := l - b) (by omega) (by omega) (by omega)]; exact h3, by rw [Tb1 (w := l - b) (by omega) (by omega) (by omega)]; exact h4⟩
    · rintro ⟨t, h1, h2, h3, h4⟩
      exact ⟨t, h1, h2, by rw [Tb1 (w := l - b) (by omega) (by omega) (by omega)] at h3; exact h3, by rw [Tb1 (w := l - b) (by omega) (by omega) (by omega)] at h4; exact h4⟩
  refine ⟨?_, ?_, ?_, ?_, ?_, ?_, ?_⟩
  · intro b
    rw [Tb1 (w := 0) (Nat.le_refl _) (by omega) (Nat.zero_le _)]
    simp [Tb]
  · intro b l h hl sg
    rw [Tb_can h hl]
    rw [canS_iff, cut b l h hl, if_neg (by simp [sg]), fits_congr (nar b l h hl) (V.vs l) b l (Nat.le_refl _) h (Nat.le_refl _)]
  · intro b l h hl sg
    rw [Tb_can h hl]
    rw [canS_iff, cut b l h hl, if_pos sg, lk b l h hl sg]
    rw [linkS_congr h (nar b l h hl) (fun t h1 h2 _ => nark b l h hl t h1 h2)]
  · intro b l h hl sg f
    rw [lk b l h hl sg]
    unfold linkS
    rw [if_pos f]
  · intro b l h hl sg
    rw [lk b l h hl sg]
    unfold linkS
    split
    · omega
    · exact linkL_le _
  · intro b l h hl sg t h1 h2 s1 s2 s3 nf
    rw [lk b l h hl sg]
    unfold linkS
    rw [if_neg nf]
    exact linkL_lk2 h1 ⟨s1, s2, s3⟩ _ (by omega)
  · intro b l h hl sg nf
    rw [lk b l h hl sg]
    unfold linkS
    rw [if_neg nf]
    rcases linkL_lk3 (V := V) (c := (Tb V n).1) (k := (Tb V n).2) (b := b) (l := l) (l - b) with h | ⟨t, h1, h2, ⟨s1, s2, s3⟩, h4⟩
    · exact .inl h
    · exact .inr ⟨t, h1, by omega, s1, s2, s3, h4⟩
end K32
set_option maxHeartbeats 4000000
namespace K32
open PySem L2 MI
abbrev Ev := Str × List Vl
def evV (e : Ev) : MV := .tup [.str e.1, .tup (e.2.map vlV)]
def VE (L : List Ev) : Evs := ⟨fun i => match L[i]? with | some e => decide (e.1 ∈ signs) | none => false, fun i => match L[i]? with | some e => e.2 | none => []⟩
theorem VE_sg {L : List Ev} {i : Nat} {e : Ev} (h : L[i]? = some e) : (VE L).sg i = decide (e.1 ∈ signs) := by
  unfold VE
  simp only [h]
theorem VE_vs {L : List Ev} {i : Nat} {e : Ev} (h : L[i]? = some e) : (VE L).vs i = e.2 := by
  unfold VE
  simp only [h]
theorem nm_strOk : ∀ s ∈ nms, PyData.strOk s = true := by decide +kernel
abbrev words : List Str := ["<", "f", "g", "h", "k", "object", "name", "q"]
structure EvG (e : Ev) : Prop where
  ok : ∀ v ∈ e.2, VlOk v
  few : e.2.length ≤ 3
  wd : e.1 ∈ words
structure Evd (L : List Ev) : Prop where
  g : ∀ e ∈ L, EvG e
  ev : EvOk (VE L) L.length
  n7 : L.length ≤ 7
theorem c_strOk : ∀ s ∈ consts, PyData.strOk s = true := by decide +kernel
theorem o_strOk : ∀ s ∈ (["object", "event", "name"] : List Str), PyData.strOk s = true := by decide +kernel
theorem vl_da {v : Vl} (h : VlOk v) : Da (vlV v) := by
  have o1 := o_strOk "object" (by decide)
  have o2 := o_strOk "event" (by decide)
  have o3 := o_strOk "name" (by decide)
  cases v with
  | ans a => exact ⟨by simp [vlV, pu, pus, o1, o2], by simp [vlV, fl, fls], by simp [vlV, dp, dps]⟩
  | con c =>
    rcases h with ⟨s, hs, rfl⟩ | ⟨nm, hn, rfl⟩
    · have := c_strOk s hs
      exact ⟨by simp [vlV, pu, pus, this], by simp [vlV, fl, fls], by simp [vlV, dp, dps]⟩
    · have := nm_strOk nm hn
      exact ⟨by simp [vlV, pu, pus, o1, o3, this], by simp [vlV, fl, fls], by simp [vlV, dp, dps]⟩
theorem vlV_inj {v v' : Vl} (h : VlOk v) (h' : VlOk v') : vlV v = vlV v' ↔ v = v' := by
  constructor
  · intro e
    have d := deco_v h
    rw [e, deco_v h'] at d
    cases v with
    | ans a => cases v' with
      | ans a' => simp [Vl.an] at d; rw [d]
      | con c' => simp [Vl.an] at d
    | con c => cases v' with
      | ans a' => simp [Vl.an] at d
      | con c' => 
        have e : c = c' := e
        rw [e]
  · intro e; rw [e]
/-- the law's table of links -/
def lkF (k : Nat → Nat → Nat) : Nat → Nat → MV := fun b l => .int (k b l)
theorem linkL_no {V : Evs} {c : Nat → Nat → Bool} {k : Nat → Nat → Nat} {b l j : Nat} (h : ¬ condL V c l (b + j)) : linkL V c k b l (j + 1) = linkL V c k b l j := by
  conv => lhs; unfold linkL
  rw [if_neg h]
theorem linkL_yes {V : Evs} {c : Nat → Nat → Bool} {k : Nat → Nat → Nat} {b l j : Nat} (h : condL V c l (b + j)) : linkL V c k b l (j + 1) = min (linkL V c k b l j) (1 + k b (b + j)) := by
  conv => lhs; unfold linkL
  rw [if_pos h]
structure LiI (m0 : Mem) (a t lt b l : Nat) (w vs : MV) (V : Evs) (c : Nat → Nat → Bool) (k : Nat → Nat → Nat) (j : Nat) (ρ : MI.Env) (m : Mem) : Prop where
  ex : ∃ y8, ρ = [some (.ref a), some (.ref t), some (.int ((b : Nat) : Int)), some (.int ((l : Nat) : Int)), some (.ref lt), some w, some vs, some (.int ((linkL V c k b l j : Nat) : Int)), y8]
  kp : Kp [] m0 m
theorem links_ok {c : Nat → Nat → Bool} {lk : Nat → Nat → Nat} {L : List Ev} {N a t lt b l k : Nat} {m : Mem} (D : Evd L) (A : m[a]? = some (.lst (L.map evV))) (T : TabAt m t N (blF c)) (U : TabAt m lt N (lkF lk)) (hb : b ≤ l) (hl : l < L.length) (hN : N = L.length + 1) (sg : (VE L).sg l = true) :
    MI.W ((Tab (k + 6)).f .l_links [.ref a, .ref t, .int b, .int l, .ref lt] m) (fun d m' => d = .int (linkS (VE L) c lk b l) ∧ Kp [] m m') E0 := by
  have e1 : (Tab (k + 6)).f .l_links = f_l_links (Tab (k + 5)) := rfl
  rw [e1]
  unfold f_l_links b_l_links
  obtain ⟨e, he⟩ : ∃ e, L[l]? = some e := ⟨_, List.getElem?_eq_getElem hl⟩
  have eg := D.g e (List.mem_of_getElem? he)
  have vse := VE_vs he
  have two := D.ev.two l hl sg
  rw [vse] at two
  have n7 := D.n7
  have a1 : atM (L.map evV) ((l : Nat) : Int) = some (.tup [.str e.1, .tup (e.2.map vlV)]) := atM_nat (by rw [List.getElem?_map, he]; rfl)
  obtain ⟨w, vs⟩ := e
  match vs, two with
  | [v0, v1], _ =>
  have ev0 := eg.ok v0 (by simp)
  have ev1 := eg.ok v1 (by simp)
  simp [startM, W_asgT, nCons, nName, nNil, A, a1]
  have k1 : Kp [] m (m ++ [MO.lst [vlV v0, vlV v1]]) := Kp.app
  have r := fits_ok (N := N) (can := c) (t := t) [v0, v1] b l (k + 1) m.length (m ++ [MO.lst [vlV v0, vlV v1]]) (T.kp k1) (by simp [ev0, ev1]) (by simp) hb (by omega) (by simp) (by omega)
  refine r.mono ?_ (fun x m' h => h.elim)
  clear r
  intro d m1 h
  obtain ⟨z, rfl, hz⟩ := h.ex
  have k2 := k1.trans h.kp
  clear h k1
  cases z with
  | true =>
    simp
    refine ⟨?_, k2⟩
    unfold linkS
    rw [if_pos (by rw [vse]; exact hz.mp rfl)]
    rfl
  | false =>
    simp
    refine ⟨by omega, ?_⟩
    have nf : ¬ fits c [v0, v1] b l := fun h => by have := hz.mpr h; cases this
    refine W_range2 (LiI m a t lt b l (.str w) (.tup [vlV v0, vlV v1]) (VE L) c lk) ⟨⟨none, rfl⟩, k2⟩ ?_ ?_
    · rintro j ρ m2 hj ⟨⟨y8, rfl⟩, k3⟩
      have A2 := k3.get A (by simp)
      have T2 := T.kp k3
      have U2 := U.kp k3
      obtain ⟨e', he'⟩ : ∃ e, L[b + j]? = some e := ⟨_, List.getElem?_eq_getElem (by omega)⟩
      have eg' := D.g e' (List.mem_of_getElem? he')
      have vse' := VE_vs he'
      have sge' := VE_sg he'
      have two' := D.ev.two (b + j) (by omega)
      rw [vse', sge', decide_eq_true_eq] at two'
      have a2 : atM (L.map evV) ((b : Int) + j) = some (.tup [.str e'.1, .tup (e'.2.map vlV)]) := by
        have := atM_nat (l := L.map evV) (i := b + j) (d := .tup [.str e'.1, .tup (e'.2.map vlV)]) (by rw [List.getElem?_map, he']; rfl)
        simpa using this
      obtain ⟨w', vs'⟩ := e'
      have A3 : ∀ r : List MO, (m2 ++ r)[a]? = some (.lst (L.map evV)) := fun r => (Kp.app (S := [])).get A2 (by simp)
      simp [A2, A3, a2]
      refine ⟨szl (by decide), W_inStr (ns := signs) ?_ ?_⟩
      · simp
      intro z2 hz2
      have A4 := A3 [MO.lst (signs.map .str)]
      have k4 := k3.trans (Kp.app (S := []) (m := m2) (r := [MO.lst (signs.map .str)]))
      simp only [List.map_cons, List.map_nil] at A4 k4
      clear A3
      generalize (m2 ++ [MO.lst _]) = m3 at A4 k4 ⊢
      have T3 := T.kp k4
      have U3 := U.kp k4
      cases z2 with
      | false =>
        simp
        refine ⟨⟨some (.int ((b : Int) + j)), ?_⟩, k4⟩
        have nc : ¬ condL (VE L) c l (b + j) := fun h => by
          have := h.1
          rw [sge', decide_eq_true_eq] at this
          have := hz2.mpr this
          cases this
        rw [linkL_no nc]
      | true =>
        have tw := two' (hz2.mp rfl)
        have sg2 : (VE L).sg (b + j) = true := by rw [sge', decide_eq_true_eq]; exact hz2.mp rfl
        match vs', tw with
        | [u0, u1], _ =>
        have eu1 := eg'.ok u1 (by simp)
        simp [A4, a2]
        refine W_eqD (vl_da eu1) (vl_da ev0) fun z3 hz3 => ?_
        rw [vlV_inj eu1 ev0] at hz3
        cases z3 with
        | false =>
          simp
          refine ⟨⟨some (.int ((b : Int) + j)), ?_⟩, k4⟩
          have nc : ¬ condL (VE L) c l (b + j) := fun h => by
            have := h.2.1
            rw [vse', vse] at this
            simp at this
            have := hz3.mpr this
            cases this
          rw [linkL_no nc]
        | true =>
          simp
          refine ⟨szl (by decide), ?_⟩
          have k5 : Kp [] m3 (m3 ++ [MO.lst [vlV v1]]) := Kp.app
          have r := fits_ok (N := N) (can := c) (t := t) [v1] (b + j + 1) l (k + 2) m3.length (m3 ++ [MO.lst [vlV v1]]) (T3.kp k5) (by simp [ev1]) (by simp) (by omega) (by omega) (by simp) (by omega)
          simp at r
          refine r.mono ?_ (fun x m' h => h.elim)
          clear r
          intro d m4 h
          obtain ⟨z, rfl, hz4⟩ := h.ex
          have k6 := (k4.trans k5).trans h.kp
          clear h
          have sec : second ((VE L).vs l) = [v1] := by rw [vse]; rfl
          have cnd : condL (VE L) c l (b + j) ↔ fits c [v1] (b + j + 1) l := by
            unfold condL
            rw [sec, sg2, vse', vse]
            simp [hz3.mp rfl]
          cases z with
          | false =>
            simp
            refine ⟨⟨some (.int ((b : Int) + j)), ?_⟩, k6⟩
            have nc : ¬ condL (VE L) c l (b + j) := fun h => by
              have := hz4.mpr (cnd.mp h)
              cases this
            rw [linkL_no nc]
          | true =>
            have U4 := U.kp k6
            obtain ⟨rows, g1, g2, g3⟩ := U4.ex
            obtain ⟨ar, g4, g5⟩ := g3 b (by omega)
            have b1 : atM (rows.map MV.ref) ((b : Nat) : Int) = some (.ref ar) := atM_nat (by rw [List.getElem?_map, g4]; rfl)
            have b2 : atM ((List.range N).map (lkF lk b)) ((b : Int) + j) = some (.int (lk b (b + j))) := by
              have := atM_nat (l := (List.range N).map (lkF lk b)) (i := b + j) (d := .int (lk b (b + j))) (by rw [List.getElem?_map, List.getElem?_range (by omega)]; rfl)
              simpa using this
            simp [g2, b1, g5, b2]
            refine ⟨⟨some (.int ((b : Int) + j)), ?_⟩, k6⟩
            have cc := cnd.mpr (hz4.mp rfl)
            rw [linkL_yes cc]
            have : ∀ x y : Nat, (if (1 : Int) + y < x then (1 : Int) + y else x) = ((min x (1 + y) : Nat) : Int) := fun x y => by split <;> omega
            rw [this]
    · rintro ρ m2 ⟨⟨y8, rfl⟩, k3⟩
      simp
      refine ⟨?_, k3⟩
      unfold linkS
      rw [if_neg (by rw [vse]; exact nf)]
end K32
set_option maxHeartbeats 4000000
namespace K32
open PySem L2 MI
structure TabR (m : Mem) (t N : Nat) (f : Nat → Nat → MV) (r : Nat → Nat) (lo : Nat) : Prop where
  hd : m[t]? = some (.lst ((List.range N).map fun b => .ref (r b)))
  row : ∀ b, b < N → m[r b]? = some (.lst ((List.range N).map (f b)))
  bd : ∀ b, b < N → lo ≤ r b ∧ r b < t
  inj : ∀ b b', b < N → b' < N → r b = r b' → b = b'
  lt : lo ≤ t
theorem TabR.at {m : Mem} {t N lo : Nat} {f : Nat → Nat → MV} {r : Nat → Nat} (h : TabR m t N f r lo) : TabAt m t N f :=
  ⟨(List.range N).map r, by simp, by rw [h.hd, List.map_map]; rfl, fun b hb => ⟨r b, by rw [List.getElem?_map, List.getElem?_range hb]; rfl, h.row b hb⟩⟩
theorem TabR.frame {m m' : Mem} {t N lo : Nat} {f : Nat → Nat → MV} {r : Nat → Nat} (h : TabR m t N f r lo) (q : ∀ n, lo ≤ n → n ≤ t → m'[n]? = m[n]?) : TabR m' t N f r lo :=
  ⟨by rw [q t h.lt (Nat.le_refl _)]; exact h.hd, fun b hb => by have := h.bd b hb; rw [q (r b) this.1 (by omega)]; exact h.row b hb, h.bd, h.inj, h.lt⟩
theorem TabR.lt_len {m : Mem} {t N lo : Nat} {f : Nat → Nat → MV} {r : Nat → Nat} (h : TabR m t N f r lo) : t < m.length := (List.getElem?_eq_some_iff.mp h.hd).1
theorem TabR.kp {m m' : Mem} {t N lo : Nat} {f : Nat → Nat → MV} {r : Nat → Nat} (h : TabR m t N f r lo) (k : Kp [] m m') : TabR m' t N f r lo :=
  h.frame fun n h1 h2 => k.2 n (by have := h.lt_len; omega) (by simp)
theorem TabR.cong {m : Mem} {t N lo : Nat} {f f' : Nat → Nat → MV} {r : Nat → Nat} (h : TabR m t N f r lo) (q : ∀ x y, x < N → y < N → f x y = f' x y) : TabR m t N f' r lo :=
  ⟨h.hd, fun b hb => by
    rw [h.row b hb]
    congr 2
    exact List.map_congr_left fun y hy => q b y hb (List.mem_range.mp hy), h.bd, h.inj, h.lt⟩
theorem TabR.set {m : Mem} {t N lo : Nat} {f : Nat → Nat → MV} {r : Nat → Nat} (h : TabR m t N f r lo) {b e : Nat} {v : MV} (hb : b < N) (he : e < N) : TabR (m.set (r b) (.lst (((List.range N).map (f b)).set e v))) t N (fun x y => if x = b ∧ y = e then v else f x y) r lo := by
  refine ⟨?_, ?_, h.bd, h.inj, h.lt⟩
  · have := h.bd b hb
    rw [List.getElem?_set_ne (by omega)]
    exact h.hd
  · intro x hx
    by_cases q : x = b
    · subst q
      rw [at_set (h.row x hb)]
      congr 2
      refine List.ext_getElem (by simp) fun i h1 h2 => ?_
      simp at h1 h2
      rw [List.getElem_set]
      by_cases q : e = i
      · subst q
        simp
      · rw [if_neg q]
        simp [Ne.symm q]
    · rw [List.getElem?_set_ne (fun z => q (h.inj b x hb hx z).symm), h.row x hx]
      congr 2
      exact List.map_congr_left fun y hy => by simp [q]
/-- the law's step: what ends here -/
noncomputable def canA (ck : Tabl) : MS := (mIfS (mB (mBin (gInB false) (mBin gItem (mBin gItem (mVar 0) (mVar 6)) (mC (.int 0))) (mLst (mCons (mC (.str "<")) (mCons (mC (.str "<=")) (mCons (mC (.str ">")) (mCons (mC (.str ">=")) (mCons (mC (.str "==")) (mCons (mC (.str "!=")) mNil)))))))))
    (mSeq (mStore (mBin gItem (mVar 3) (mVar 5)) (mVar 6) (mCall (ck.f .l_links) (mCons (mVar 0) (mCons (mVar 2) (mCons (mVar 5) (mCons (mVar 6) (mCons (mVar 3) mNil)))))))
    (mAsg (mBin gLt (mBin gItem (mBin gItem (mVar 3) (mVar 5)) (mVar 6)) (mC (.int 5))) (nName 9)))
    (mAsg (mCall (ck.f .l_fits) (mCons (mVar 2) (mCons (mCall gListA (mCons (mBin gItem (mBin gItem (mVar 0) (mVar 6)) (mC (.int 1))) mNil)) (mCons (mVar 5) (mCons (mVar 6) mNil))))) (nName 9)))
noncomputable def canB : MS := (mSeq (mAsg (mLc (mRng2 (mCons (mBin gAdd (mVar 5) (mC (.int 1))) (mCons (mBin gAdd (mVar 6) (mC (.int 1))) mNil))) (ngName 10) (mAndT (mTru (mBin gItem (mBin gItem (mVar 2) (mVar 5)) (mVar 10))) (mTru (mBin gItem (mBin gItem (mVar 2) (mVar 10)) (mBin gAdd (mVar 6) (mC (.int 1)))))) (mVar 10) [10]) (nName 7))
    (mStore (mBin gItem (mVar 2) (mVar 5)) (mBin gAdd (mVar 6) (mC (.int 1))) (mOr (mVar 9) (mBin (gEqA true) (mVar 7) (mLst mNil)))))
theorem b_can {ck : Tabl} : b_l_can ck = (mSeq (mAsg (mCall gLen (mCons (mVar 0) mNil)) (nName 1))
    (mSeq (mAsg (mLc (mRng (mCons (mBin gAdd (mVar 1) (mC (.int 1))) mNil)) (ngName 5) mYes (mLc (mRng (mCons (mBin gAdd (mVar 1) (mC (.int 1))) mNil)) (ngName 8) mYes (mBin (gEqA false) (mVar 5) (mVar 8)) [8]) [5]) (nName 2))
    (mSeq (mAsg (mLc (mRng (mCons (mBin gAdd (mVar 1) (mC (.int 1))) mNil)) (ngName 5) mYes (mBin gMul (mLst (mCons (mC (.int 9)) mNil)) (mBin gAdd (mVar 1) (mC (.int 1)))) [5]) (nName 3))
    (mSeq (mFor (mRng2 (mCons (mC (.int 1)) (mCons (mBin gAdd (mVar 1) (mC (.int 1))) mNil))) (nName 4)
    (mFor (mRng (mCons (mBin gSub (mBin gAdd (mVar 1) (mC (.int 1))) (mVar 4)) mNil)) (nName 5)
    (mSeq (mAsg (mBin gSub (mBin gAdd (mVar 5) (mVar 4)) (mC (.int 1))) (nName 6))
    (mSeq (canA ck) canB))))
    (mRet (mBin gItem (mVar 2) (mC (.int 0)))))))) := rfl
def envC (a n t1 t2 w b l : Nat) (y7 y8 y9 y10 : Option MV) : MI.Env := [some (.ref a), some (.int ((n : Nat) : Int)), some (.ref t1), some (.ref t2), some (.int ((w : Nat) : Int)), some (.int ((b : Nat) : Int)), some (.int ((l : Nat) : Int)), y7, y8, y9, y10]
structure CaA (L : List Ev) (m0 : Mem) (a n t1 t2 w b l N lo1 lo2 : Nat) (r1 r2 : Nat → Nat) (y7 y8 y10 : Option MV) (c : Nat → Nat → Bool) (k : Nat → Nat → Nat) (x : Fl) (m : Mem) : Prop where
  ex : ∃ z : Bool, x = .nx (envC a n t1 t2 w b l y7 y8 (some (.bl z)) y10) ∧ (z = true ↔ (if (VE L).sg l = true then linkS (VE L) c k b l < 5 else fits c ((VE L).vs l) b l))
  kp : Kp [] m0 m
  t : TabR m t1 N (blF c) r1 lo1
  u : TabR m t2 N (lkF fun x y => if x = b ∧ y = l ∧ (VE L).sg l = true then linkS (VE L) c k b l else k x y) r2 lo2
theorem canA_ok {c : Nat → Nat → Bool} {lk : Nat → Nat → Nat} {L : List Ev} {N a n t1 t2 w b l k lo1 lo2 : Nat} {r1 r2 : Nat → Nat} {y7 y8 y9 y10 : Option MV} {m0 m : Mem} (D : Evd L) (A : m0[a]? = some (.lst (L.map evV))) (K : Kp [] m0 m) (T : TabR m t1 N (blF c) r1 lo1) (U : TabR m t2 N (lkF lk) r2 lo2) (h0 : m0.length ≤ lo1) (h1 : t1 < lo2) (hb : b ≤ l) (hl : l < L.length) (hN : N = L.length + 1) :
    MI.W (canA (Tab (k + 6)) (envC a n t1 t2 w b l y7 y8 y9 y10) m) (CaA L m0 a n t1 t2 w b l N lo1 lo2 r1 r2 y7 y8 y10 c lk) E0 := by
  unfold canA envC
  have A1 := K.get A (by simp)
  have n7 := D.n7
  obtain ⟨e, he⟩ : ∃ e, L[l]? = some e := ⟨_, List.getElem?_eq_getElem hl⟩
  have eg := D.g e (List.mem_of_getElem? he)
  have vse := VE_vs he
  have sge := VE_sg he
  have a1 : atM (L.map evV) ((l : Nat) : Int) = some (.tup [.str e.1, .tup (e.2.map vlV)]) := atM_nat (by rw [List.getElem?_map, he]; rfl)
  have A2 : ∀ r : List MO, (m ++ r)[a]? = some (.lst (L.map evV)) := fun r => (Kp.app (S := [])).get A1 (by simp)
  obtain ⟨w', vs⟩ := e
  simp [A1, a1]
  refine ⟨szl (by decide), W_inStr (ns := signs) ?_ ?_⟩
  · simp
  intro z hz
  have A3 := A2 [MO.lst (signs.map .str)]
  have k1 : Kp [] m (m ++ [MO.lst (signs.map .str)]) := Kp.app
  simp only [List.map_cons, List.map_nil] at A3 k1
  clear A2
  generalize (m ++ [MO.lst _]) = m1 at A3 k1 ⊢
  have T1 := T.kp k1
  have U1 := U.kp k1
  have K1 := K.trans k1
  cases z with
  | true =>
    have sg : (VE L).sg l = true := by rw [sge, decide_eq_true_eq]; exact hz.mp rfl
    simp
    refine (links_ok (k := k) D A3 T1.at U1.at hb hl hN sg).mono ?_ (fun x m' h => h.elim)
    rintro d m2 ⟨rfl, k2⟩
    have T2 := T1.kp k2
    have U2 := U1.kp k2
    have K2 := K1.trans k2
    have q1 : atM ((List.range N).map fun b => MV.ref (r2 b)) ((b : Nat) : Int) = some (.ref (r2 b)) := atM_nat (by rw [List.getElem?_map, List.getElem?_range (by omega)]; rfl)
    have ix : ixN N ((l : Nat) : Int) = some l := ixN_nat (by omega)
    have U3 := U2.set (b := b) (e := l) (v := .int (linkS (VE L) c lk b l)) (by omega) (by omega)
    have B2 := U2.bd b (by omega)
    have T3 : TabR _ t1 N (blF c) r1 lo1 := T2.frame (m' := m2.set (r2 b) (.lst (((List.range N).map (lkF lk b)).set l (.int (linkS (VE L) c lk b l))))) fun n g1 g2 => List.getElem?_set_ne (by omega)
    have K3 : Kp [] m0 (m2.set (r2 b) (.lst (((List.range N).map (lkF lk b)).set l (.int (linkS (VE L) c lk b l))))) := K2.wrNew (by have := T.lt; omega)
    simp [U2.hd, q1, U2.row b (by omega), ix]
    generalize (m2.set (r2 b) (.lst (((List.range N).map (lkF lk b)).set l (.int (linkS (VE L) c lk b l))))) = m3 at U3 T3 K3 ⊢
    have q2 : atM ((List.range N).map ((fun x y => if x = b ∧ y = l then MV.int ↑(linkS (VE L) c lk b l) else lkF lk x y) b)) ((l : Nat) : Int) = some (.int (linkS (VE L) c lk b l)) := atM_nat (by rw [List.getElem?_map, List.getElem?_range (by omega)]; simp)
    have g1 := U3.row b (by omega)
    simp only [true_and] at g1 q2
    simp [U3.hd, q1, g1, q2]
    refine ⟨⟨_, rfl, ?_⟩, K3, T3, U3.cong fun x y _ _ => ?_⟩
    · rw [if_pos sg]; simp; omega
    · unfold lkF
      simp only [sg, and_true]
      split <;> rfl
  | false =>
    have sg : ¬ (VE L).sg l = true := by rw [sge, decide_eq_true_eq]; exact fun h => by have := hz.mpr h; cases this
    simp [A3, a1]
    have k2 : Kp [] m1 (m1 ++ [MO.lst (vs.map vlV)]) := Kp.app
    have few := eg.few
    simp at few
    have r := fits_ok (N := N) (can := c) (t := t1) vs b l (k + 4 - vs.length) m1.length (m1 ++ [MO.lst (vs.map vlV)]) (T1.kp k2).at eg.ok (by simp) hb (by omega) (by omega) (by omega)
    rw [show k + 4 - vs.length + 2 + vs.length = k + 6 by omega] at r
    refine r.mono ?_ (fun x m' h => h.elim)
    intro d m3 h
    obtain ⟨z, rfl, hz⟩ := h.ex
    have k3 := k2.trans h.kp
    refine ⟨⟨z, rfl, ?_⟩, K1.trans k3, T1.kp k3, (U1.kp k3).cong fun x y _ _ => ?_⟩
    · rw [if_neg sg, vse]; exact hz
    · unfold lkF
      simp [sg]
def pB (c : Nat → Nat → Bool) (b l : Nat) (d : MV) : Bool := match d with
  | .int i => c b i.toNat && c i.toNat (l + 1)
  | _ => false
theorem pB_i {c : Nat → Nat → Bool} {b l i : Nat} : pB c b l (.int ((i : Nat) : Int)) = (c b i && c i (l + 1)) := rfl
theorem das_ints : ∀ {l : List MV}, (∀ d ∈ l, ∃ i : Int, d = .int i) → l.length ≤ 1000 → Das l
  | [], _, _ => ⟨rfl, by simp [fls], by simp [dps]⟩
  | d :: l, h, hl => by
    obtain ⟨i, rfl⟩ := h d List.mem_cons_self
    have ih := das_ints (l := l) (fun x hx => h x (List.mem_cons_of_mem _ hx)) (by simp at hl; omega)
    have f : ∀ {l : List MV}, (∀ d ∈ l, ∃ i : Int, d = .int i) → fls l = l.length := by
      intro l
      induction l with
      | nil => intro _; rfl
      | cons d l ih =>
        intro h
        obtain ⟨i, rfl⟩ := h d List.mem_cons_self
        simp [fls, fl, ih fun x hx => h x (List.mem_cons_of_mem _ hx)]
        omega
    refine ⟨by simp [pus, pu, ih.pu], by rw [f h]; omega, ?_⟩
    have := ih.dp
    simp [dps, dp]
    omega
structure CaB (c : Nat → Nat → Bool) (m0 : Mem) (a n t1 t2 w b l N lo1 lo2 : Nat) (r1 r2 : Nat → Nat) (z : Bool) (y10 : Option MV) (k : Nat → Nat → Nat) (x : Fl) (m : Mem) : Prop where
  ex : ∃ y7 y8 y10, x = .nx (envC a n t1 t2 w b l y7 y8 (some (.bl z)) y10)
  kp : Kp [] m0 m
  t : ∃ z' : Bool, (z' = true ↔ z = true ∨ ∃ t, b < t ∧ t ≤ l ∧ c b t = true ∧ c t (l + 1) = true) ∧ TabR m t1 N (blF fun x y => if x = b ∧ y = l + 1 then z' else c x y) r1 lo1
  u : TabR m t2 N (lkF k) r2 lo2
theorem canB_ok {c : Nat → Nat → Bool} {lk : Nat → Nat → Nat} {N a n t1 t2 w b l lo1 lo2 : Nat} {r1 r2 : Nat → Nat} {y7 y8 y10 : Option MV} {z : Bool} {m0 m : Mem} (K : Kp [] m0 m) (T : TabR m t1 N (blF c) r1 lo1) (U : TabR m t2 N (lkF lk) r2 lo2) (h0 : m0.length ≤ lo1) (h1 : t1 < lo2) (hb : b ≤ l) (hl : l + 1 < N) (hN : N ≤ 20) :
    MI.W (canB (envC a n t1 t2 w b l y7 y8 (some (.bl z)) y10) m) (CaB c m0 a n t1 t2 w b l N lo1 lo2 r1 r2 z y10 lk) E0 := by
  unfold canB envC
  simp
  refine ⟨by omega, ?_⟩
  have q1 : atM ((List.range N).map fun b => MV.ref (r1 b)) ((b : Nat) : Int) = some (.ref (r1 b)) := atM_nat (by rw [List.getElem?_map, List.getElem?_range (by omega)]; rfl)
  have qr : ∀ t : Nat, t < N → atM ((List.range N).map fun b => MV.ref (r1 b)) (t : Int) = some (.ref (r1 t)) := fun t ht => atM_nat (by rw [List.getElem?_map, List.getElem?_range ht]; rfl)
  have qe : ∀ x y : Nat, y < N → atM ((List.range N).map (blF c x)) (y : Int) = some (.bl (c x y)) := fun x y hy => atM_nat (by rw [List.getElem?_map, List.getElem?_range hy]; rfl)
  refine W_pureN (fun d => d) (pB c b l) trivial (fun d hd => ?_) (by simp [rngL_length]; omega) (fun k1 h1 => ?_)
  · obtain ⟨i, hi, rfl⟩ : ∃ i : Nat, i < l - b ∧ d = .int ((b + 1 + i : Nat) : Int) := by
      unfold rngL at hd
      simp at hd
      obtain ⟨i, h1, h2⟩ := hd
      exact ⟨i, by omega, by rw [← h2]; simp⟩
    have g0 := qe b (b + 1 + i) (by omega)
    have g1 := qr (b + 1 + i) (by omega)
    have g2 := qe (b + 1 + i) (l + 1) (by omega)
    have g3 := T.row (b + 1 + i) (by omega)
    rw [show ((l + 1 : Nat) : Int) = (l : Int) + 1 by omega] at g2
    rw [pB_i]
    generalize hX : ((b + 1 + i : Nat) : Int) = X at g0 g1
    refine ⟨W_eq ?_, fun _ => W_eq ?_⟩
    · simp [wipeM, T.hd, q1, T.row b (by omega), g0, g1, g2, g3, tru]
      cases c b (b + 1 + i) <;> simp
    · simp [wipeM]
  · have hm : ∀ r : List MO, Kp [] m (m ++ r) := fun r => Kp.app
    rw [List.map_id'] at h1
    have mem : ∀ d, d ∈ k1 ↔ d ∈ rngL ((b : Int) + 1) ((l : Int) + 1 - ((b : Int) + 1)).toNat ∧ pB c b l d = true := fun d => by rw [h1, List.mem_filter]
    have dk : Das k1 := das_ints (fun d hd => by
      have := ((mem d).mp hd).1
      unfold rngL at this
      simp at this
      obtain ⟨i, _, h2⟩ := this
      exact ⟨_, h2.symm⟩) (by
      rw [h1]
      have := List.length_filter_le (pB c b l) (rngL ((b : Int) + 1) ((l : Int) + 1 - ((b : Int) + 1)).toNat)
      rw [rngL_length] at this
      omega)
    have hk : k1 ≠ [] ↔ ∃ t, b < t ∧ t ≤ l ∧ c b t = true ∧ c t (l + 1) = true := by
      constructor
      · intro h
        obtain ⟨d, hd⟩ := List.exists_mem_of_ne_nil _ h
        obtain ⟨q1, q2⟩ := (mem d).mp hd
        unfold rngL at q1
        simp at q1
        obtain ⟨i, h1, rfl⟩ := q1
        rw [show ((b : Int) + 1 + i) = ((b + 1 + i : Nat) : Int) by omega, pB_i] at q2
        simp at q2
        exact ⟨b + 1 + i, by omega, by omega, q2⟩
      · rintro ⟨t, t1, t2, t3, t4⟩
        refine List.ne_nil_of_mem ((mem (.int ((t : Nat) : Int))).mpr ⟨?_, by rw [pB_i, t3, t4]; rfl⟩)
        unfold rngL
        simp
        exact ⟨t - (b + 1), by omega, by omega⟩
    have fin : ∀ (m1 : Mem) (z' : Bool), Kp [] m m1 → (z' = true ↔ z = true ∨ ∃ t, b < t ∧ t ≤ l ∧ c b t = true ∧ c t (l + 1) = true) → ∀ x, (∃ y7 y8 y10, x = .nx (envC a n t1 t2 w b l y7 y8 (some (.bl z)) y10)) → CaB c m0 a n t1 t2 w b l N lo1 lo2 r1 r2 z y10 lk x (m1.set (r1 b) (.lst (((List.range N).map (blF c b)).set (l + 1) (.bl z')))) := by
      intro m1 z' k2 hz x hx
      have T1 := (T.kp k2).set (b := b) (e := l + 1) (v := .bl z') (by omega) (by omega)
      have B := T.bd b (by omega)
      refine ⟨hx, (K.trans k2).wrNew (by omega), ⟨z', hz, T1.cong fun x y _ _ => ?_⟩, (U.kp k2).frame fun n g1 g2 => List.getElem?_set_ne (by omega)⟩
      unfold blF
      dsimp only
      split <;> rfl
    have ix : ixN N ((l : Int) + 1) = some (l + 1) := by have := ixN_nat (n := N) (i := l + 1) (by omega); simpa using this
    cases z with
    | true =>
      have T1 := T.kp (hm [.lst k1])
      simp [tru, T1.hd, q1, T1.row b (by omega), ix]
      exact fin _ true (hm _) (by simp) _ ⟨_, _, _, rfl⟩
    | false =>
      simp [tru]
      refine W_eqL (l := k1) (k := []) (by simp) (by rw [show m.length + 1 = m.length + 1 from rfl, at_app]; rfl) dk ⟨rfl, by simp [fls], by simp [dps]⟩ fun z2 hz2 => ?_
      have T1 := T.kp (hm [.lst k1, .lst []])
      simp [T1.hd, q1, T1.row b (by omega), ix]
      exact fin _ (!z2) (hm _) (by rw [← hk]; cases z2 <;> simp_all) _ ⟨_, _, _, rfl⟩
end K32
set_option maxHeartbeats 4000000
namespace K32
open PySem L2 MI
/-- the tables while width w + 1 is under way: those that begin below b are done -/
noncomputable def curC (V : Evs) (w b x y : Nat) : Bool := if x < b then (Tb V (w + 1)).1 x y else (Tb V w).1 x y
noncomputable def curL (V : Evs) (w b x y : Nat) : Nat := if x < b then (Tb V (w + 1)).2 x y else (Tb V w).2 x y
structure CnO (L : List Ev) (m0 : Mem) (a t1 t2 lo1 lo2 : Nat) (r1 r2 : Nat → Nat) (j : Nat) (ρ : MI.Env) (m : Mem) : Prop where
  ex : ∃ y4 y5 y6 y7 y8 y9 y10, ρ = [some (.ref a), some (.int ((L.length : Nat) : Int)), some (.ref t1), some (.ref t2), y4, y5, y6, y7, y8, y9, y10]
  kp : Kp [] m0 m
  t : TabR m t1 (L.length + 1) (blF (Tb (VE L) j).1) r1 lo1
  u : TabR m t2 (L.length + 1) (lkF (Tb (VE L) j).2) r2 lo2
structure CnI (L : List Ev) (m0 : Mem) (a t1 t2 lo1 lo2 : Nat) (r1 r2 : Nat → Nat) (w : Nat) (j : Nat) (ρ : MI.Env) (m : Mem) : Prop where
  ex : ∃ y5 y6 y7 y8 y9 y10, ρ = [some (.ref a), some (.int ((L.length : Nat) : Int)), some (.ref t1), some (.ref t2), some (.int ((1 + w : Nat) : Int)), y5, y6, y7, y8, y9, y10]
  kp : Kp [] m0 m
  t : TabR m t1 (L.length + 1) (blF (curC (VE L) w j)) r1 lo1
  u : TabR m t2 (L.length + 1) (lkF (curL (VE L) w j)) r2 lo2
theorem curC_nar {V : Evs} {w b x y : Nat} (h : y - x ≤ w) (hx : x ≤ y) : curC V w b x y = (Tb V w).1 x y := by
  unfold curC
  split
  · exact Tb1 hx h (by omega)
  · rfl
theorem curL_nar {V : Evs} {w b x y : Nat} (h : y - x < w) (hx : x ≤ y) : curL V w b x y = (Tb V w).2 x y := by
  unfold curL
  split
  · exact Tb2 hx h (by omega)
  · rfl
theorem inner_ok {L : List Ev} {a t1 t2 lo1 lo2 k w : Nat} {r1 r2 : Nat → Nat} {m0 m : Mem} {y5 y6 y7 y8 y9 y10 : Option MV} {Q : Fl → Mem → Prop} {E : Exn → Mem → Prop} (D : Evd L) (A : m0[a]? = some (.lst (L.map evV))) (h0 : m0.length ≤ lo1) (h1 : t1 < lo2) (hw : w < L.length) (K : Kp [] m0 m) (T : TabR m t1 (L.length + 1) (blF (Tb (VE L) w).1) r1 lo1) (U : TabR m t2 (L.length + 1) (lkF (Tb (VE L) w).2) r2 lo2)
    (q : ∀ ρ m, CnO L m0 a t1 t2 lo1 lo2 r1 r2 (w + 1) ρ m → Q (.nx ρ) m) :
    MI.W (loopM (fun _ => True) (nName 5) (mSeq (mAsg (mBin gSub (mBin gAdd (mVar 5) (mVar 4)) (mC (.int 1))) (nName 6)) (mSeq (canA (Tab (k + 6))) canB)) (rngL 0 (L.length - w)) [some (.ref a), some (.int ((L.length : Nat) : Int)), some (.ref t1), some (.ref t2), some (.int ((1 + w : Nat) : Int)), y5, y6, y7, y8, y9, y10] m) Q E := by
  have n7 := D.n7
  refine W_range (CnI L m0 a t1 t2 lo1 lo2 r1 r2 w) ⟨⟨_, _, _, _, _, _, rfl⟩, K, T.cong fun x y _ _ => ?_, U.cong fun x y _ _ => ?_⟩ ?_ ?_
  · unfold blF curC
    rw [if_neg (by omega)]
  · unfold lkF curL
    rw [if_neg (by omega)]
  · rintro b ρ m1 hb ⟨⟨y5, y6, y7, y8, y9, y10, rfl⟩, K1, T1, U1⟩
    simp
    rw [show ((b : Int) + (1 + (w : Int)) - 1) = ((b + w : Nat) : Int) by omega]
    have hl : b + w < L.length := by omega
    have hr := canA_ok (a := a) (n := L.length) (w := 1 + w) (k := k) (y7 := y7) (y8 := y8) (y9 := y9) (y10 := y10) D A K1 T1 U1 h0 h1 (b := b) (l := b + w) (by omega) hl rfl
    unfold envC at hr
    refine MI.W.mono hr ?_ ?_
    · rintro x m2 ⟨⟨z, rfl, hz⟩, K2, T2, U2⟩
      have hr2 := canB_ok (a := a) (n := L.length) (w := 1 + w) (y7 := y7) (y8 := y8) (y10 := y10) (z := z) (b := b) (l := b + w) K2 T2 U2 h0 h1 (by omega) (by omega) (by omega)
      refine MI.W.mono hr2 ?_ (fun x m h => h.elim)
      rintro x m3 ⟨⟨y7', y8', y10', rfl⟩, K3, ⟨z', hz', T3⟩, U3⟩
      refine ⟨⟨_, _, _, _, _, _, rfl⟩, K3, T3.cong fun x y hx hy => ?_, U3.cong fun x y hx hy => ?_⟩
      · have nc : ∀ x y, b ≤ x → x ≤ y → y ≤ b + w → curC (VE L) w b x y = (Tb (VE L) w).1 x y := fun x y g1 g2 g3 => curC_nar (by omega) g2
        have nl : ∀ t, b ≤ t → t < b + w → (VE L).sg t = true → curL (VE L) w b b t = (Tb (VE L) w).2 b t := fun t g1 g2 _ => curL_nar (by omega) g1
        have e1 : linkS (VE L) (curC (VE L) w b) (curL (VE L) w b) b (b + w) = linkS (VE L) (Tb (VE L) w).1 (Tb (VE L) w).2 b (b + w) := linkS_congr (by omega) nc nl
        have e2 := fits_congr nc ((VE L).vs (b + w)) b (b + w) (Nat.le_refl _) (by omega) (Nat.le_refl _)
        have e3 : (∃ t, b < t ∧ t ≤ b + w ∧ curC (VE L) w b b t = true ∧ curC (VE L) w b t (b + w + 1) = true) ↔ (∃ t, b < t ∧ t ≤ b + w ∧ (Tb (VE L) w).1 b t = true ∧ (Tb (VE L) w).1 t (b + w + 1) = true) := by
          constructor
          · rintro ⟨t, g1, g2, g3, g4⟩
            exact ⟨t, g1, g2, by rw [← curC_nar (b := b) (by omega) (by omega)]; exact g3, by rw [← curC_nar (b := b) (by omega) (by omega)]; exact g4⟩
          · rintro ⟨t, g1, g2, g3, g4⟩
            exact ⟨t, g1, g2, by rw [curC_nar (b := b) (by omega) (by omega)]; exact g3, by rw [curC_nar (b := b) (by omega) (by omega)]; exact g4⟩
        have z1 : z' = canS (VE L) (Tb (VE L) w).1 (linkS (VE L) (Tb (VE L) w).1 (Tb (VE L) w).2 b (b + w)) b (b + w) := by
          rw [Bool.eq_iff_iff, hz', hz, canS_iff, e1, e2, e3]
        unfold blF
        congr 1
        unfold curC
        show (if x = b ∧ y = b + w + 1 then z' else if x < b then (Tb (VE L) (w + 1)).1 x y else (Tb (VE L) w).1 x y) = if x < b + 1 then (if x + (w + 1) = y then canS (VE L) (Tb (VE L) w).1 (linkS (VE L) (Tb (VE L) w).1 (Tb (VE L) w).2 x (y - 1)) x (y - 1) else (Tb (VE L) w).1 x y) else (Tb (VE L) w).1 x y
        by_cases g1 : x = b
        · subst g1
          rw [if_pos (by omega : x < x + 1)]
          by_cases g2 : y = x + w + 1
          · subst g2
            rw [if_pos ⟨rfl, rfl⟩, if_pos (by omega), z1]
            rfl
          · rw [if_neg (fun h => g2 h.2), if_neg (Nat.lt_irrefl _), if_neg (by omega)]
        · rw [if_neg (fun h => g1 h.1)]
          by_cases g2 : x < b
          · rw [if_pos g2, if_pos (by omega)]
            rfl
          · rw [if_neg g2, if_neg (by omega)]
      · have nc : ∀ x y, b ≤ x → x ≤ y → y ≤ b + w → curC (VE L) w b x y = (Tb (VE L) w).1 x y := fun x y g1 g2 g3 => curC_nar (by omega) g2
        have nl : ∀ t, b ≤ t → t < b + w → (VE L).sg t = true → curL (VE L) w b b t = (Tb (VE L) w).2 b t := fun t g1 g2 _ => curL_nar (by omega) g1
        have e1 : linkS (VE L) (curC (VE L) w b) (curL (VE L) w b) b (b + w) = linkS (VE L) (Tb (VE L) w).1 (Tb (VE L) w).2 b (b + w) := linkS_congr (by omega) nc nl
        unfold lkF
        congr 2
        show (if x = b ∧ y = b + w ∧ (VE L).sg (b + w) = true then linkS (VE L) (curC (VE L) w b) (curL (VE L) w b) b (b + w) else curL (VE L) w b x y) = _
        rw [e1]
        unfold curL
        show (if x = b ∧ y = b + w ∧ (VE L).sg (b + w) = true then linkS (VE L) (Tb (VE L) w).1 (Tb (VE L) w).2 b (b + w) else if x < b then (Tb (VE L) (w + 1)).2 x y else (Tb (VE L) w).2 x y) = if x < b + 1 then (if x + w = y ∧ (VE L).sg y = true then linkS (VE L) (Tb (VE L) w).1 (Tb (VE L) w).2 x y else (Tb (VE L) w).2 x y) else (Tb (VE L) w).2 x y
        by_cases g1 : x = b
        · subst g1
          rw [if_pos (by omega : x < x + 1)]
          by_cases g2 : y = x + w
          · subst g2
            by_cases g3 : (VE L).sg (x + w) = true
            · rw [if_pos ⟨rfl, rfl, g3⟩, if_pos ⟨rfl, g3⟩]
            · rw [if_neg (fun h => g3 h.2.2), if_neg (Nat.lt_irrefl _), if_neg (fun h => g3 h.2)]
          · rw [if_neg (fun h => g2 h.2.1), if_neg (Nat.lt_irrefl _), if_neg (fun h => g2 h.1.symm)]
        · rw [if_neg (fun h => g1 h.1)]
          by_cases g2 : x < b
          · rw [if_pos g2, if_pos (by omega)]
            rfl
          · rw [if_neg g2, if_neg (by omega)]
    · intro x m h; exact h.elim
  · rintro ρ m1 ⟨⟨y5, y6, y7, y8, y9, y10, rfl⟩, K1, T1, U1⟩
    refine q _ _ ⟨⟨_, _, _, _, _, _, _, rfl⟩, K1, T1.cong fun x y hx hy => ?_, U1.cong fun x y hx hy => ?_⟩
    · unfold blF curC
      congr 1
      show (if x < L.length - w then (Tb (VE L) (w + 1)).1 x y else (Tb (VE L) w).1 x y) = (Tb (VE L) (w + 1)).1 x y
      split
      · rfl
      · show _ = if x + (w + 1) = y then _ else _
        rw [if_neg (by omega)]
    · unfold lkF curL
      congr 2
      show (if x < L.length - w then (Tb (VE L) (w + 1)).2 x y else (Tb (VE L) w).2 x y) = (Tb (VE L) (w + 1)).2 x y
      split
      · rfl
      · show _ = if x + w = y ∧ (VE L).sg y = true then _ else _
        rw [if_neg]
        rintro ⟨g1, g2⟩
        have : (VE L).sg y = false := by
          unfold VE
          simp only
          rw [List.getElem?_eq_none (by omega)]
        rw [this] at g2
        cases g2
/-- rows laid one after another, st places each -/
structure LcI (n st o : Nat) (g : Nat → MO) (m0 : Mem) (l acc : List MV) (m : Mem) : Prop where
  ex : ∃ j, j ≤ n ∧ l = (rngL 0 n).drop j ∧ acc = (List.range j).map (fun b => MV.ref (m0.length + st * b + o)) ∧ m.length = m0.length + st * j ∧ ∀ b, b < j → m[m0.length + st * b + o]? = some (g b)
  kp : Kp [] m0 m
theorem eqv_blF {V : Evs} {b : Nat} {n : Nat} : (rngL 0 n).map (fun d => match d with | .int i => MV.bl (decide ((b : Int) = i)) | _ => .non) = (List.range n).map (blF (Tb V 0).1 b) := by
  unfold rngL
  rw [List.map_map]
  refine List.map_congr_left fun y _ => ?_
  simp [blF, Tb]
  omega
theorem W_mul_r {m : Mem} {a : Nat} {xs : List MV} {k : Int} {Q : MV → Mem → Prop} {E : Exn → Mem → Prop} (h : m[a]? = some (.lst xs)) (h1 : 0 ≤ k) (h2 : k ≤ 1000) (h3 : xs.length ≤ 1000) (q : Q (.ref m.length) (m ++ [.lst (List.replicate k.toNat xs).flatten])) : MI.W (gMul (.ref a) (.int k) m) Q E := by with_unfolding_all
  unfold gMul
  simp only [(at_lst h).2.2.1]
  rw [if_pos ⟨h1, h2, h3⟩]
  exact q
theorem rep9 {V : Evs} {b n : Nat} : (List.replicate n [MV.int 9]).flatten = (List.range n).map (lkF (Tb V 0).2 b) := by
  induction n with
  | zero => rfl
  | succ n ih =>
    rw [List.range_succ, List.map_append, ← ih, List.replicate_succ', List.flatten_append]
    rfl
theorem can0_ok {n i : Nat} {e : ME} {g : Nat → MO} {st o : Nat} {ρ : MI.Env} {m0 : Mem} {Q : List MV → Mem → Prop} {E : Exn → Mem → Prop} (hn : n ≤ 1000) (hs : 0 < st) (ho : o < st)
    (h : ∀ b m, b < n → m0.length ≤ m.length → MI.W (e (ρ.set i (some (.int ((b : Nat) : Int)))) m) (fun d m' => d = .ref (m.length + o) ∧ m'[m.length + o]? = some (g b) ∧ m'.length = m.length + st ∧ Kp [] m m') E0)
    (q : ∀ m, Kp [] m0 m → (∀ b, b < n → m[m0.length + st * b + o]? = some (g b)) → m.length = m0.length + st * n → Q ((List.range n).map fun b => MV.ref (m0.length + st * b + o)) m) :
    MI.W (lcM (fun _ => True) (ngName i) mYes e ρ (rngL 0 n) [] m0) Q E := by
  refine W_lcs (LcI n st o g m0) _ _ _ ⟨⟨0, by omega, by simp, rfl, by omega, by intro b h; omega⟩, Kp.refl⟩ (fun _ _ _ _ => trivial) ?_ ?_
  · rintro d l acc m ⟨⟨j, hj, hl, hacc, hlen, hg⟩, K⟩
    have hj2 : j < n := by
      rcases Nat.lt_or_ge j n with h | h
      · exact h
      · rw [List.drop_eq_nil_of_le (by rw [rngL_length]; exact h)] at hl; cases hl
    rw [drop_rng hj2] at hl
    obtain ⟨rfl, rfl⟩ := List.cons.inj hl
    refine ⟨_, rfl, ?_⟩
    simp [mYes, setE]
    have := h j m hj2 K.1
    refine MI.W.mono this ?_ (fun x m h => h.elim)
    rintro d m' ⟨rfl, h1, h2, h3⟩
    refine ⟨by rw [hacc]; have := szl (n := j) (by omega); simp; have := szl (n := j + 1) (by omega); omega, ⟨j + 1, by omega, rfl, ?_, ?_, ?_⟩, K.trans h3⟩
    · rw [hacc, List.range_succ, List.map_append, hlen]
      rfl
    · rw [h2, hlen, Nat.mul_succ]; omega
    · intro b hb
      by_cases e : b = j
      · subst e
        rw [← hlen]; exact h1
      · exact h3.get (hg b (by omega)) (by simp)
  · rintro acc m ⟨⟨j, hj, hl, hacc, hlen, hg⟩, K⟩
    have : j = n := by
      rcases Nat.lt_or_ge j n with h | h
      · have := congrArg List.length hl
        rw [List.length_drop, rngL_length] at this
        simp at this
        omega
      · omega
    subst this
    rw [hacc]
    exact q m K hg hlen
structure CanO (L : List Ev) (m : Mem) (d : MV) (m' : Mem) : Prop where
  ex : ∃ x, d = .ref x ∧ m'[x]? = some (.lst ((List.range (L.length + 1)).map (blF (Tb (VE L) L.length).1 0)))
  kp : Kp [] m m'
theorem lcan_ok {L : List Ev} {a k : Nat} {m : Mem} (D : Evd L) (A : m[a]? = some (.lst (L.map evV))) : MI.W ((Tab (k + 7)).f .l_can [.ref a] m) (CanO L m) E0 := by
  have e1 : (Tab (k + 7)).f .l_can = f_l_can (Tab (k + 6)) := rfl
  rw [e1]
  unfold f_l_can
  rw [b_can]
  have n7 := D.n7
  simp [startM, A]
  refine ⟨by omega, ?_⟩
  refine can0_ok (st := 1) (o := 0) (g := fun b => .lst ((List.range (L.length + 1)).map (blF (Tb (VE L) 0).1 b))) (by omega) (by omega) (by omega) ?_ ?_
  · intro b m1 hb hm
    simp [wipeM]
    refine ⟨by omega, ?_⟩
    refine W_pureN (fun d => match d with | .int i => MV.bl (decide ((b : Int) = i)) | _ => .non) (fun _ => true) trivial (fun d hd => ?_) (by rw [rngL_length]; omega) (fun k1 h1 => ?_)
    · unfold rngL at hd
      simp at hd
      obtain ⟨i, _, rfl⟩ := hd
      refine ⟨W_eq ?_, fun _ => W_eq ?_⟩
      · simp [wipeM, mYes]
      · simp [wipeM]
    · rw [filter_all, eqv_blF (V := VE L)] at h1
      subst h1
      simp
      exact Kp.app
  · intro m1 K1 g1 l1
    simp only [Nat.one_mul, Nat.add_zero] at g1 l1 ⊢
    refine ⟨by omega, ?_⟩
    refine can0_ok (st := 2) (o := 1) (g := fun b => .lst ((List.range (L.length + 1)).map (lkF (Tb (VE L) 0).2 b))) (by omega) (by omega) (by omega) ?_ ?_
    · intro b m2 hb hm
      simp [wipeM]
      refine ⟨szl (by decide), W_mul_r (xs := [.int 9]) (by simp) (by omega) (by omega) (by simp) ?_⟩
      rw [show ((L.length : Int) + 1).toNat = L.length + 1 by omega, rep9 (V := VE L) (b := b)]
      simp
      exact Kp.app
    · intro m2 K2 g2 l2
      refine ⟨by omega, ?_⟩
      have k3 := K1.trans ((Kp.app (S := [])).trans K2)
      generalize hM : (m1 ++ [MO.lst ((List.range (L.length + 1)).map fun b => MV.ref (m.length + b))]) = m1' at K2 g2 l2 ⊢
      have lm : m1'.length = m1.length + 1 := by rw [← hM]; simp
      have hd1 : m1'[m1.length]? = some (MO.lst ((List.range (L.length + 1)).map fun b => MV.ref (m.length + b))) := by rw [← hM]; simp
      have kk : Kp [] m1 m1' := by rw [← hM]; exact Kp.app
      have k4 : ∀ r : List MO, Kp [] m2 (m2 ++ r) := fun r => Kp.app
      generalize hM2 : (m2 ++ [MO.lst ((List.range (L.length + 1)).map fun b => MV.ref (m1'.length + 2 * b + 1))]) = m3
      have k5 : Kp [] m2 m3 := by rw [← hM2]; exact k4 _
      have hd2 : m3[m2.length]? = some (MO.lst ((List.range (L.length + 1)).map fun b => MV.ref (m1'.length + 2 * b + 1))) := by rw [← hM2]; simp
      have T : TabR m3 m1.length (L.length + 1) (blF (Tb (VE L) 0).1) (fun b => m.length + b) m.length :=
        ⟨(K2.trans k5).get hd1 (by simp), fun b hb => ((kk.trans K2).trans k5).get (g1 b hb) (by simp), fun b hb => ⟨by omega, by omega⟩, fun b b' _ _ h => by omega, by omega⟩
      have U : TabR m3 m2.length (L.length + 1) (lkF (Tb (VE L) 0).2) (fun b => m1'.length + 2 * b + 1) m1'.length :=
        ⟨hd2, fun b hb => k5.get (g2 b hb) (by simp), fun b hb => ⟨by omega, by omega⟩, fun b b' _ _ h => by omega, by omega⟩
      have K3 := k3.trans k5
      refine W_range2 (lo := 1) (CnO L m a m1.length m2.length m.length m1'.length (fun b => m.length + b) (fun b => m1'.length + 2 * b + 1)) ⟨⟨_, _, _, _, _, _, _, rfl⟩, K3, T, U⟩ ?_ ?_
      · rintro w ρ m4 hw ⟨⟨y4, y5, y6, y7, y8, y9, y10, rfl⟩, K4, T4, U4⟩
        simp
        refine ⟨by omega, ?_⟩
        rw [show ((L.length : Int) + 1 - (1 + (w : Int))).toNat = L.length - w by omega, show (1 + (w : Int)) = ((1 + w : Nat) : Int) by omega]
        exact inner_ok (k := k) (w := w) D A (Nat.le_refl _) (by omega) hw K4 T4 U4 (fun ρ m h => h)
      · rintro ρ m4 ⟨⟨y4, y5, y6, y7, y8, y9, y10, rfl⟩, K4, T4, U4⟩
        have q1 : atM ((List.range (L.length + 1)).map fun b => MV.ref (m.length + b)) (0 : Int) = some (.ref (m.length + 0)) := atM_nat (i := 0) (by rw [List.getElem?_map, List.getElem?_range (by omega)]; rfl)
        simp [T4.hd, q1]
        exact ⟨⟨_, rfl, T4.row 0 (by omega)⟩, K4⟩
end K32
set_option maxHeartbeats 4000000
namespace K32
open PySem L2 MI
/-- whether the first i events can be made -/
noncomputable def canF (L : List Ev) (i : Nat) : Bool := (Tb (VE L) L.length).1 0 i
/-- the place of the first event that nothing makes -/
inductive Wrong (L : List Ev) : Option Nat → Prop
  | none (h : ∀ i, i < L.length → canF L (i + 1) = true) : Wrong L none
  | some (P : Nat) (hP : P < L.length) (h : ∀ i, i < P → canF L (i + 1) = true) (no : canF L (P + 1) = false) : Wrong L (some P)
structure WrO (L : List Ev) (m : Mem) (d : MV) (m' : Mem) : Prop where
  ex : ∃ o, d = anV o ∧ Wrong L o
  kp : Kp [] m m'
structure WrI (L : List Ev) (a x : Nat) (m0 : Mem) (j : Nat) (ρ : MI.Env) (m : Mem) : Prop where
  ex : ∃ y2, ρ = [some (.ref a), some (.ref x), y2]
  eq : m = m0
  h : ∀ i, i < j → canF L (i + 1) = true
theorem lwrong_ok {L : List Ev} {a k : Nat} {m : Mem} (D : Evd L) (A : m[a]? = some (.lst (L.map evV))) : MI.W ((Tab (k + 8)).f .l_wrong [.ref a] m) (WrO L m) E0 := by
  have e1 : (Tab (k + 8)).f .l_wrong = f_l_wrong (Tab (k + 7)) := rfl
  rw [e1]
  unfold f_l_wrong b_l_wrong
  have n7 := D.n7
  simp [startM]
  refine (lcan_ok (k := k) D A).mono ?_ (fun x m h => h.elim)
  rintro d m1 ⟨⟨x, rfl, hx⟩, k1⟩
  have A1 := k1.get A (by simp)
  simp [A1]
  refine ⟨by omega, ?_⟩
  refine W_range (WrI L a x m1) ⟨⟨_, rfl⟩, rfl, by intro i h; omega⟩ ?_ ?_
  · rintro j ρ m2 hj ⟨⟨y2, rfl⟩, rfl, h⟩
    have a1 : atM ((List.range (L.length + 1)).map (blF (Tb (VE L) L.length).1 0)) ((j : Int) + 1) = some (.bl (canF L (j + 1))) := by
      have := atM_nat (l := (List.range (L.length + 1)).map (blF (Tb (VE L) L.length).1 0)) (i := j + 1) (d := .bl (canF L (j + 1))) (by rw [List.getElem?_map, List.getElem?_range (by omega)]; rfl)
      simpa using this
    simp [hx, a1, tru]
    cases hc : canF L (j + 1) with
    | true =>
      simp
      exact ⟨⟨_, rfl⟩, rfl, fun i hi => by
        rcases Nat.lt_or_ge i j with g | g
        · exact h i g
        · rw [show i = j by omega]; exact hc⟩
    | false =>
      simp
      exact ⟨⟨some j, rfl, .some j hj h hc⟩, k1⟩
  · rintro ρ m2 ⟨⟨y2, rfl⟩, rfl, h⟩
    simp
    exact ⟨⟨none, rfl, .none h⟩, k1⟩
theorem Wrong.uniq {L : List Ev} {o o' : Option Nat} (h : Wrong L o) (h' : Wrong L o') : o = o' := by
  cases h with
  | none h => cases h' with
    | none _ => rfl
    | some P hP _ no => rw [h P hP] at no; cases no
  | some P hP h no => cases h' with
    | none h' => rw [h' P hP] at no; cases no
    | some P' hP' h' no' =>
      rcases Nat.lt_trichotomy P P' with g | g | g
      · rw [h' P g] at no; cases no
      · rw [g]
      · rw [h P' g] at no'; cases no'
end K32
set_option maxHeartbeats 4000000
namespace K32
open PySem L2 MI
theorem isname_ok {k : Nat} {m : Mem} {s : Str} (hs : s.length ≤ 1000) : MI.W ((Tab (k + 1)).f .is_name [.str s] m) (fun d m' => d = .bl (decide (IsName s)) ∧ Kp [] m m') E0 := by
  have key : ∀ (m : Mem) (Q : MV → Mem → Prop) (E : Exn → Mem → Prop), MI.W (gInA true (.str s) c_BARRED m) Q E = Q (.bl (!decide (s ∈ barred))) m := fun m Q E => W_in_strs (l := barred) (neg := true)
  show MI.W (f_is_name (Tab k) [.str s] m) _ _
  unfold f_is_name b_is_name
  by_cases h1 : (1 : Int) ≤ s.length
  · by_cases h2 : (s.length : Int) ≤ 8
    · by_cases h3 : s ∈ barred
      · have hn : ¬ IsName s := fun h => h.2.2.2 h3
        simp [startM, kit_ss, szl (show s.length ≤ 3000 by omega), h1, h2]
        erw [key]
        simp only [h3, decide_true, Bool.not_true, tru_bl]
        exact ⟨by rw [decide_eq_false hn], Kp.refl⟩
      · simp [startM, kit_ss, szl (show s.length ≤ 3000 by omega), h1, h2]
        erw [key]
        simp only [h3, decide_false, Bool.not_false, tru_bl]
        refine W_pure isLow (fun _ => true) trivial (fun d hd => ⟨rfl, fun _ => ?_⟩) (by simpa using (show s.cps.size ≤ 1000 from hs)) ?_
        · obtain ⟨c, hc, rfl⟩ := List.mem_map.mp hd
          show (Re.bind (Re.ok (MV.bl (!decide ((⟨#[c]⟩ : Str).cps.toList < ("a" : Str).cps.toList))) m) fun r m3 => match r with
            | .bl true => Re.bind (Re.ok (MV.str ("z" : Str)) m3) (fun c' m4 => gLeS (.str ⟨#[c]⟩) c' m4)
            | .bl false => .ok (.bl false) m3
            | _ => .stuck) = Re.ok (MV.bl (!decide ((⟨#[c]⟩ : Str).cps.toList < ("a" : Str).cps.toList) && !decide (("z" : Str).cps.toList < (⟨#[c]⟩ : Str).cps.toList))) m
          cases decide ((⟨#[c]⟩ : Str).cps.toList < ("a" : Str).cps.toList) <;> rfl
        · rw [filter_all]
          have e : (s.cps.toList.map fun c => MV.str ⟨#[c]⟩).map isLow = (s.cps.toList.map fun c => decide (97 ≤ c ∧ c ≤ 122)).map .bl := by
            rw [List.map_map, List.map_map]
            exact List.map_congr_left fun c _ => low_c
          rw [e, W_all List.getElem?_concat_length]
          refine ⟨?_, Kp.push⟩
          congr 1
          rw [Bool.eq_iff_iff, List.all_eq_true, decide_eq_true_eq]
          unfold IsName
          constructor
          · intro h
            refine ⟨by omega, by omega, fun c hc => ?_, h3⟩
            simpa using h (decide (97 ≤ c ∧ c ≤ 122)) (List.mem_map_of_mem hc)
          · rintro ⟨_, _, h, _⟩ b hb
            obtain ⟨c, hc, rfl⟩ := List.mem_map.mp hb
            simpa using h c hc
    · have hn : ¬ IsName s := fun h => h2 (by have := h.2.1; omega)
      simp [startM, kit_ss, szl (show s.length ≤ 3000 by omega), h1, h2, hn]
      exact Kp.refl
  · have hn : ¬ IsName s := fun h => h1 (by have := h.1; omega)
    simp [startM, kit_ss, szl (show s.length ≤ 3000 by omega), h1, hn]
    exact Kp.refl
theorem nm_name : ∀ s ∈ nms, IsName s := by decide
theorem wd_name : ∀ s ∈ words, s ∈ signs ∨ IsName s := by decide
theorem kit_ii : kitB "int" "int" = some true := rfl
theorem kit_ib : kitB "int" "bool" = some false := rfl
theorem kit_ll : kitB "list" "list" = some true := rfl
theorem s_ev2 : ¬ (("event" : Str) = "name") := by decide
theorem nm_len : ∀ s ∈ nms, s.length ≤ 1000 := by decide
theorem wd_len : ∀ s ∈ words, s.length ≤ 1000 := by decide
theorem isint_ok {k : Nat} {m : Mem} {i : Int} : MI.W ((Tab (k + 1)).f .is_integer [.int i] m) (fun d m' => d = .bl true ∧ m' = m) E0 := by
  show MI.W (f_is_integer (Tab k) [.int i] m) _ _
  unfold f_is_integer b_is_integer
  simp [startM, kit_ii, kit_ib]
theorem issrc_ok {k a n : Nat} {m : Mem} (h : a < n) : MI.W ((Tab (k + 2)).f .u_is_source [.tup [.str "event", .int a], .int n] m) (fun d m' => d = .bl true ∧ Kp [] m m') E0 := by
  have e1 : (Tab (k + 2)).f .u_is_source = f_u_is_source (Tab (k + 1)) := rfl
  rw [e1]
  unfold f_u_is_source b_u_is_source
  simp [startM, W_asgT, nCons, nName, nNil, kit_tt, s_ev2]
  refine (isint_ok (k := k)).mono ?_ (fun x m h => h.elim)
  rintro d m' ⟨rfl, rfl⟩
  simp
  exact ⟨h, Kp.refl⟩
theorem issrc_nm {k n : Nat} {nm : Str} {m : Mem} (h : nm ∈ nms) : MI.W ((Tab (k + 2)).f .u_is_source [.tup [.str "name", .str nm], .int n] m) (fun d m' => d = .bl true ∧ Kp [] m m') E0 := by
  have e1 : (Tab (k + 2)).f .u_is_source = f_u_is_source (Tab (k + 1)) := rfl
  rw [e1]
  unfold f_u_is_source b_u_is_source
  simp [startM, W_asgT, nCons, nName, nNil, kit_tt]
  refine (isname_ok (k := k) (nm_len nm h)).mono ?_ (fun x m h => h.elim)
  rintro d m' ⟨rfl, k1⟩
  simp [nm_name nm h]
  exact k1
theorem isval_ok {k n : Nat} {v : Vl} {m : Mem} (h : VlOk v) (ha : ∀ a, v = .ans a → a < n) : MI.W ((Tab (k + 3)).f .is_value [vlV v, .int n] m) (fun d m' => d = .bl true ∧ Kp [] m m') E0 := by
  have e1 : (Tab (k + 3)).f .is_value = f_is_value (Tab (k + 2)) := rfl
  rw [e1]
  unfold f_is_value b_is_value
  cases v with
  | ans a =>
    simp [startM, vlV, kit_tt]
    refine (issrc_ok (k := k) (ha a rfl)).mono ?_ (fun x m h => h.elim)
    rintro d m' ⟨rfl, k1⟩
    exact ⟨rfl, k1⟩
  | con c =>
    rcases h with ⟨s, hs, rfl⟩ | ⟨nm, hn, rfl⟩
    · have key : ∀ (m : Mem) (Q : MV → Mem → Prop) (E : Exn → Mem → Prop), MI.W (gInA false (.str s) c_CONSTANTS m) Q E = Q (.bl (decide (s ∈ consts))) m := fun m Q E => W_in_strs (l := consts) (neg := false)
      simp [startM, vlV, kit_tt]
      erw [key]
      exact ⟨by rw [decide_eq_true hs], Kp.refl⟩
    · simp [startM, vlV, kit_tt]
      refine (issrc_nm (k := k) hn).mono ?_ (fun x m h => h.elim)
      rintro d m' ⟨rfl, k1⟩
      exact ⟨rfl, k1⟩
/-- all of a list, and nothing is changed -/
structure AlI (m0 : Mem) (l0 : List MV) (l acc : List MV) (m : Mem) : Prop where
  ex : ∃ j, j + l.length = l0.length ∧ l = l0.drop j ∧ acc = List.replicate j (.bl true)
  kp : Kp [] m0 m
theorem W_allT {g : NG} {e : ME} {ρ : MI.Env} {l : List MV} {m : Mem} {chk : Mem → Prop} {Q : List MV → Mem → Prop} (hl : l.length ≤ 1000) (hc : ∀ m', Kp [] m m' → chk m') (h : ∀ j (hj : j < l.length) m', Kp [] m m' → ∃ as, g l[j] m' = some as ∧ MI.W (e (setE ρ as) m') (fun d m'' => d = .bl true ∧ Kp [] m' m'') E0) (q : ∀ m', Kp [] m m' → Q (List.replicate l.length (.bl true)) m') : MI.W (lcM chk g mYes e ρ l [] m) Q E0 := by
  refine W_lcs (AlI m l) _ _ _ ⟨⟨0, by omega, rfl, rfl⟩, Kp.refl⟩ (fun l acc m' h => hc m' h.kp) ?_ ?_
  · rintro d r acc m' ⟨⟨j, hj, hl', rfl⟩, K⟩
    have hj2 : j < l.length := by simp at hj; omega
    rw [List.drop_eq_getElem_cons hj2] at hl'
    obtain ⟨rfl, rfl⟩ := List.cons.inj hl'
    obtain ⟨as, g1, g2⟩ := h j hj2 m' K
    refine ⟨as, g1, ?_⟩
    simp [mYes]
    refine MI.W.mono g2 ?_ (fun x m h => h.elim)
    rintro d m'' ⟨rfl, k2⟩
    refine ⟨by have := szl (n := j + 1) (by omega); omega, ⟨j + 1, by simp; omega, rfl, by rw [List.replicate_succ']⟩, K.trans k2⟩
  · rintro acc m' ⟨⟨j, hj, _, rfl⟩, K⟩
    have : j = l.length := by simpa using hj
    subst this
    exact q m' K
theorem isev_ok {k n : Nat} {e : Ev} {m : Mem} (g : EvG e) (two : e.1 ∈ signs → e.2.length = 2) (ha : ∀ a ∈ us e.2, a < n) : MI.W ((Tab (k + 4)).f .u_is_event [evV e, .int n] m) (fun d m' => d = .bl true ∧ Kp [] m m') E0 := by
  have e1 : (Tab (k + 4)).f .u_is_event = f_u_is_event (Tab (k + 3)) := rfl
  rw [e1]
  unfold f_u_is_event b_u_is_event evV
  obtain ⟨w, vs⟩ := e
  have few := g.few
  simp at few
  have key : ∀ (m : Mem) (Q : MV → Mem → Prop) (E : Exn → Mem → Prop), MI.W (gInA false (.str w) c_SIGNS m) Q E = Q (.bl (decide (w ∈ signs))) m := fun m Q E => W_in_strs (l := signs) (neg := false)
  have fin : ∀ (m' : Mem) (y0 y2 y3 y4 : Option MV), Kp [] m m' → MI.W (lcM (fun _ => True) (ngName 5) mYes (mCall ((Tab (k + 3)).f Fnm.is_value) (mCons (mVar 5) (mCons (mVar 1) mNil))) [y0, some (.int n), y2, y3, y4, none] (vs.map vlV) [] m') (fun l m1 => MI.W (gAll [.ref m1.length] (m1 ++ [.lst l])) (fun d m' => d = .bl true ∧ Kp [] m m') E0) E0 := by
    intro m' y0 y2 y3 y4 K
    refine W_allT (by simp; omega) (fun _ _ => trivial) (fun j hj m2 k2 => ?_) (fun m2 k2 => ?_)
    · simp at hj
      refine ⟨_, rfl, ?_⟩
      have hm : vs[j] ∈ vs := List.getElem_mem hj
      simp [setE]
      exact isval_ok (k := k) (g.ok _ hm) (fun a h => ha a (List.mem_filterMap.mpr ⟨_, hm, by rw [h]; rfl⟩))
    · rw [W_all (bs := List.replicate vs.length true) (by simp)]
      exact ⟨by simp, (K.trans k2).trans Kp.app⟩
  simp [startM, W_asgT, nCons, nName, nNil, kit_tt]
  erw [key]
  by_cases hw : w ∈ signs
  · have l2 := two hw
    simp at l2
    simp [hw, l2, wipeM]
    exact fin m _ _ _ _ Kp.refl
  · have hn := (wd_name w g.wd).resolve_left hw
    simp [hw]
    refine (isname_ok (k := k + 2) (wd_len w g.wd)).mono ?_ (fun x m h => h.elim)
    rintro d m' ⟨rfl, k1⟩
    have l3 : (vs.length : Int) ≤ 3 := by omega
    simp [hn, l3, wipeM]
    exact fin m' _ _ _ _ k1
end K32
set_option maxHeartbeats 4000000
namespace K32
open PySem L2 MI
theorem nodup_le : ∀ {a vs : List Str}, a.Nodup → (∀ x ∈ a, x ∈ vs) → a.length ≤ vs.length
  | [], _, _, _ => Nat.zero_le _
  | x :: a, vs, nd, h => by
    have hx : x ∈ vs := h x List.mem_cons_self
    obtain ⟨n1, n2⟩ := List.nodup_cons.mp nd
    have := nodup_le (a := a) (vs := vs.erase x) n2 fun y hy => by
      have ne : y ≠ x := fun e => n1 (e ▸ hy)
      exact (List.mem_erase_of_ne ne).mpr (h y (List.mem_cons_of_mem _ hy))
    rw [List.length_erase_of_mem hx] at this
    have pos : 0 < vs.length := List.length_pos_of_mem hx
    simp only [List.length_cons]
    omega
def nmD (ns : List Str) : List (Key × MV) := ns.map fun s => (.inr s, .bl true)
def addN (ns : List Str) (s : Str) : List Str := if s ∈ ns then ns else ns ++ [s]
theorem putM_nm {ns : List Str} {s : Str} : putM (nmD ns) (.inr s) (.bl true) = nmD (addN ns s) := by
  unfold putM addN
  have e : ((nmD ns).any fun kv => decide (kv.fst = Sum.inr s)) = decide (s ∈ ns) := by
    unfold nmD
    rw [List.any_map]
    induction ns with
    | nil => rfl
    | cons x r ih =>
      rw [List.any_cons, ih]
      by_cases h : x = s
      · subst h; simp
      · simp [h, Ne.symm h]
  rw [e]
  by_cases h : s ∈ ns
  · simp only [h, decide_true, if_true]
    unfold nmD
    rw [List.map_map]
    refine List.map_congr_left fun x _ => ?_
    show (if (Sum.inr x : Key) = Sum.inr s then _ else _) = _
    split
    · rename_i q; cases q; rfl
    · rfl
  · simp [h, nmD]
theorem addN_nodup {ns : List Str} {s : Str} (h : ns.Nodup) : (addN ns s).Nodup := by
  unfold addN
  split
  · exact h
  · rw [List.nodup_append]
    refine ⟨h, by simp, fun a ha b hb => ?_⟩
    simp at hb
    subst hb
    intro e
    subst e
    exact absurd ha ‹_›
theorem addN_mem {ns : List Str} {s x : Str} : x ∈ addN ns s ↔ x ∈ ns ∨ x = s := by
  unfold addN
  split
  · constructor
    · exact .inl
    · rintro (h | rfl)
      · exact h
      · assumption
  · simp
/-- values that are values -/
def VlsOk (l : List MV) : Prop := ∀ d ∈ l, ∃ v, VlOk v ∧ d = vlV v
structure NiI (L : List Ev) (a : Nat) (c : MV) (m0 : Mem) (rem : List MV) (ρ : MI.Env) (m : Mem) : Prop where
  ex : ∃ j x l y3 y4, j + rem.length = L.length ∧ rem = (L.map evV).drop j ∧ ρ = [some (.ref a), some c, some (.ref x), y3, y4, none, none] ∧ m[x]? = some (.lst l) ∧ VlsOk l ∧ l.length ≤ 1 + 3 * j
  kp : Kp [] m0 m
structure NjI (a : Nat) (c : MV) (x y : Nat) (l : List MV) (m0 : Mem) (rem : List MV) (ρ : MI.Env) (m : Mem) : Prop where
  ex : ∃ ns y3 y4 y6, ρ = [some (.ref a), some c, some (.ref x), y3, y4, some (.ref y), y6] ∧ m[y]? = some (.dct (nmD ns)) ∧ ns.Nodup ∧ (∀ s ∈ ns, s ∈ nms)
  x : m[x]? = some (.lst l)
  rem : ∀ d ∈ rem, d ∈ l
  kp : Kp [] m0 m
structure NamesO (m : Mem) (d : MV) (m' : Mem) : Prop where
  ex : ∃ x l, d = .ref x ∧ m'[x]? = some (.lst l) ∧ l.length ≤ 3
  kp : Kp [] m m'
theorem names_ok {k a : Nat} {L : List Ev} {m : Mem} (G : ∀ e ∈ L, EvG e) (n7 : L.length ≤ 7) (A : m[a]? = some (.lst (L.map evV))) : MI.W ((Tab (k + 1)).f .names_in [.ref a, .tup [.str "none"]] m) (NamesO m) E0 := by
  show MI.W (f_names_in (Tab k) _ m) _ _
  unfold f_names_in b_names_in
  have la : a < m.length := (List.getElem?_eq_some_iff.mp A).1
  have A1 : ∀ r : List MO, (m ++ r)[a]? = some (.lst (L.map evV)) := fun r => (Kp.app (S := [])).get A (by simp)
  simp [startM, A1]
  refine ⟨szl (by decide), ?_⟩
  refine W_loopG (NiI L a (.tup [.str "none"]) m) _ _ _ ⟨⟨0, m.length, [.tup [.str "none"]], _, _, by simp, rfl, rfl, by simp, ?_, by simp⟩, Kp.app⟩ ?_ ?_ ?_
  · intro d hd
    simp at hd
    subst hd
    exact ⟨.con (.tup [.str "none"]), .inl ⟨"none", by simp, rfl⟩, rfl⟩
  · rintro l ρ m1 ⟨_, k1⟩
    have A2 := k1.get A (by simp)
    simp [A2]
  · rintro d rem ρ m1 ⟨⟨j, x, l, y3, y4, hj, hl, rfl, hx, ok, ln⟩, k1⟩
    have hj2 : j < L.length := by simp at hj; omega
    rw [List.drop_eq_getElem_cons (by simpa using hj2)] at hl
    obtain ⟨rfl, rfl⟩ := List.cons.inj hl
    rw [List.getElem_map]
    have hm := List.getElem_mem hj2
    generalize L[j] = e at hm ⊢
    obtain ⟨w, vs⟩ := e
    have g := G _ hm
    have few := g.few
    simp at few
    refine ⟨[some (.ref a), some (.tup [.str "none"]), some (.ref x), some (.str w), some (.tup (vs.map vlV)), none, none], rfl, ?_⟩
    have hx1 : ∀ r : List MO, (m1 ++ r)[x]? = some (.lst l) := fun r => (Kp.app (S := [])).get hx (by simp)
    have hx2 := hx1 [.lst (vs.map vlV)]
    have hn : (m1 ++ [MO.lst (vs.map vlV)])[m1.length]? = some (.lst (vs.map vlV)) := List.getElem?_concat_length
    have k2 : Kp [] m1 (m1 ++ [MO.lst (vs.map vlV)]) := Kp.app
    simp [hx1]
    generalize (m1 ++ [MO.lst (vs.map vlV)]) = m2 at hx2 hn k2 ⊢
    have hs : l.length + vs.length ≤ sizeLine := szl (by omega)
    rw [W_add_l hx2 hn]
    simp
    refine ⟨hs, ⟨j + 1, m2.length, l ++ vs.map vlV, _, _, ?_, rfl, rfl, by simp, ?_, by simp; omega⟩, (k1.trans k2).trans Kp.app⟩
    · simp at hj ⊢; omega
    · intro d hd
      rcases List.mem_append.mp hd with h | h
      · exact ok d h
      · obtain ⟨v, hv, rfl⟩ := List.mem_map.mp h
        exact ⟨v, g.ok v hv, rfl⟩
  · rintro ρ m1 ⟨⟨j, x, l, y3, y4, hj, hl, rfl, hx, ok, ln⟩, k1⟩
    simp at hj
    subst hj
    have hx1 : ∀ r : List MO, (m1 ++ r)[x]? = some (.lst l) := fun r => (Kp.app (S := [])).get hx (by simp)
    have k2 : Kp [] m1 (m1 ++ [MO.dct []]) := Kp.app
    have hx2 := hx1 [.dct []]
    have hy : (m1 ++ [MO.dct []])[m1.length]? = some (.dct (nmD [])) := List.getElem?_concat_length
    simp [hx1]
    generalize (m1 ++ [MO.dct []]) = m2 at hx2 hy k2 ⊢
    have xy : x ≠ m1.length := by have := (List.getElem?_eq_some_iff.mp hx).1; omega
    have my : m.length ≤ m1.length := k1.1
    generalize m1.length = y at hy xy my ⊢
    refine W_loop (NjI a (.tup [.str "none"]) x y l m) _ _ _ ⟨⟨[], _, _, _, rfl, hy, by simp, by simp⟩, hx2, fun d h => h, k1.trans k2⟩ ?_ ?_ ?_
    · rintro rem ρ m3 ⟨_, hx3, _, _⟩
      simp [hx3]
    · rintro d rem ρ m3 ⟨⟨ns, y3, y4, y6, rfl, hy3, nd, al⟩, hx3, hr, k3⟩
      obtain ⟨v, hv, rfl⟩ := ok d (hr d List.mem_cons_self)
      have same : ∀ y6, NjI a (.tup [.str "none"]) x y l m rem [some (.ref a), some (.tup [.str "none"]), some (.ref x), y3, y4, some (.ref y), y6] m3 := fun y6 => ⟨⟨ns, _, _, _, rfl, hy3, nd, al⟩, hx3, fun d h => hr d (List.mem_cons_of_mem _ h), k3⟩
      cases v with
      | ans b =>
        simp [vlV, s_ev2]
        exact same _
      | con c =>
        rcases hv with ⟨s, hs, rfl⟩ | ⟨nm, hn, rfl⟩
        · simp [vlV, c_ob s hs]
          exact same _
        · simp [vlV, hy3]
          show (nmD ns).length < sizeLine ∧ NjI a _ x y l m rem _ (List.set m3 y (MO.dct (putM (nmD ns) (.inr nm) (MV.bl true))))
          rw [putM_nm]
          have le := nodup_le nd al
          refine ⟨by unfold nmD; rw [List.length_map, sizeLine_eq]; simp at le; omega, ⟨addN ns nm, _, _, _, rfl, at_set hy3, addN_nodup nd, ?_⟩, ?_, fun d h => hr d (List.mem_cons_of_mem _ h), k3.wrNew my⟩
          · intro s hs
            rcases addN_mem.mp hs with h | rfl
            · exact al s h
            · exact hn
          · rw [List.getElem?_set_ne (Ne.symm xy)]; exact hx3
    · rintro ρ m3 ⟨⟨ns, y3, y4, y6, rfl, hy3, nd, al⟩, hx3, hr, k3⟩
      simp [hy3]
      have e : (nmD ns).map (fun kv => keyM kv.1) = ns.map .str := by unfold nmD; rw [List.map_map]; rfl
      rw [e, strs_map]
      have le := nodup_le nd al
      simp at le
      refine ⟨by omega, ⟨m3.length + 1, (sortM ns).map .str, rfl, by rw [at_app]; rfl, ?_⟩, k3.trans Kp.app⟩
      unfold sortM
      rw [List.length_map, List.length_mergeSort]
      exact le
theorem W_enum_r {a : Nat} {l : List MV} {m : Mem} {Q : IterM → Mem → Prop} {E : Exn → Mem → Prop} (h : m[a]? = some (.lst l)) (q : Q ⟨numd l, fun m' => lstOf m' (.ref a) = some l⟩ m) : MI.W (enumOf [.ref a] m) Q E := by with_unfolding_all
  show MI.W (match lstOf m (.ref a) with
    | some l => .ok ⟨numd l, fun m' => lstOf m' (.ref a) = some l⟩ m
    | none => .stuck) Q E
  rw [(at_lst h).1]
  exact q
theorem numd_len {l : List MV} : (numd l).length = l.length := by simp [numd]
theorem numd_at {l : List MV} {j : Nat} (h : j < (numd l).length) : (numd l)[j] = .tup [.int j, l[j]'(by rw [numd_len] at h; exact h)] := by simp [numd]
theorem check_ok {k a : Nat} {L : List Ev} {m : Mem} (D : Evd L) (n6 : L.length ≤ 6) (A : m[a]? = some (.lst (L.map evV))) : MI.W ((Tab (k + 5)).f .check_events [.ref a] m) (fun _ m' => Kp [] m m') E0 := by
  have e1 : (Tab (k + 5)).f .check_events = f_check_events (Tab (k + 4)) := rfl
  rw [e1]
  unfold f_check_events b_check_events
  have ty : tyM m (.ref a) = some "list" := by simp [tyM, A, tyO]
  have l6 : ¬ (6 : Int) < L.length := by omega
  simp [startM, A, ty, kit_ll]
  refine ⟨by omega, W_enum_r A ?_⟩
  simp [wipeM]
  refine W_allT (by rw [numd_len]; simp; omega) (fun m' k => by rw [k.get A (by simp)]) (fun j hj m2 k2 => ?_) (fun m2 k2 => ?_)
  · rw [numd_at hj]
    rw [numd_len, List.length_map] at hj
    refine ⟨_, rfl, ?_⟩
    simp [setE]
    have hm : L[j] ∈ L := List.getElem_mem hj
    have he : L[j]? = some L[j] := List.getElem?_eq_getElem hj
    have two := D.ev.two j hj
    have low := D.ev.low j hj
    rw [VE_vs he, VE_sg he, decide_eq_true_eq] at two
    rw [VE_vs he] at low
    exact isev_ok (k := k) (D.g _ hm) two low
  · rw [W_all (bs := List.replicate (numd (L.map evV)).length true) (by simp)]
    rw [numd_len, List.length_map]
    simp
    refine ⟨szl (by decide), ?_⟩
    have k3 : Kp [] m (m2 ++ [MO.lst (List.replicate L.length (MV.bl true))]) := k2.trans Kp.app
    refine (names_ok (k := k + 3) D.g D.n7 (k3.get A (by simp))).mono ?_ (fun x m h => h.elim)
    rintro d m4 ⟨⟨x, l, rfl, hx, hl⟩, k4⟩
    simp [hx]
    exact ⟨by omega, k3.trans k4⟩
end K32
set_option maxHeartbeats 4000000
namespace K32
open PySem L2 MI
def FL (ev sa ah wa : Nat) : List (Str × MV) := [("events", .ref ev), ("starts", .ref sa), ("ahead", .ref ah), ("waiting", .ref wa)]
structure TmAt (m : Mem) (o ev sa ah wa lo : Nat) (L : List Ev) (s : Nat → Nat) (W : List Nat) (i : Nat) : Prop where
  hown : m[o]? = some (.own "Terms" (FL ev sa ah wa))
  hev : m[ev]? = some (.lst (L.map evV))
  hsa : m[sa]? = some (.lst ((List.range i).map fun j => .int ((s j : Nat) : Int)))
  hah : ∃ la, m[ah]? = some (.lst la) ∧ la.length = i
  hwa : m[wa]? = some (.lst (intsV W))
  ne : sa ≠ ah ∧ sa ≠ wa ∧ ah ≠ wa
  hlo : lo ≤ o ∧ lo ≤ sa ∧ lo ≤ ah ∧ ev < lo
theorem TmAt.kp {m m' : Mem} {o ev sa ah wa lo i : Nat} {L : List Ev} {s : Nat → Nat} {W : List Nat} (h : TmAt m o ev sa ah wa lo L s W i) (k : Kp [] m m') : TmAt m' o ev sa ah wa lo L s W i :=
  ⟨k.get h.hown (by simp), k.get h.hev (by simp), k.get h.hsa (by simp), let ⟨la, h1, h2⟩ := h.hah; ⟨la, k.get h1 (by simp), h2⟩, k.get h.hwa (by simp), h.ne, h.hlo⟩
section
variable {m : Mem} {o ev sa ah wa lo i : Nat} {L : List Ev} {s : Nat → Nat} {W : List Nat} {Q : MV → Mem → Prop} {E : Exn → Mem → Prop}
theorem W_events' (h : m[o]? = some (.own "Terms" (FL ev sa ah wa))) : MI.W (gFld pf_events "events" (.ref o) m) Q E ↔ Q (.ref ev) m := by
  unfold gFld ownOf
  simp only [h]
  rw [if_pos (by rfl)]
  show MI.W (.ok (.ref ev) m) Q E ↔ _
  rw [W_ok]
theorem W_starts' (h : m[o]? = some (.own "Terms" (FL ev sa ah wa))) : MI.W (gFld pf_starts "starts" (.ref o) m) Q E ↔ Q (.ref sa) m := by
  unfold gFld ownOf
  simp only [h]
  rw [if_pos (by rfl)]
  show MI.W (.ok (.ref sa) m) Q E ↔ _
  rw [W_ok]
theorem W_ahead' (h : m[o]? = some (.own "Terms" (FL ev sa ah wa))) : MI.W (gFld pf_ahead "ahead" (.ref o) m) Q E ↔ Q (.ref ah) m := by
  unfold gFld ownOf
  simp only [h]
  rw [if_pos (by rfl)]
  show MI.W (.ok (.ref ah) m) Q E ↔ _
  rw [W_ok]
theorem W_waiting' (h : m[o]? = some (.own "Terms" (FL ev sa ah wa))) : MI.W (gFld pf_waiting "waiting" (.ref o) m) Q E ↔ Q (.ref wa) m := by
  unfold gFld ownOf
  simp only [h]
  rw [if_pos (by rfl)]
  show MI.W (.ok (.ref wa) m) Q E ↔ _
  rw [W_ok]
theorem W_events (h : TmAt m o ev sa ah wa lo L s W i) : MI.W (gFld pf_events "events" (.ref o) m) Q E ↔ Q (.ref ev) m := W_events' h.hown
theorem W_starts (h : TmAt m o ev sa ah wa lo L s W i) : MI.W (gFld pf_starts "starts" (.ref o) m) Q E ↔ Q (.ref sa) m := W_starts' h.hown
theorem W_waiting (h : TmAt m o ev sa ah wa lo L s W i) : MI.W (gFld pf_waiting "waiting" (.ref o) m) Q E ↔ Q (.ref wa) m := W_waiting' h.hown
end
theorem inV_int {j : Int} {l : List Nat} : inV (toV (.int j)) ((intsV l).map toV) = true ↔ ∃ a ∈ l, (a : Int) = j := by
  unfold inV intsV
  rw [List.map_map, List.any_map, List.any_eq_true]
  show (∃ x, x ∈ l ∧ eqV (V.int ((x : Nat) : Int)) (V.int j) = true) ↔ _
  simp [eqV]
theorem W_inI {j : Int} {n : Nat} {ns : List Nat} {neg : Bool} {m : Mem} {Q : MV → Mem → Prop} {E : Exn → Mem → Prop} (hn : m[n]? = some (.lst (intsV ns))) (q : ∀ z : Bool, (z = true ↔ ∃ a ∈ ns, (a : Int) = j) → Q (.bl (if neg = true then !z else z)) m) : MI.W (gInA neg (.int j) (.ref n) m) Q E := by with_unfolding_all
  unfold gInA
  have hf : (intsV ns).all MI.flat = true := by with_unfolding_all simp [MI.flat, intsV]
  rw [if_neg (by rintro ⟨z, hz⟩; cases hz), if_neg (by simp [hn]), if_pos ⟨intsV ns, by simp [hn], rfl, hf⟩]
  unfold gInF
  rw [(show seqOf m (.ref n) = some (intsV ns) by simp [hn])]
  dsimp only
  rw [if_pos ⟨rfl, hf⟩]
  exact q _ inV_int
theorem key_signs {w : Str} {m : Mem} {Q : MV → Mem → Prop} {E : Exn → Mem → Prop} : MI.W (gInA false (.str w) c_SIGNS m) Q E = Q (.bl (decide (w ∈ signs))) m := W_in_strs (l := signs) (neg := false)
theorem linkA_ans {V : Evs} {i l : Nat} {w : List Nat} {r : List Vl} (h : V.vs i = .ans l :: r) (c : V.sg i = true ∧ l + 1 ∈ w ∧ V.sg (l + 1) = true ∧ (V.vs (l + 1))[1]? = some (.ans l)) : linkA V i w = some (l + 1) := by
  unfold linkA
  rw [h]
  dsimp only
  rw [if_pos c]
theorem linkA_no {V : Evs} {i l : Nat} {w : List Nat} {r : List Vl} (h : V.vs i = .ans l :: r) (c : ¬ (V.sg i = true ∧ l + 1 ∈ w ∧ V.sg (l + 1) = true ∧ (V.vs (l + 1))[1]? = some (.ans l))) : linkA V i w = none := by
  unfold linkA
  rw [h]
  dsimp only
  rw [if_neg c]
theorem linkA_sg {V : Evs} {i : Nat} {w : List Nat} (h : ¬ V.sg i = true) : linkA V i w = none := by
  unfold linkA
  split
  · rw [if_neg (fun c => h c.1)]
  · rfl
theorem link_ok {m : Mem} {o ev sa ah wa lo i k : Nat} {L : List Ev} {s : Nat → Nat} {W : List Nat} (D : Evd L) (T : TmAt m o ev sa ah wa lo L s W i) (hi : i < L.length) (hW : ∀ a ∈ W, a < i) : MI.W ((Tab (k + 2)).f .m_Terms__link_ahead [.ref o, .int i] m) (fun d m' => d = anV (linkA (VE L) i W) ∧ Kp [] m m') E0 := by
  have e1 : (Tab (k + 2)).f .m_Terms__link_ahead = f_m_Terms__link_ahead (Tab (k + 1)) := rfl
  rw [e1]
  unfold f_m_Terms__link_ahead b_m_Terms__link_ahead
  obtain ⟨e, he⟩ : ∃ e, L[i]? = some e := ⟨_, List.getElem?_eq_getElem hi⟩
  have eg := D.g e (List.mem_of_getElem? he)
  have vse := VE_vs he
  have sge := VE_sg he
  have two := D.ev.two i hi
  rw [vse, sge, decide_eq_true_eq] at two
  have a1 : atM (L.map evV) ((i : Nat) : Int) = some (.tup [.str e.1, .tup (e.2.map vlV)]) := atM_nat (by rw [List.getElem?_map, he]; rfl)
  obtain ⟨w, vs⟩ := e
  simp [startM, W_asgT, nCons, nName, nNil, W_events T, T.hev, a1]
  erw [key_signs]
  by_cases hw : w ∈ signs
  · have l2 := two hw
    match vs, l2 with
    | [v0, v1], _ =>
    have sg : (VE L).sg i = true := by rw [sge]; simpa using hw
    simp [hw]
    refine (uans_ok (k := k) (eg.ok v0 (by simp))).mono ?_ (fun x m h => h.elim)
    rintro d m' ⟨rfl, rfl⟩
    cases v0 with
    | con c =>
      have : linkA (VE L) i W = none := by unfold linkA; rw [vse]
      simp [Vl.an, anV, this]
      exact Kp.refl
    | ans l =>
      simp [Vl.an, anV, W_waiting T]
      refine W_inI T.hwa fun z hz => ?_
      cases z with
      | false =>
        have : linkA (VE L) i W = none := linkA_no (by rw [vse]) (fun c => by
          have := hz.mpr ⟨l + 1, c.2.1, by omega⟩
          cases this)
        simp [this]
        exact Kp.refl
      | true =>
        obtain ⟨a, ha, ea⟩ := hz.mp rfl
        have : a = l + 1 := by omega
        subst this
        have lt := hW _ ha
        obtain ⟨e', he'⟩ : ∃ e, L[l + 1]? = some e := ⟨_, List.getElem?_eq_getElem (by omega)⟩
        have eg' := D.g e' (List.mem_of_getElem? he')
        have vse' := VE_vs he'
        have sge' := VE_sg he'
        have two' := D.ev.two (l + 1) (by omega)
        rw [vse', sge', decide_eq_true_eq] at two'
        have a2 : atM (L.map evV) ((l : Int) + 1) = some (.tup [.str e'.1, .tup (e'.2.map vlV)]) := by
          have := atM_nat (l := L.map evV) (i := l + 1) (d := .tup [.str e'.1, .tup (e'.2.map vlV)]) (by rw [List.getElem?_map, he']; rfl)
          simpa using this
        obtain ⟨w', vs'⟩ := e'
        simp [W_events T, T.hev, a2]
        erw [key_signs]
        by_cases hw' : w' ∈ signs
        · match vs', two' hw' with
          | [u0, u1], _ =>
          have sg' : (VE L).sg (l + 1) = true := by rw [sge']; simpa using hw'
          have eu1 := eg'.ok u1 (by simp)
          have ev0 := eg.ok (.ans l) (by simp)
          simp [hw']
          refine W_eqD (vl_da eu1) (vl_da ev0) fun z3 hz3 => ?_
          rw [vlV_inj eu1 ev0] at hz3
          cases z3 with
          | true =>
            have : linkA (VE L) i W = some (l + 1) := linkA_ans (by rw [vse]) ⟨sg, ha, sg', by rw [vse']; simp [hz3.mp rfl]⟩
            simp [this]
            exact Kp.refl
          | false =>
            have : linkA (VE L) i W = none := linkA_no (by rw [vse]) (fun c => by
              have := c.2.2.2
              rw [vse'] at this
              simp at this
              have := hz3.mpr this
              cases this)
            simp [this]
            exact Kp.refl
        · have : linkA (VE L) i W = none := linkA_no (by rw [vse]) (fun c => by
            have := c.2.2.1
            rw [sge', decide_eq_true_eq] at this
            exact hw' this)
          simp [hw', this]
          exact Kp.refl
  · have sg : ¬ (VE L).sg i = true := by rw [sge]; simpa using hw
    simp [hw, linkA_sg sg, anV]
    exact Kp.refl
end K32
set_option maxHeartbeats 4000000
namespace K32
open PySem L2 MI
noncomputable def goE : MS := (mSeq (mDrop (mBM gAppend (mFld pf_starts "starts" (mVar 0)) (mCons (mVar 6) mNil)))
    (mSeq (mDrop (mBM gAppend (mFld pf_ahead "ahead" (mVar 0)) (mCons (mVar 5) mNil)))
    (mSeq (mFldS pf_waiting "waiting" (mVar 0) (mLst (mStar (mLc (mAnyI (mFld pf_waiting "waiting" (mVar 0))) (ngName 7) (mB (mBin gLt (mVar 7) (mVar 6))) (mVar 7) [7]) (mCons (mVar 1) mNil))))
    (mRet (mC (.bl true))))))
noncomputable def goD : MS := (mSeq (mAsg (mIf (mB (mBin gGt (mCall gLen (mCons (mVar 4) mNil)) (mC (.int 0)))) (mBin gItem (mFld pf_starts "starts" (mVar 0)) (mBin gItem (mVar 4) (mC (.int 0)))) (mVar 1)) (nName 6)) goE)
noncomputable def goC (ck : Tabl) : MS := (mSeq (mIfS (mAndT (mB (mBin gGt (mCall gLen (mCons (mVar 3) mNil)) (mC (.int 0)))) (mB (mBin (gInB true) (mCall (ck.f .u_answer_of) (mCons (mBin gItem (mVar 3) (mNeg (mC (.int 1)))) mNil)) (mTup (mCons (mC .non) (mCons (mBin gSub (mVar 1) (mC (.int 1))) mNil))))))
    (mRet (mC (.bl false)))
    mSkip) goD)
noncomputable def goB (ck : Tabl) : MS := (mSeq (mIfS (mNotT (mTru (mCall gAll (mCons (mLc (mZip (mCons (mVar 4) (mCons (mSl (mVar 4) (mEnd (mC (.int 1))) mNo) mNil))) (ngTup 2 (ngCons (ngName 8) (ngCons (ngName 9) ngNil))) mYes (mBin gLt (mVar 8) (mVar 9)) [9, 8]) mNil))))
    (mRet (mC (.bl false)))
    mSkip) (goC ck))
noncomputable def goA (ck : Tabl) : MS := (mSeq (mIfS (mNotT (mTru (mCall gAll (mCons (mLc (mAnyI (mVar 4)) (ngName 7) mYes (mBin (gInB false) (mVar 7) (mFld pf_waiting "waiting" (mVar 0))) [7]) mNil))))
    (mRet (mC (.bl false)))
    mSkip) (goB ck))
theorem b_goes {ck : Tabl} : b_m_Terms__goes_on ck = (mSeq (mAsg (mBin gItem (mFld pf_events "events" (mVar 0)) (mVar 1)) (nTup 2 (nCons (nName 2) (nCons (nName 3) nNil))))
    (mSeq (mAsg (mCall (ck.f .u_answers_in) (mCons (mVar 3) mNil)) (nName 4))
    (mSeq (mAsg (mMeth "Terms" "_link_ahead" (ck.f .m_Terms__link_ahead) (mVar 0) (mCons (mVar 1) mNil)) (nName 5))
    (mSeq (mIfS (mB (mBin gNotN (mVar 5) (mC .non)))
    (mAsg (mLst (mCons (mVar 5) (mStar (mSl (mVar 4) (mEnd (mC (.int 1))) mNo) mNil))) (nName 4))
    mSkip) (goA ck))))) := rfl
theorem putFM_w {ev sa ah wa w' : Nat} : putFM "waiting" (.ref w') (FL ev sa ah wa) = FL ev sa ah w' := by rfl
theorem pw_t : pf_waiting "Terms" = true := rfl
noncomputable def SW (V : Evs) : Nat → (Nat → Nat) × List Nat
  | 0 => (fun _ => 0, [])
  | i + 1 => (fun j => if j = i then st V (SW V i).1 i (SW V i).2 else (SW V i).1 j, (SW V i).2.filter (fun a => decide (a < st V (SW V i).1 i (SW V i).2)) ++ [i])
structure GoT (m0 : Mem) (o ev sa ah lo : Nat) (L : List Ev) (i : Nat) (d : MV) (m : Mem) : Prop where
  eq : d = .bl true
  kp : Kp [] m0 m
  t : ∃ wa, TmAt m o ev sa ah wa lo L (SW (VE L) (i + 1)).1 (SW (VE L) (i + 1)).2 (i + 1)
def ltB (n : Nat) (d : MV) : Bool := match d with | .int j => decide (j < n) | _ => false
theorem lt_all {l : List Nat} {n : Nat} : ((intsV l).filter (ltB n)).map (fun d => d) = intsV (l.filter fun a => decide (a < n)) := by
  unfold intsV
  rw [List.map_id', List.filter_map]
  congr 1
  refine List.filter_congr fun a _ => ?_
  simp [ltB]
theorem ints_len {l : List Nat} : (intsV l).length = l.length := by simp [intsV]
theorem goE_ok {m0 m : Mem} {o ev sa ah wa lo i n : Nat} {L : List Ev} {lk : MV} {y2 y3 y4 : Option MV} (n7 : L.length ≤ 7) (K : Kp [] m0 m) (hm : m0.length ≤ lo) (T : TmAt m o ev sa ah wa lo L (SW (VE L) i).1 (SW (VE L) i).2 i) (hi : i < L.length) (lW : (SW (VE L) i).2.length ≤ i) (hn : n = st (VE L) (SW (VE L) i).1 i (SW (VE L) i).2) :
    MI.W (goE [some (.ref o), some (.int i), y2, y3, y4, some lk, some (.int n), none, none, none] m) (fun x m' => ∃ d, x = .rt d ∧ GoT m0 o ev sa ah lo L i d m') E0 := by
  unfold goE
  obtain ⟨la, hla, lla⟩ := T.hah
  obtain ⟨ne1, ne2, ne3⟩ := T.ne
  obtain ⟨lo1, lo2, lo3, lo4⟩ := T.hlo
  have os : o ≠ sa := fun h => by have := T.hown; rw [h, T.hsa] at this; cases this
  have oa : o ≠ ah := fun h => by have := T.hown; rw [h, hla] at this; cases this
  have si := szl (n := i + 1) (by omega)
  simp [W_starts T, T.hsa]
  refine ⟨by omega, ?_⟩
  have h1 : (m.set sa (.lst ((List.range i).map (fun j => MV.int (((SW (VE L) i).1 j : Nat) : Int)) ++ [.int n])))[o]? = some (.own "Terms" (FL ev sa ah wa)) := by rw [List.getElem?_set_ne (Ne.symm os)]; exact T.hown
  have h2 : (m.set sa (.lst ((List.range i).map (fun j => MV.int (((SW (VE L) i).1 j : Nat) : Int)) ++ [.int n])))[ah]? = some (.lst la) := by rw [List.getElem?_set_ne ne1]; exact hla
  have h3 : (m.set sa (.lst ((List.range i).map (fun j => MV.int (((SW (VE L) i).1 j : Nat) : Int)) ++ [.int n])))[wa]? = some (.lst (intsV (SW (VE L) i).2)) := by rw [List.getElem?_set_ne ne2]; exact T.hwa
  have h4 : (m.set sa (.lst ((List.range i).map (fun j => MV.int (((SW (VE L) i).1 j : Nat) : Int)) ++ [.int n])))[ev]? = some (.lst (L.map evV)) := by rw [List.getElem?_set_ne (by omega)]; exact T.hev
  have h5 : (m.set sa (.lst ((List.range i).map (fun j => MV.int (((SW (VE L) i).1 j : Nat) : Int)) ++ [.int n])))[sa]? = some (.lst ((List.range i).map (fun j => MV.int (((SW (VE L) i).1 j : Nat) : Int)) ++ [.int n])) := at_set T.hsa
  have h6 : Kp [] m0 (m.set sa (.lst ((List.range i).map (fun j => MV.int (((SW (VE L) i).1 j : Nat) : Int)) ++ [.int n]))) := K.wrNew (by omega)
  generalize (m.set sa (.lst ((List.range i).map (fun j => MV.int (((SW (VE L) i).1 j : Nat) : Int)) ++ [.int n]))) = m1 at h1 h2 h3 h4 h5 h6 ⊢
  simp [W_ahead' h1, h2]
  refine ⟨by omega, ?_⟩
  have g1 : (m1.set ah (.lst (la ++ [lk])))[o]? = some (.own "Terms" (FL ev sa ah wa)) := by rw [List.getElem?_set_ne (Ne.symm oa)]; exact h1
  have g2 : (m1.set ah (.lst (la ++ [lk])))[ah]? = some (.lst (la ++ [lk])) := at_set h2
  have g3 : (m1.set ah (.lst (la ++ [lk])))[wa]? = some (.lst (intsV (SW (VE L) i).2)) := by rw [List.getElem?_set_ne ne3]; exact h3
  have g4 : (m1.set ah (.lst (la ++ [lk])))[ev]? = some (.lst (L.map evV)) := by rw [List.getElem?_set_ne (by omega)]; exact h4
  have g5 : (m1.set ah (.lst (la ++ [lk])))[sa]? = some (.lst ((List.range i).map (fun j => MV.int (((SW (VE L) i).1 j : Nat) : Int)) ++ [.int n])) := by rw [List.getElem?_set_ne (Ne.symm ne1)]; exact h5
  have g6 : Kp [] m0 (m1.set ah (.lst (la ++ [lk]))) := h6.wrNew (by omega)
  generalize (m1.set ah (.lst (la ++ [lk]))) = m2 at g1 g2 g3 g4 g5 g6 ⊢
  simp [W_waiting' g1, g3, wipeM]
  refine W_pureN (fun d => d) (ltB n) (by simp [g3]) (fun d hd => ?_) (by rw [ints_len]; omega) (fun k1 e1 => ?_)
  · obtain ⟨a, ha, rfl⟩ := List.mem_map.mp hd
    refine ⟨W_eq ?_, fun _ => W_eq ?_⟩
    · simp [ltB]
    · simp
  · rw [lt_all] at e1
    subst e1
    have fl := List.length_filter_le (fun a => decide (a < n)) (SW (VE L) i).2
    have k3 : ∀ r, Kp [] m2 (m2 ++ r) := fun r => Kp.app
    refine ⟨by rw [ints_len]; omega, ?_⟩
    rw [ownOf_at ((k3 _).get g1 (by simp))]
    simp only [pw_t, true_and]
    refine ⟨by unfold FL; simp, ?_⟩
    rw [putFM_w]
    have lo5 : o < m2.length := (List.getElem?_eq_some_iff.mp g1).1
    have oe : o ≠ ev := by omega
    have ins : intsV ((SW (VE L) i).2.filter fun a => decide (a < n)) ++ [MV.int ↑i] = intsV (((SW (VE L) i).2.filter fun a => decide (a < n)) ++ [i]) := by simp [intsV]
    have sw1 : (SW (VE L) (i + 1)).1 = fun j => if j = i then st (VE L) (SW (VE L) i).1 i (SW (VE L) i).2 else (SW (VE L) i).1 j := rfl
    have sw2 : (SW (VE L) (i + 1)).2 = (SW (VE L) i).2.filter (fun a => decide (a < st (VE L) (SW (VE L) i).1 i (SW (VE L) i).2)) ++ [i] := rfl
    have la2 : ah < m2.length := (List.getElem?_eq_some_iff.mp g2).1
    have ls2 : sa < m2.length := (List.getElem?_eq_some_iff.mp g5).1
    refine ⟨rfl, (g6.trans (k3 _)).wrNew (by omega), m2.length + 1, ?_, ?_, ?_, ⟨la ++ [lk], ?_, by simp [lla]⟩, ?_, ⟨ne1, by omega, by omega⟩, ⟨lo1, lo2, lo3, lo4⟩⟩
    · exact at_set ((k3 _).get g1 (by simp))
    · rw [List.getElem?_set_ne oe]; exact (k3 _).get g4 (by simp)
    · rw [List.getElem?_set_ne os, (k3 _).get g5 (by simp)]
      congr 2
      rw [List.range_succ, List.map_append, sw1]
      congr 1
      · refine List.map_congr_left fun j hj => ?_
        have := List.mem_range.mp hj
        dsimp only
        rw [if_neg (by omega)]
      · simp [hn]
    · rw [List.getElem?_set_ne oa]; exact (k3 _).get g2 (by simp)
    · rw [List.getElem?_set_ne (by omega), at_app, sw2, ← hn, ins]
      rfl
theorem goD_ok {m0 m : Mem} {o ev sa ah wa lo i u : Nat} {L : List Ev} {lk : MV} {y2 y3 y6 : Option MV} {uu : List Nat} (n7 : L.length ≤ 7) (K : Kp [] m0 m) (hm : m0.length ≤ lo) (T : TmAt m o ev sa ah wa lo L (SW (VE L) i).1 (SW (VE L) i).2 i) (hi : i < L.length) (lW : (SW (VE L) i).2.length ≤ i) (hu : m[u]? = some (.lst (intsV uu))) (ul : uu.length ≤ 10) (hs : uu = used (VE L) i (SW (VE L) i).2) (hr : ∀ a ∈ uu, a < i) :
    MI.W (goD [some (.ref o), some (.int i), y2, y3, some (.ref u), some lk, none, none, none, none] m) (fun x m' => ∃ d, x = .rt d ∧ GoT m0 o ev sa ah lo L i d m') E0 := by
  unfold goD
  cases uu with
  | nil =>
    have est : st (VE L) (SW (VE L) i).1 i (SW (VE L) i).2 = i := by unfold st; rw [← hs]
    simp [hu, intsV]
    exact goE_ok n7 K hm T hi lW est.symm
  | cons a r =>
    have est : st (VE L) (SW (VE L) i).1 i (SW (VE L) i).2 = (SW (VE L) i).1 a := by unfold st; rw [← hs]
    have ha := hr a List.mem_cons_self
    have a1 : atM ((List.range i).map fun j => MV.int (((SW (VE L) i).1 j : Nat) : Int)) (a : Int) = some (.int ((SW (VE L) i).1 a : Nat)) := atM_nat (by rw [List.getElem?_map, List.getElem?_range ha]; rfl)
    simp [hu, intsV, W_starts T, T.hsa, a1]
    exact goE_ok n7 K hm T hi lW est.symm
end K32
set_option maxHeartbeats 4000000
namespace K32
open PySem L2 MI
structure GoF (m0 : Mem) (o ev sa ah wa lo : Nat) (L : List Ev) (i : Nat) (d : MV) (m : Mem) : Prop where
  eq : d = .bl false
  kp : Kp [] m0 m
  t : TmAt m o ev sa ah wa lo L (SW (VE L) i).1 (SW (VE L) i).2 i
structure GoR (m0 : Mem) (o ev sa ah wa lo : Nat) (L : List Ev) (i : Nat) (x : Fl) (m : Mem) : Prop where
  ex : ∃ d, x = .rt d ∧ ((OkI (VE L) i (SW (VE L) i).2 ∧ GoT m0 o ev sa ah lo L i d m) ∨ (¬ OkI (VE L) i (SW (VE L) i).2 ∧ GoF m0 o ev sa ah wa lo L i d m))
theorem W_zip {ρ : MI.Env} {m : Mem} {g : MA} {Q : IterM → Mem → Prop} {E : Exn → Mem → Prop} : MI.W (mZip g ρ m) Q E = MI.W (g ρ m) (fun ds m => MI.W (zipOf ds m) Q E) E := by
  unfold mZip
  rw [W_bind]
theorem W_zip_r {a b : Nat} {l k : List MV} {m : Mem} {Q : IterM → Mem → Prop} {E : Exn → Mem → Prop} (h : m[a]? = some (.lst l)) (h2 : m[b]? = some (.lst k)) (q : Q ⟨zipd l k, fun m' => lstOf m' (.ref a) = some l ∧ lstOf m' (.ref b) = some k⟩ m) : MI.W (zipOf [.ref a, .ref b] m) Q E := by with_unfolding_all
  show MI.W (match lstOf m (.ref a), lstOf m (.ref b) with
    | some l, some k => .ok ⟨zipd l k, fun m' => lstOf m' (.ref a) = some l ∧ lstOf m' (.ref b) = some k⟩ m
    | _, _ => .stuck) Q E
  rw [(at_lst h).1, (at_lst h2).1]
  exact q
structure MpI (φ : MV → MV) (l0 : List MV) (m0 : Mem) (l acc : List MV) (m : Mem) : Prop where
  eq : m = m0
  acc : acc ++ l.map φ = l0.map φ
  sub : ∀ d ∈ l, d ∈ l0
theorem W_mapT {g : NG} {e : ME} {ρ : MI.Env} {l : List MV} {m : Mem} {chk : Mem → Prop} {Q : List MV → Mem → Prop} {E : Exn → Mem → Prop} (φ : MV → MV) (hc : chk m) (h : ∀ d ∈ l, ∃ as, g d m = some as ∧ MI.W (e (setE ρ as) m) (fun y m' => y = φ d ∧ m' = m) E0) (hl : l.length ≤ 1000) (q : Q (l.map φ) m) : MI.W (lcM chk g mYes e ρ l [] m) Q E := by
  refine W_lcs (MpI φ l m) _ _ _ ⟨rfl, rfl, fun _ h => h⟩ (fun l acc m' h => by rw [h.eq]; exact hc) ?_ ?_
  · rintro d r acc m' ⟨rfl, h2, h3⟩
    obtain ⟨as, g1, g2⟩ := h d (h3 d List.mem_cons_self)
    refine ⟨as, g1, ?_⟩
    simp [mYes]
    refine MI.W.mono g2 ?_ (fun x m h => h.elim)
    rintro y m'' ⟨rfl, rfl⟩
    have := congrArg List.length h2
    simp at this
    refine ⟨by have := szl (n := acc.length + 1) (by omega); omega, rfl, by rw [List.append_assoc]; exact h2, fun x hx => h3 x (List.mem_cons_of_mem _ hx)⟩
  · rintro acc m' ⟨rfl, h2, h3⟩
    rw [List.map_nil, List.append_nil] at h2
    rw [h2]
    exact q
theorem inc_zip : ∀ uu : List Nat, ((uu.zip uu.tail).all (fun p => decide (p.1 < p.2)) = true ↔ uu.Pairwise (· < ·))
  | [] => by simp
  | [a] => by simp
  | a :: b :: r => by
    have ih := inc_zip (b :: r)
    rw [show ((a :: b :: r).zip (a :: b :: r).tail) = (a, b) :: ((b :: r).zip (b :: r).tail) from rfl, List.all_cons, Bool.and_eq_true, ih, decide_eq_true_eq]
    constructor
    · rintro ⟨h1, h2⟩
      refine List.pairwise_cons.mpr ⟨fun x hx => ?_, h2⟩
      rcases List.mem_cons.mp hx with rfl | hx
      · exact h1
      · exact Nat.lt_trans h1 ((List.pairwise_cons.mp h2).1 x hx)
    · intro h
      obtain ⟨h1, h2⟩ := List.pairwise_cons.mp h
      exact ⟨h1 b List.mem_cons_self, h2⟩
theorem zipd_ints {a b : List Nat} : zipd (intsV a) (intsV b) = (a.zip b).map fun p => .tup [.int ((p.1 : Nat) : Int), .int ((p.2 : Nat) : Int)] := by
  unfold zipd intsV
  rw [List.zipWith_map, List.zip, List.map_zipWith]
theorem cut_ints {a : List Nat} : cutM (intsV a) (some 1) none = intsV a.tail := by
  unfold intsV
  cases a with
  | nil => rfl
  | cons x r => rw [List.map_cons, cut1]; rfl
theorem W_in2 {o : Option Nat} {j : Int} {m : Mem} {Q : MV → Mem → Prop} {E : Exn → Mem → Prop} (q : ∀ z : Bool, (z = true ↔ o = none ∨ ∃ a, o = some a ∧ (a : Int) = j) → Q (.bl (!z)) m) : MI.W (gInB true (anV o) (.tup [.non, .int j]) m) Q E := by with_unfolding_all
  have fl : flat (anV o) = true := by cases o <;> rfl
  unfold gInB
  rw [if_neg (by rw [fl]; simp)]
  unfold gInA
  rw [if_neg (by rintro ⟨z, h⟩; cases h), if_neg (by simp), if_pos ⟨_, rfl, fl, rfl⟩]
  show MI.W (if flat (anV o) = true ∧ [MV.non, MV.int j].all flat = true then .ok (.bl (if true then !inV (toV (anV o)) ([MV.non, MV.int j].map toV) else inV (toV (anV o)) ([MV.non, MV.int j].map toV))) m else .stuck) Q E
  rw [if_pos ⟨fl, rfl⟩]
  refine q _ ?_
  cases o with
  | none => simp [anV, inV, toV, eqV]
  | some a =>
    simp [anV, inV, toV, eqV]
    constructor <;> intro h <;> exact h.symm
theorem atM_last {vs : List Vl} (h : vs ≠ []) : ∃ v, vs.getLast? = some v ∧ atM (vs.map vlV) (-1) = some (vlV v) := by
  have l0 := List.length_pos_iff.mpr h
  refine ⟨vs.getLast h, List.getLast?_eq_some_getLast h, ?_⟩
  unfold atM ixN
  rw [if_neg (by omega), List.length_map, if_pos (by omega)]
  show (vs.map vlV)[((vs.length : Int) + -1).toNat]? = _
  rw [List.getElem?_map, show ((vs.length : Int) + -1).toNat = vs.length - 1 by omega, ← List.getLast?_eq_getElem?, List.getLast?_eq_some_getLast h]
  rfl
end K32
set_option maxHeartbeats 4000000
namespace K32
open PySem L2 MI
def inWB (W : List Nat) (d : MV) : MV := match d with
  | .int j => .bl (decide (∃ a ∈ W, (a : Int) = j))
  | _ => .non
section
variable {m0 m : Mem} {o ev sa ah wa lo i u k : Nat} {L : List Ev} {lk : MV} {y2 : Option MV} {vs : List Vl} {uu : List Nat}
theorem goC_ok (D : Evd L) (K : Kp [] m0 m) (hm : m0.length ≤ lo) (T : TmAt m o ev sa ah wa lo L (SW (VE L) i).1 (SW (VE L) i).2 i) (hi : i < L.length) (lW : (SW (VE L) i).2.length ≤ i) (hW : ∀ a ∈ (SW (VE L) i).2, a < i) (hu : m[u]? = some (.lst (intsV uu))) (ul : uu.length ≤ 10) (hs : uu = used (VE L) i (SW (VE L) i).2)
    (hv : (VE L).vs i = vs) (ok : ∀ v ∈ vs, VlOk v) (vl : vs.length ≤ 3) (h1 : ∀ a ∈ uu, a ∈ (SW (VE L) i).2) (h2 : uu.Pairwise (· < ·)) :
    MI.W (goC (Tab (k + 2)) [some (.ref o), some (.int i), y2, some (.tup (vs.map vlV)), some (.ref u), some lk, none, none, none, none] m) (GoR m0 o ev sa ah wa lo L i) E0 := by
  unfold goC
  have yes : lastOk vs i → ∀ m', Kp [] m m' → MI.W (goD [some (.ref o), some (.int i), y2, some (.tup (vs.map vlV)), some (.ref u), some lk, none, none, none, none] m') (GoR m0 o ev sa ah wa lo L i) E0 := fun h m' k1 => by
    refine (goD_ok (y6 := none) D.n7 (K.trans k1) hm (T.kp k1) hi lW (k1.get hu (by simp)) ul hs (fun a ha => hW a (h1 a ha))).mono ?_ (fun x m h => h)
    rintro x m2 ⟨d, rfl, g⟩
    exact ⟨⟨d, rfl, .inl ⟨⟨by rw [← hs]; exact h1, by rw [← hs]; exact h2, by rw [hv]; exact h⟩, g⟩⟩⟩
  by_cases he : vs = []
  · subst he
    simp
    have := yes (fun a h => by simp at h) m Kp.refl
    simpa using this
  · obtain ⟨v, g1, g2⟩ := atM_last he
    have l0 := List.length_pos_iff.mpr he
    have hvm : v ∈ vs := List.mem_of_getLast? g1
    simp [szl (n := vs.length) (by omega), l0, g2]
    refine (uans_ok (k := k + 1) (ok v hvm)).mono ?_ (fun x m h => h.elim)
    rintro d m1 ⟨rfl, rfl⟩
    refine ⟨szl (by decide), W_in2 fun z hz => ?_⟩
    have lo' : z = true ↔ lastOk vs i := by
      rw [hz]
      unfold lastOk
      rw [g1]
      constructor
      · rintro h a ha
        cases v with
        | con c => simp at ha
        | ans b =>
          simp at ha
          subst ha
          rcases h with h | ⟨a, h, e⟩
          · cases h
          · cases h; omega
      · intro h
        cases v with
        | con c => exact .inl rfl
        | ans b => exact .inr ⟨b, rfl, by have := h b rfl; omega⟩
    cases z with
    | true =>
      simp
      exact yes (lo'.mp rfl) _ Kp.refl
    | false =>
      simp
      refine ⟨⟨_, rfl, .inr ⟨fun h => ?_, ⟨rfl, K, T⟩⟩⟩⟩
      have := h.last
      rw [hv] at this
      have := lo'.mpr this
      cases this
theorem goB_ok (D : Evd L) (K : Kp [] m0 m) (hm : m0.length ≤ lo) (T : TmAt m o ev sa ah wa lo L (SW (VE L) i).1 (SW (VE L) i).2 i) (hi : i < L.length) (lW : (SW (VE L) i).2.length ≤ i) (hW : ∀ a ∈ (SW (VE L) i).2, a < i) (hu : m[u]? = some (.lst (intsV uu))) (ul : uu.length ≤ 10) (hs : uu = used (VE L) i (SW (VE L) i).2)
    (hv : (VE L).vs i = vs) (ok : ∀ v ∈ vs, VlOk v) (vl : vs.length ≤ 3) (h1 : ∀ a ∈ uu, a ∈ (SW (VE L) i).2) :
    MI.W (goB (Tab (k + 2)) [some (.ref o), some (.int i), y2, some (.tup (vs.map vlV)), some (.ref u), some lk, none, none, none, none] m) (GoR m0 o ev sa ah wa lo L i) E0 := by
  unfold goB
  simp [W_zip, hu, cut_ints]
  have k1 : Kp [] m (m ++ [MO.lst (intsV uu.tail)]) := Kp.app
  have hd : (m ++ [MO.lst (intsV uu.tail)])[m.length]? = some (.lst (intsV uu.tail)) := List.getElem?_concat_length
  have hu1 := k1.get hu (by simp)
  generalize (m ++ [MO.lst (intsV uu.tail)]) = m1 at k1 hd hu1 ⊢
  refine W_zip_r hu1 hd ?_
  simp [wipeM]
  refine W_mapT (fun d => match d with | .tup [.int a, .int b] => .bl (decide (a < b)) | _ => .non) ⟨by simp [hu1], by simp [hd]⟩ (fun d hdm => ?_) ?_ ?_
  · rw [zipd_ints] at hdm
    obtain ⟨p, hp, rfl⟩ := List.mem_map.mp hdm
    refine ⟨_, rfl, ?_⟩
    simp [setE]
  · rw [zipd_ints]
    simp
    omega
  · rw [zipd_ints, List.map_map]
    have e : ((fun d => match d with | .tup [.int a, .int b] => MV.bl (decide (a < b)) | _ => .non) ∘ fun (p : Nat × Nat) => MV.tup [.int ((p.1 : Nat) : Int), .int ((p.2 : Nat) : Int)]) = fun p => MV.bl (decide (p.1 < p.2)) := by
      funext p
      simp
    rw [e]
    have e2 : ((uu.zip uu.tail).map fun p => MV.bl (decide (p.1 < p.2))) = ((uu.zip uu.tail).map fun p => decide (p.1 < p.2)).map .bl := by rw [List.map_map]; rfl
    rw [e2, W_all (List.getElem?_concat_length)]
    have e3 := inc_zip uu
    have e4 : (((uu.zip uu.tail).map fun p => decide (p.1 < p.2)).all id = true) ↔ uu.Pairwise (· < ·) := by
      rw [← e3, List.all_map]
      rfl
    generalize ((uu.zip uu.tail).map fun p => decide (p.1 < p.2)) = bs at e4 ⊢
    have k2 := k1.trans (Kp.app (S := []) (m := m1) (r := [MO.lst (bs.map .bl)]))
    cases hb : bs.all id with
    | true =>
      rw [hb] at e4
      simp
      exact goC_ok (k := k) D (K.trans k2) hm (T.kp k2) hi lW hW (k2.get hu (by simp)) ul hs hv ok vl h1 (e4.mp rfl)
    | false =>
      rw [hb] at e4
      simp
      refine ⟨⟨_, rfl, .inr ⟨fun h => ?_, ⟨rfl, K.trans k2, T.kp k2⟩⟩⟩⟩
      have := h.inc
      rw [← hs] at this
      have := e4.mpr this
      cases this
theorem goA_ok (D : Evd L) (K : Kp [] m0 m) (hm : m0.length ≤ lo) (T : TmAt m o ev sa ah wa lo L (SW (VE L) i).1 (SW (VE L) i).2 i) (hi : i < L.length) (lW : (SW (VE L) i).2.length ≤ i) (hW : ∀ a ∈ (SW (VE L) i).2, a < i) (hu : m[u]? = some (.lst (intsV uu))) (ul : uu.length ≤ 10) (hs : uu = used (VE L) i (SW (VE L) i).2)
    (hv : (VE L).vs i = vs) (ok : ∀ v ∈ vs, VlOk v) (vl : vs.length ≤ 3) :
    MI.W (goA (Tab (k + 2)) [some (.ref o), some (.int i), y2, some (.tup (vs.map vlV)), some (.ref u), some lk, none, none, none, none] m) (GoR m0 o ev sa ah wa lo L i) E0 := by
  unfold goA
  simp [hu, wipeM]
  refine W_mapT (inWB (SW (VE L) i).2) (by simp [hu]) (fun d hdm => ?_) (by rw [ints_len]; omega) ?_
  · obtain ⟨a, ha, rfl⟩ := List.mem_map.mp hdm
    refine ⟨_, rfl, ?_⟩
    simp [setE, W_waiting T]
    refine W_inI T.hwa fun z hz => ?_
    simp [inWB]
    rw [Bool.eq_iff_iff, hz]
    simp
  · have e : (intsV uu).map (inWB (SW (VE L) i).2) = (uu.map fun a => decide (a ∈ (SW (VE L) i).2)).map .bl := by
      unfold intsV
      rw [List.map_map, List.map_map]
      refine List.map_congr_left fun a _ => ?_
      simp [inWB]
      exact ⟨fun ⟨b, h, e⟩ => by have : b = a := by omega
                                 rw [← this]; exact h, fun h => ⟨a, h, rfl⟩⟩
    rw [e, W_all (List.getElem?_concat_length)]
    have e4 : ((uu.map fun a => decide (a ∈ (SW (VE L) i).2)).all id = true) ↔ ∀ a ∈ uu, a ∈ (SW (VE L) i).2 := by
      rw [List.all_map, List.all_eq_true]
      simp
    generalize (uu.map fun a => decide (a ∈ (SW (VE L) i).2)) = bs at e4 ⊢
    have k2 : Kp [] m (m ++ [MO.lst (bs.map .bl)]) := Kp.app
    cases hb : bs.all id with
    | true =>
      rw [hb] at e4
      simp
      exact goB_ok (k := k) D (K.trans k2) hm (T.kp k2) hi lW hW (k2.get hu (by simp)) ul hs hv ok vl (e4.mp rfl)
    | false =>
      rw [hb] at e4
      simp
      refine ⟨⟨_, rfl, .inr ⟨fun h => ?_, ⟨rfl, K.trans k2, T.kp k2⟩⟩⟩⟩
      have := h.mem
      rw [← hs] at this
      have := e4.mpr this
      cases this
theorem goes_ok (D : Evd L) (K : Kp [] m0 m) (hm : m0.length ≤ lo) (T : TmAt m o ev sa ah wa lo L (SW (VE L) i).1 (SW (VE L) i).2 i) (hi : i < L.length) (lW : (SW (VE L) i).2.length ≤ i) (hW : ∀ a ∈ (SW (VE L) i).2, a < i) :
    MI.W ((Tab (k + 3)).f .m_Terms__goes_on [.ref o, .int i] m) (fun d m' => GoR m0 o ev sa ah wa lo L i (.rt d) m') E0 := by
  have e1 : (Tab (k + 3)).f .m_Terms__goes_on = f_m_Terms__goes_on (Tab (k + 2)) := rfl
  rw [e1]
  unfold f_m_Terms__goes_on
  rw [b_goes]
  have n7 := D.n7
  obtain ⟨e, he⟩ : ∃ e, L[i]? = some e := ⟨_, List.getElem?_eq_getElem hi⟩
  have eg := D.g e (List.mem_of_getElem? he)
  have vse := VE_vs he
  have a1 : atM (L.map evV) ((i : Nat) : Int) = some (.tup [.str e.1, .tup (e.2.map vlV)]) := atM_nat (by rw [List.getElem?_map, he]; rfl)
  obtain ⟨w, vs⟩ := e
  have few := eg.few
  simp at few
  simp [startM, W_asgT, nCons, nName, nNil, W_events T, T.hev, a1]
  refine (uin_ok (k := k) (m := m) eg.ok (by simp; omega)).mono ?_ (fun x m h => h.elim)
  rintro d m1 ⟨rfl, rfl⟩
  have k1 : Kp [] m (m ++ [MO.lst (intsV (us vs))]) := Kp.app
  have hu : (m ++ [MO.lst (intsV (us vs))])[m.length]? = some (.lst (intsV (us vs))) := List.getElem?_concat_length
  have T1 := T.kp k1
  have K1 := K.trans k1
  have hM : hasM "Terms" "_link_ahead" (.ref o) (m ++ [MO.lst (intsV (us vs))]) = true := by
    unfold hasM
    rw [ownOf_at T1.hown]
    rfl
  simp [hM]
  generalize (m ++ [MO.lst (intsV (us vs))]) = m1 at k1 hu T1 K1 ⊢
  generalize m.length = u at hu ⊢
  refine (link_ok (k := k) D T1 hi hW).mono ?_ (fun x m h => h.elim)
  rintro d m2 ⟨rfl, k2⟩
  have T2 := T1.kp k2
  have K2 := K1.trans k2
  have hu2 := k2.get hu (by simp)
  have ul : (us vs).length ≤ 3 := Nat.le_trans (List.length_filterMap_le _ _) few
  have uq : used (VE L) i (SW (VE L) i).2 = match linkA (VE L) i (SW (VE L) i).2 with | some k => k :: (us vs).tail | none => us vs := by
    unfold used
    rw [vse]
    all_goals (cases linkA (VE L) i (SW (VE L) i).2 <;> rfl)
  have fin : ∀ x m, GoR m0 o ev sa ah wa lo L i x m → fin (fun d m' => GoR m0 o ev sa ah wa lo L i (.rt d) m') MI.E0 x m := by
    rintro x m ⟨d, rfl, h⟩
    exact ⟨⟨d, rfl, h⟩⟩
  cases hl : linkA (VE L) i (SW (VE L) i).2 with
  | none =>
    rw [hl] at uq
    simp [anV]
    exact MI.W.mono (goA_ok (k := k) (uu := us vs) D K2 hm T2 hi lW hW hu2 (by omega) uq.symm vse eg.ok few) fin (fun x m h => h)
  | some q =>
    rw [hl] at uq
    simp [anV, hu2, cut_ints]
    have sz := szl (n := (intsV (us vs).tail).length + 1) (by rw [ints_len, List.length_tail]; omega)
    refine ⟨sz, ?_⟩
    have k3 : Kp [] m2 (m2 ++ [MO.lst (intsV (us vs).tail), MO.lst (MV.int ↑q :: intsV (us vs).tail)]) := Kp.app
    refine MI.W.mono (goA_ok (k := k) (uu := q :: (us vs).tail) D (K2.trans k3) hm (T2.kp k3) hi lW hW ?_ (by simp; omega) uq.symm vse eg.ok few) fin (fun x m h => h)
    rw [at_app]
    rfl
end
end K32
set_option maxHeartbeats 4000000
namespace K32
open PySem L2 MI
theorem sw_lt {V : Evs} : ∀ i, ∀ a ∈ (SW V i).2, a < i
  | 0, a, h => by cases h
  | i + 1, a, h => by
    have h : a ∈ (SW V i).2.filter _ ++ [i] := h
    rcases List.mem_append.mp h with h | h
    · have := sw_lt i a (List.mem_filter.mp h).1
      omega
    · rw [List.mem_singleton] at h
      omega
theorem sw_len {V : Evs} : ∀ i, (SW V i).2.length ≤ i
  | 0 => Nat.le_refl _
  | i + 1 => by
    have ih := sw_len (V := V) i
    show ((SW V i).2.filter _ ++ [i]).length ≤ i + 1
    rw [List.length_append]
    have := List.length_filter_le (fun a => decide (a < st V (SW V i).1 i (SW V i).2)) (SW V i).2
    simp at this ⊢
    omega
structure InI (m0 : Mem) (o ev sa ah lo : Nat) (L : List Ev) (j : Nat) (ρ : MI.Env) (m : Mem) : Prop where
  ex : ∃ y2, ρ = [some (.ref o), some (.ref ev), y2]
  kp : Kp [] m0 m
  t : ∃ wa, TmAt m o ev sa ah wa lo L (SW (VE L) j).1 (SW (VE L) j).2 j
  ok : ∀ i, i < j → OkI (VE L) i (SW (VE L) i).2
/-- how far the terms go -/
structure Far (L : List Ev) (P : Nat) : Prop where
  le : P ≤ L.length
  ok : ∀ i, i < P → OkI (VE L) i (SW (VE L) i).2
  no : P < L.length → ¬ OkI (VE L) P (SW (VE L) P).2
structure InO (m0 : Mem) (o : Nat) (L : List Ev) (m : Mem) : Prop where
  ex : ∃ P wa l, Far L P ∧ m[o]? = some (.own "Terms" l) ∧ l.lookup ("possible" : Str) = some (.int ((P : Nat) : Int)) ∧ l.lookup ("waiting" : Str) = some (.ref wa) ∧ m[wa]? = some (.lst (intsV (SW (VE L) P).2))
  kp : Kp [] m0 m
theorem init_ok {m : Mem} {ev k : Nat} {L : List Ev} (D : Evd L) (A : m[ev]? = some (.lst (L.map evV))) : MI.W ((Tab (k + 4)).f .i_Terms [.ref m.length, .ref ev] (m ++ [.own "Terms" []])) (fun d m' => d = .non ∧ InO m m.length L m') E0 := by
  have e1 : (Tab (k + 4)).f .i_Terms = f_i_Terms (Tab (k + 3)) := rfl
  rw [e1]
  unfold f_i_Terms b_i_Terms
  have n7 := D.n7
  have lev : ev < m.length := (List.getElem?_eq_some_iff.mp A).1
  have pe : pf_events "Terms" = true := rfl
  have ps : pf_starts "Terms" = true := rfl
  have pa : pf_ahead "Terms" = true := rfl
  have l1 : ∀ v, (putFM "events" v []).length < 1000 := fun v => by have : (putFM "events" v []).length = 1 := rfl; omega
  have l2 : ∀ v v2, (putFM "starts" v (putFM "events" v2 [])).length < 1000 := fun v v2 => by have : (putFM "starts" v (putFM "events" v2 [])).length = 2 := rfl; omega
  have l3 : ∀ v v2 v3, (putFM "ahead" v3 (putFM "starts" v (putFM "events" v2 []))).length < 1000 := fun v v2 v3 => by have : (putFM "ahead" v3 (putFM "starts" v (putFM "events" v2 []))).length = 3 := rfl; omega
  have l4 : ∀ v v2 v3 v4 : Nat, putFM "waiting" (.ref v4) (putFM "ahead" (.ref v3) (putFM "starts" (.ref v) (putFM "events" (.ref v2) []))) = FL v2 v v3 v4 := fun v v2 v3 v4 => by rfl
  simp [startM, ownOf, pe, ps, pa, pw_t, l1, l2, l3, l4]
  have k1 : Kp [] m (m ++ [MO.own "Terms" (FL ev (m.length + 1) (m.length + 1 + 1) (m.length + 1 + 1 + 1)), MO.lst [], MO.lst [], MO.lst []]) := Kp.app
  have T : TmAt (m ++ [MO.own "Terms" (FL ev (m.length + 1) (m.length + 1 + 1) (m.length + 1 + 1 + 1)), MO.lst [], MO.lst [], MO.lst []]) m.length ev (m.length + 1) (m.length + 1 + 1) (m.length + 1 + 1 + 1) m.length L (SW (VE L) 0).1 (SW (VE L) 0).2 0 :=
    ⟨by rw [← Nat.add_zero m.length, at_app]; rfl, k1.get A (by simp), by rw [at_app]; rfl, ⟨[], by rw [show m.length + 1 + 1 = m.length + 2 from rfl, at_app]; rfl, rfl⟩, by rw [show m.length + 1 + 1 + 1 = m.length + 3 from rfl, at_app]; rfl, ⟨by omega, by omega, by omega⟩, ⟨by omega, by omega, by omega, lev⟩⟩
  rw [k1.get A (by simp)]
  generalize (m ++ [MO.own "Terms" (FL ev (m.length + 1) (m.length + 1 + 1) (m.length + 1 + 1 + 1)), MO.lst [], MO.lst [], MO.lst []]) = m1 at k1 T ⊢
  simp
  refine ⟨by omega, ?_⟩
  -- how it ends
  have fin : ∀ P ρ m2, Far L P → (∃ y2, ρ = [some (.ref m.length), some (.ref ev), y2]) → Kp [] m m2 → (∃ wa, TmAt m2 m.length ev (m.length + 1) (m.length + 1 + 1) wa m.length L (SW (VE L) P).1 (SW (VE L) P).2 P) → nxt (mFldS pf_possible "possible" (mVar 0) (mCall gLen (mCons (mFld pf_starts "starts" (mVar 0)) mNil))) (MI.fin (fun d m' => d = MV.non ∧ InO m m.length L m') MI.E0) MI.E0 (.nx ρ) m2 := by
    rintro P ρ m2 far ⟨y2, rfl⟩ k2 ⟨wa, T2⟩
    have pp : pf_possible "Terms" = true := rfl
    simp [W_starts T2, T2.hsa, ownOf_at T2.hown, pp]
    have ow : (m2.set m.length (.own "Terms" (putFM "possible" (.int ((P : Nat) : Int)) (FL ev (m.length + 1) (m.length + 1 + 1) wa))))[m.length]? = some (.own "Terms" (putFM "possible" (.int ((P : Nat) : Int)) (FL ev (m.length + 1) (m.length + 1 + 1) wa))) := at_set T2.hown
    have wo : wa ≠ m.length := fun h => by have := T2.hwa; rw [h, T2.hown] at this; cases this
    exact ⟨by unfold FL; simp, ⟨P, wa, _, far, ow, rfl, rfl, by rw [List.getElem?_set_ne (Ne.symm wo)]; exact T2.hwa⟩, k2.wrNew (Nat.le_refl _)⟩
  refine W_range (InI m m.length ev (m.length + 1) (m.length + 1 + 1) m.length L) ⟨⟨_, rfl⟩, k1, ⟨_, T⟩, by intro i h; omega⟩ ?_ ?_
  · rintro j ρ m2 hj ⟨⟨y2, rfl⟩, k2, ⟨wa, T2⟩, ok⟩
    have hM : hasM "Terms" "_goes_on" (.ref m.length) m2 = true := by
      unfold hasM
      rw [ownOf_at T2.hown]
      rfl
    simp [hM]
    refine (goes_ok (k := k) D k2 (Nat.le_refl _) T2 hj (sw_len j) (sw_lt j)).mono ?_ (fun x m h => h.elim)
    rintro d m3 ⟨d', e, h⟩
    cases e
    rcases h with ⟨o1, o2⟩ | ⟨o1, o2⟩
    · rw [o2.eq]
      simp
      refine ⟨⟨_, rfl⟩, o2.kp, o2.t, fun i hi => ?_⟩
      rcases Nat.lt_or_ge i j with g | g
      · exact ok i g
      · rw [show i = j by omega]; exact o1
    · rw [o2.eq]
      simp
      have r := fin j [some (.ref m.length), some (.ref ev), none] m3 ⟨by omega, ok, fun _ => o1⟩ ⟨_, rfl⟩ o2.kp ⟨_, o2.t⟩
      simpa using r
  · rintro ρ m2 ⟨e, k2, t2, ok⟩
    exact fin L.length ρ m2 ⟨Nat.le_refl _, ok, fun h => absurd h (Nat.lt_irrefl _)⟩ e k2 t2
end K32
set_option maxHeartbeats 4000000
namespace K32
open PySem L2 MI
theorem W_gMake {c : Str} {F : MF} {ds : List MV} {m : Mem} {Q : MV → Mem → Prop} {E : Exn → Mem → Prop} (h : MI.W (F (.ref m.length :: ds) (m ++ [.own c []])) (fun d m' => d = .non ∧ Q (.ref m.length) m') E0) : MI.W (gMake c F ds m) Q E := by with_unfolding_all
  unfold gMake
  cases hf : F (.ref m.length :: ds) (m ++ [.own c []]) with
  | stuck => rw [hf] at h; exact h.elim
  | ex x m1 => rw [hf] at h; exact h.elim
  | ok d m1 =>
    rw [hf] at h
    rw [W_ok] at h; obtain ⟨rfl, q⟩ := h
    exact q
/-- the error of terms_of: where the first event stands that nothing makes -/
structure NoE (L : List Ev) (m : Mem) (x : Exn) (m' : Mem) : Prop where
  ex : ∃ P, Far L P ∧ P < L.length ∧ x = ⟨"NoExpressionFor", [("index", .int ((P : Nat) : Int))]⟩
  kp : Kp [] m m'
structure TmO (L : List Ev) (m : Mem) (d : MV) (m' : Mem) : Prop where
  ex : ∃ o wa l, d = .ref o ∧ Far L L.length ∧ m'[o]? = some (.own "Terms" l) ∧ l.lookup ("waiting" : Str) = some (.ref wa) ∧ m'[wa]? = some (.lst (intsV (SW (VE L) L.length).2))
  kp : Kp [] m m'
theorem terms_ok {m : Mem} {a k : Nat} {L : List Ev} (D : Evd L) (n6 : L.length ≤ 6) (A : m[a]? = some (.lst (L.map evV))) : MI.W ((Tab (k + 6)).f .terms_of [.ref a] m) (TmO L m) (NoE L m) := by
  have e1 : (Tab (k + 6)).f .terms_of = f_terms_of (Tab (k + 5)) (Hk (k + 5)) (k + 5) := rfl
  rw [e1]
  unfold f_terms_of b_terms_of
  rw [Hk_eq (by omega)]
  simp [startM]
  refine (check_ok (k := k) D n6 A).mono ?_ (fun x m h => h.elim)
  intro d m1 k1
  have A1 := k1.get A (by simp)
  refine W_gMake ?_
  refine (init_ok (k := k) D A1).mono ?_ (fun x m h => h.elim)
  rintro d m2 ⟨rfl, ⟨P, wa, l, far, ow, h1, h2, hw⟩, k2⟩
  have A2 := k2.get A1 (by simp)
  have le := far.le
  refine ⟨rfl, ?_⟩
  have K := k1.trans k2
  refine W_gFld ow rfl h1 ?_
  rw [A2]
  simp
  by_cases hp : P < L.length
  · simp [hp]
    refine W_gFld ow rfl h1 ⟨?_, ⟨P, far, hp, rfl⟩, K⟩
    have n7 := D.n7
    have : ((P : Nat) : Int).natAbs = P := by omega
    rw [this]
    rcases Nat.eq_zero_or_pos P with h | h
    · subst h; decide
    · exact Nat.lt_of_le_of_lt (Nat.log2_le_self P) (by omega)
  · have e : P = L.length := by omega
    subst e
    simp
    exact ⟨⟨m1.length, wa, l, rfl, far, ow, h2, hw⟩, K⟩
structure OpO (L : List Ev) (m : Mem) (d : MV) (m' : Mem) : Prop where
  ex : Far L L.length ∧ ∃ x, d = .ref x ∧ m'[x]? = some (.lst (intsV (SW (VE L) L.length).2)) ∧ m.length ≤ x
  kp : Kp [] m m'
theorem open_ok {m : Mem} {a k : Nat} {L : List Ev} (D : Evd L) (n6 : L.length ≤ 6) (A : m[a]? = some (.lst (L.map evV))) : MI.W ((Tab (k + 7)).f .open_answers [.ref a] m) (OpO L m) (NoE L m) := by
  have e1 : (Tab (k + 7)).f .open_answers = f_open_answers (Tab (k + 6)) := rfl
  rw [e1]
  unfold f_open_answers b_open_answers
  simp [startM]
  refine (terms_ok (k := k) D n6 A).mono ?_ (fun x m h => h)
  rintro d m2 ⟨⟨o, wa, l, rfl, far, ow, h2, hw⟩, K⟩
  refine W_gFld ow rfl h2 ?_
  simp [hw]
  have lm := K.1
  exact ⟨⟨far, m2.length, rfl, List.getElem?_concat_length, by omega⟩, K.trans Kp.app⟩
end K32
set_option maxHeartbeats 4000000
namespace K32
open PySem L2 MI
theorem sw_s {V : Evs} {u : Nat} : ∀ {i}, u < i → (SW V i).1 u = (SW V (u + 1)).1 u := by
  intro i
  induction i with
  | zero => intro h; omega
  | succ i ih =>
    intro h
    by_cases e : u = i
    · rw [e]
    · show (if u = i then _ else (SW V i).1 u) = _
      rw [if_neg e]
      exact ih (by omega)
noncomputable def sF (V : Evs) (j : Nat) : Nat := (SW V (j + 1)).1 j
theorem stk_of {V : Evs} {P : Nat} (ok : ∀ i, i < P → OkI V i (SW V i).2) : Stk V (sF V) (fun i => (SW V i).2) P := by
  have key : ∀ i, i < P → sF V i = st V (SW V i).1 i (SW V i).2 := fun i _ => by
    show (if i = i then _ else _) = _
    rw [if_pos rfl]
  refine ⟨rfl, ok, fun i hi => ?_, fun i hi => ?_⟩
  · rw [key i hi]
    rcases st_cases (V := V) (s := sF V) i (SW V i).2 with ⟨e1, e2⟩ | ⟨u, r, e1, e2⟩
    · rw [e2]
      unfold st
      rw [e1]
    · rw [e2]
      unfold st
      rw [e1]
      have := sw_lt i u ((ok i hi).mem u (by rw [e1]; exact List.mem_cons_self))
      exact sw_s this
  · rw [key i hi]
    rfl
theorem far_wrong {L : List Ev} {P : Nat} (D : Evd L) (F : Far L P) : Wrong L (if P < L.length then some P else none) := by
  have S := stk_of F.ok
  have ok : ∀ e, e ≤ P → canF L e = true := fun e he => can_ok Tb_law D.ev S F.le D.n7 he
  by_cases h : P < L.length
  · rw [if_pos h]
    exact .some P h (fun i hi => ok (i + 1) (by omega)) (can_no Tb_law D.ev S h D.n7 (F.no h))
  · rw [if_neg h]
    exact .none fun i hi => ok (i + 1) (by have := F.le; omega)
theorem linkA_congr {V V' : Evs} {i : Nat} {w : List Nat} (h1 : V.sg i = V'.sg i) (h2 : V.vs i = V'.vs i) (h3 : ∀ j ∈ w, V.sg j = V'.sg j ∧ V.vs j = V'.vs j) : linkA V i w = linkA V' i w := by
  unfold linkA
  rw [h2]
  split
  · rename_i l r e
    by_cases hm : l + 1 ∈ w
    · obtain ⟨q1, q2⟩ := h3 _ hm
      rw [h1, q1, q2]
    · rw [if_neg (fun h => hm h.2.1), if_neg (fun h => hm h.2.1)]
  · rfl
theorem used_congr {V V' : Evs} {i : Nat} {w : List Nat} (h1 : V.sg i = V'.sg i) (h2 : V.vs i = V'.vs i) (h3 : ∀ j ∈ w, V.sg j = V'.sg j ∧ V.vs j = V'.vs j) : used V i w = used V' i w := by
  unfold used
  rw [linkA_congr h1 h2 h3, h2]
theorem st_congr {V V' : Evs} {s : Nat → Nat} {i : Nat} {w : List Nat} (h1 : V.sg i = V'.sg i) (h2 : V.vs i = V'.vs i) (h3 : ∀ j ∈ w, V.sg j = V'.sg j ∧ V.vs j = V'.vs j) : st V s i w = st V' s i w := by
  unfold st
  rw [used_congr h1 h2 h3]
theorem ok_congr {V V' : Evs} {i : Nat} {w : List Nat} (h1 : V.sg i = V'.sg i) (h2 : V.vs i = V'.vs i) (h3 : ∀ j ∈ w, V.sg j = V'.sg j ∧ V.vs j = V'.vs j) (h : OkI V i w) : OkI V' i w := by
  have e := used_congr h1 h2 h3
  exact ⟨by rw [← e]; exact h.mem, by rw [← e]; exact h.inc, by rw [← h2]; exact h.last⟩
theorem sw_congr {V V' : Evs} {n : Nat} (h : ∀ j, j < n → V.sg j = V'.sg j ∧ V.vs j = V'.vs j) : ∀ i, i ≤ n → SW V i = SW V' i
  | 0, _ => rfl
  | i + 1, hi => by
    have ih := sw_congr h i (by omega)
    obtain ⟨h1, h2⟩ := h i (by omega)
    have h3 : ∀ j ∈ (SW V' i).2, V.sg j = V'.sg j ∧ V.vs j = V'.vs j := fun j hj => h j (by have := sw_lt i j hj; omega)
    show (_, _) = (_, _)
    rw [ih, st_congr h1 h2 h3]
theorem sw_inc {V : Evs} : ∀ i, (SW V i).2.Pairwise (· < ·)
  | 0 => .nil
  | i + 1 => by
    show ((SW V i).2.filter _ ++ [i]).Pairwise (· < ·)
    rw [List.pairwise_append]
    refine ⟨(sw_inc i).filter _, by simp, fun a ha b hb => ?_⟩
    rw [List.mem_singleton] at hb
    have := sw_lt i a (List.mem_filter.mp ha).1
    omega
theorem sorted_ext : ∀ {a b : List Nat}, a.Pairwise (· < ·) → b.Pairwise (· < ·) → (∀ x, x ∈ a ↔ x ∈ b) → a = b
  | [], [], _, _, _ => rfl
  | [], y :: b, _, _, h => absurd ((h y).mpr List.mem_cons_self) (by simp)
  | x :: a, [], _, _, h => absurd ((h x).mp List.mem_cons_self) (by simp)
  | x :: a, y :: b, ha, hb, h => by
    obtain ⟨a1, a2⟩ := List.pairwise_cons.mp ha
    obtain ⟨b1, b2⟩ := List.pairwise_cons.mp hb
    have e : x = y := by
      rcases List.mem_cons.mp ((h x).mp List.mem_cons_self) with e | h1
      · exact e
      · rcases List.mem_cons.mp ((h y).mpr List.mem_cons_self) with e | h2
        · exact e.symm
        · have := b1 x h1
          have := a1 y h2
          omega
    subst e
    congr 1
    refine sorted_ext a2 b2 fun z => ⟨fun hz => ?_, fun hz => ?_⟩
    · rcases List.mem_cons.mp ((h z).mp (List.mem_cons_of_mem _ hz)) with e | h1
      · have := a1 z hz; omega
      · exact h1
    · rcases List.mem_cons.mp ((h z).mpr (List.mem_cons_of_mem _ hz)) with e | h1
      · have := b1 z hz; omega
      · exact h1
def noneV : Vl := .con (.tup [.str "none"])
/-- one more event, to ask whether an answer is open -/
def qEv (j : Nat) : Ev := ("q", [.ans j, noneV])
theorem ve_old {L : List Ev} {e : Ev} {i : Nat} (h : i < L.length) : (VE L).sg i = (VE (L ++ [e])).sg i ∧ (VE L).vs i = (VE (L ++ [e])).vs i := by
  unfold VE
  simp only [List.getElem?_append_left h, and_self]
theorem ve_new {L : List Ev} {e : Ev} : (L ++ [e])[L.length]? = some e := List.getElem?_concat_length
theorem none_ok : VlOk noneV := .inl ⟨"none", by simp, rfl⟩
theorem evd_q {L : List Ev} (D : Evd L) (n6 : L.length ≤ 6) {j : Nat} (hj : j < L.length) : Evd (L ++ [qEv j]) := by
  have sgq : (VE (L ++ [qEv j])).sg L.length = false := by rw [VE_sg ve_new]; show decide (("q" : Str) ∈ signs) = false; decide
  have vsq : (VE (L ++ [qEv j])).vs L.length = [.ans j, noneV] := by rw [VE_vs ve_new]; rfl
  refine ⟨fun e he => ?_, ⟨fun l hl sg => ?_, fun l hl a ha => ?_⟩, by simp; omega⟩
  · rcases List.mem_append.mp he with h | h
    · exact D.g e h
    · rw [List.mem_singleton] at h
      subst h
      refine ⟨fun v hv => ?_, by show 2 ≤ 3; decide, by show ("q" : Str) ∈ words; decide⟩
      rcases List.mem_cons.mp hv with rfl | hv
      · trivial
      · rw [List.mem_singleton] at hv
        subst hv
        exact none_ok
  · by_cases e : l = L.length
    · rw [e, sgq] at sg; cases sg
    · simp at hl
      obtain ⟨q1, q2⟩ := ve_old (e := qEv j) (show l < L.length by omega)
      rw [← q2]
      exact D.ev.two l (by omega) (by rw [q1]; exact sg)
  · by_cases e : l = L.length
    · rw [e, vsq] at ha
      simp [us, Vl.an, noneV] at ha
      omega
    · simp at hl
      obtain ⟨q1, q2⟩ := ve_old (e := qEv j) (show l < L.length by omega)
      rw [← q2] at ha
      exact D.ev.low l (by omega) a ha
theorem wrong_q {L : List Ev} (D : Evd L) (n6 : L.length ≤ 6) (F : Far L L.length) {j : Nat} (hj : j < L.length) {o : Option Nat} (w : Wrong (L ++ [qEv j]) o) : o = none ↔ j ∈ (SW (VE L) L.length).2 := by
  have D' := evd_q D n6 hj
  have sgq : (VE (L ++ [qEv j])).sg L.length = false := by rw [VE_sg ve_new]; show decide (("q" : Str) ∈ signs) = false; decide
  have vsq : (VE (L ++ [qEv j])).vs L.length = [.ans j, noneV] := by rw [VE_vs ve_new]; rfl
  have old : ∀ i, i < L.length → (VE L).sg i = (VE (L ++ [qEv j])).sg i ∧ (VE L).vs i = (VE (L ++ [qEv j])).vs i := fun i h => ve_old h
  have sw := fun i hi => sw_congr (n := L.length) old i hi
  have ok : ∀ i, i < L.length → OkI (VE (L ++ [qEv j])) i (SW (VE (L ++ [qEv j])) i).2 := fun i hi => by
    rw [← sw i (by omega)]
    exact ok_congr (old i hi).1 (old i hi).2 (fun a ha => old a (by have := sw_lt i a ha; omega)) (F.ok i hi)
  have uq : used (VE (L ++ [qEv j])) L.length (SW (VE L) L.length).2 = [j] := by
    rw [used_none (linkA_sg (by rw [sgq]; simp)), vsq]
    rfl
  have last : OkI (VE (L ++ [qEv j])) L.length (SW (VE (L ++ [qEv j])) L.length).2 ↔ j ∈ (SW (VE L) L.length).2 := by
    rw [← sw L.length (Nat.le_refl _)]
    constructor
    · intro h
      exact h.mem j (by rw [uq]; exact List.mem_cons_self)
    · intro h
      refine ⟨fun a ha => ?_, by rw [uq]; simp, fun a ha => ?_⟩
      · rw [uq, List.mem_singleton] at ha
        subst ha
        exact h
      · rw [vsq] at ha
        cases ha
  have len : (L ++ [qEv j]).length = L.length + 1 := by simp
  by_cases hm : j ∈ (SW (VE L) L.length).2
  · have F' : Far (L ++ [qEv j]) (L.length + 1) := ⟨by rw [len]; exact Nat.le_refl _, fun i hi => by
      by_cases e : i = L.length
      · rw [e]; exact last.mpr hm
      · exact ok i (by omega), fun h => by omega⟩
    have := far_wrong D' F'
    rw [if_neg (by omega)] at this
    rw [w.uniq this]
    simp [hm]
  · have F' : Far (L ++ [qEv j]) L.length := ⟨by omega, ok, fun _ h => hm (last.mp h)⟩
    have := far_wrong D' F'
    rw [if_pos (by omega)] at this
    rw [w.uniq this]
    simp [hm]
theorem due_eq {L : List Ev} : (List.range L.length).filter (fun j => decide (j ∈ (SW (VE L) L.length).2)) = (SW (VE L) L.length).2 := by
  refine sorted_ext ((List.pairwise_lt_range).filter _) (sw_inc _) fun x => ?_
  rw [List.mem_filter, List.mem_range, decide_eq_true_eq]
  exact ⟨fun h => h.2, fun h => ⟨sw_lt _ x h, h⟩⟩
end K32
set_option maxHeartbeats 4000000
namespace K32
open PySem L2 MI
structure DuI (L : List Ev) (a : Nat) (m0 : Mem) (j : Nat) (ρ : MI.Env) (m : Mem) : Prop where
  ex : ∃ x y2 y3, ρ = [some (.ref a), some (.ref x), y2, y3] ∧ m[x]? = some (.lst (intsV ((List.range j).filter fun i => decide (i ∈ (SW (VE L) L.length).2)))) ∧ m0.length ≤ x
  kp : Kp [] m0 m
structure DuO (L : List Ev) (m : Mem) (d : MV) (m' : Mem) : Prop where
  ex : ∃ x, d = .ref x ∧ m'[x]? = some (.lst (intsV (SW (VE L) L.length).2)) ∧ m.length ≤ x
  kp : Kp [] m m'
theorem ldue_ok {L : List Ev} {a k : Nat} {m : Mem} (D : Evd L) (n6 : L.length ≤ 6) (F : Far L L.length) (A : m[a]? = some (.lst (L.map evV))) : MI.W ((Tab (k + 9)).f .l_due [.ref a] m) (DuO L m) E0 := by
  have e1 : (Tab (k + 9)).f .l_due = f_l_due (Tab (k + 8)) := rfl
  rw [e1]
  unfold f_l_due b_l_due
  have A1 : ∀ r : List MO, (m ++ r)[a]? = some (.lst (L.map evV)) := fun r => (Kp.app (S := [])).get A (by simp)
  simp [startM, A1]
  refine ⟨by omega, ?_⟩
  refine W_range (DuI L a m) ⟨⟨m.length, _, _, rfl, List.getElem?_concat_length, Nat.le_refl _⟩, Kp.app⟩ ?_ ?_
  · rintro j ρ m1 hj ⟨⟨x, y2, y3, rfl, hx, lx⟩, k1⟩
    have A2 := k1.get A (by simp)
    have s2 := szl (n := 2) (by decide)
    have s1 := szl (n := 1) (by decide)
    have xa : x ≠ a := by have := (List.getElem?_eq_some_iff.mp A).1; omega
    simp [s2, s1]
    have k2 : Kp [] m1 (m1 ++ [MO.lst [evV (qEv j)]]) := Kp.app
    have hn : (m1 ++ [MO.lst [evV (qEv j)]])[m1.length]? = some (.lst [evV (qEv j)]) := List.getElem?_concat_length
    have A3 := k2.get A2 (by simp)
    have hx2 := k2.get hx (by simp)
    have eq : evV (qEv j) = MV.tup [.str "q", .tup [.tup [.str "object", .tup [.str "event", .int ((j : Nat) : Int)]], .tup [.str "none"]]] := rfl
    rw [← eq]
    generalize (m1 ++ [MO.lst [evV (qEv j)]]) = m2 at k2 hn A3 hx2 ⊢
    rw [W_add_l A3 hn]
    refine ⟨szl (by simp; omega), ?_⟩
    have e2 : L.map evV ++ [evV (qEv j)] = (L ++ [qEv j]).map evV := by simp
    rw [e2]
    have k3 : Kp [] m2 (m2 ++ [MO.lst ((L ++ [qEv j]).map evV)]) := Kp.app
    refine (lwrong_ok (k := k) (evd_q D n6 hj) (a := m2.length) List.getElem?_concat_length).mono ?_ (fun x m h => h.elim)
    rintro d m3 ⟨⟨o, rfl, w⟩, k4⟩
    have wq := wrong_q D n6 F hj w
    have hx3 := k4.get (k3.get hx2 (by simp)) (by simp)
    have K := ((k1.trans k2).trans k3).trans k4
    cases o with
    | none =>
      have hm := wq.mp rfl
      simp [anV, hx3]
      refine ⟨?_, ⟨x, _, _, rfl, ?_, lx⟩, K.wrNew lx⟩
      · have := List.length_filter_le (fun i => decide (i ∈ (SW (VE L) L.length).2)) (List.range j)
        rw [ints_len]
        have := szl (n := 100) (by decide)
        simp at *
        omega
      · rw [at_set hx3, List.range_succ, List.filter_append]
        simp [hm, intsV]
    | some P =>
      have hm : j ∉ (SW (VE L) L.length).2 := fun h => by have := wq.mpr h; cases this
      simp [anV]
      refine ⟨⟨x, _, _, rfl, ?_, lx⟩, K⟩
      rw [hx3, List.range_succ, List.filter_append]
      simp [hm]
  · rintro ρ m1 ⟨⟨x, y2, y3, rfl, hx, lx⟩, k1⟩
    simp
    rw [due_eq] at hx
    exact ⟨⟨x, rfl, hx, lx⟩, k1⟩
end K32
set_option maxHeartbeats 4000000
namespace K32
open PySem L2 MI
theorem das_intsV {l : List Nat} (h : l.length ≤ 100) : Das (intsV l) := das_ints (fun d hd => by
  obtain ⟨a, _, rfl⟩ := List.mem_map.mp hd
  exact ⟨_, rfl⟩) (by rw [ints_len]; omega)
theorem cut_end {l : List MV} {d : MV} : cutM (l ++ [d]) none (some (-1)) = l := by
  have e : HT.sIx (l ++ [d]).length (l ++ [d]).length (some (-1)) = l.length := by
    unfold HT.sIx
    simp
    omega
  have e0 : HT.sIx (l ++ [d]).length 0 none = 0 := rfl
  unfold cutM
  rw [e, e0]
  simp
/-- the error as it is caught -/
structure Cau (m : Mem) (n : Nat) (P : Nat) : Prop where
  ex : exnOf m (.ref n) = some ⟨"NoExpressionFor", [("index", .int ((P : Nat) : Int))]⟩
  i1 : isxV p_NoExpressionFor m (.ref n) = some true
  i2 : isxV p_InvalidEvents m (.ref n) = some false
  i3 : isxV p_ValueError m (.ref n) = some true
theorem cau_new {m : Mem} {P : Nat} : Cau (m ++ [MO.exn ⟨"NoExpressionFor", [("index", .int ((P : Nat) : Int))]⟩]) m.length P := by
  have h : (m ++ [MO.exn ⟨"NoExpressionFor", [("index", .int ((P : Nat) : Int))]⟩])[m.length]? = some (.exn ⟨"NoExpressionFor", [("index", .int ((P : Nat) : Int))]⟩) := List.getElem?_concat_length
  have e : exnOf (m ++ [MO.exn ⟨"NoExpressionFor", [("index", .int ((P : Nat) : Int))]⟩]) (.ref m.length) = some ⟨"NoExpressionFor", [("index", .int ((P : Nat) : Int))]⟩ := by
    unfold exnOf
    simp only [h]
  refine ⟨e, ?_, ?_, ?_⟩
  · show (exnOf _ (.ref m.length)).bind (fun x => p_NoExpressionFor x.cls) = some true
    rw [e]
    rfl
  · show (exnOf _ (.ref m.length)).bind (fun x => p_InvalidEvents x.cls) = some false
    rw [e]
    rfl
  · show (exnOf _ (.ref m.length)).bind (fun x => p_ValueError x.cls) = some true
    rw [e]
    rfl
theorem lright_ok {L : List Ev} {a k : Nat} {m : Mem} (D : Evd L) (n6 : L.length ≤ 6) (A : m[a]? = some (.lst (L.map evV))) : MI.W ((Tab (k + 10)).f .l_right [.ref a] m) (fun d m' => d = .bl true ∧ Kp [] m m') E0 := by
  have e1 : (Tab (k + 10)).f .l_right = f_l_right (Tab (k + 9)) := rfl
  rw [e1]
  unfold f_l_right b_l_right
  simp [startM]
  refine (lwrong_ok (k := k + 1) D A).mono ?_ (fun x m h => h.elim)
  rintro d m1 ⟨⟨o, rfl, w⟩, k1⟩
  have A1 := k1.get A (by simp)
  refine (open_ok (k := k + 2) D n6 A1).mono ?_ ?_
  · rintro d m2 ⟨⟨F, x, rfl, hx, lx⟩, k2⟩
    have wf := far_wrong D F
    rw [if_neg (Nat.lt_irrefl _)] at wf
    rw [w.uniq wf]
    have A2 := k2.get A1 (by simp)
    simp [anV]
    have n7 := D.n7
    have lw := sw_len (V := VE L) L.length
    have dw : Das (intsV (SW (VE L) L.length).2) := das_intsV (by omega)
    refine (ldue_ok (k := k) D n6 F A2).mono ?_ (fun x m h => h.elim)
    rintro d m3 ⟨⟨y, rfl, hy, ly⟩, k3⟩
    have A3 := k3.get A2 (by simp)
    have hx3 := k3.get hx (by simp)
    refine W_eqL hx3 hy dw dw fun z hz => ?_
    have zt : z = true := hz.mpr rfl
    subst zt
    simp [hx3]
    refine W_pureN (fun d => d) (fun _ => false) (by simp [hx3]) (fun d hd => ?_) (by rw [ints_len]; omega) (fun q e => ?_)
    · obtain ⟨b, _, rfl⟩ := List.mem_map.mp hd
      refine ⟨W_eq ?_, fun h => by cases h⟩
      simp [wipeM, kit_ib]
    · have qn : q = [] := by rw [e]; simp
      subst qn
      have k4 : Kp [] m3 (m3 ++ [MO.lst [], MO.lst []]) := Kp.app
      refine W_eqL (l := []) (k := []) (by rw [← Nat.add_zero m3.length, at_app]; rfl) (by rw [at_app]; rfl) ⟨rfl, by simp [fls], by simp [dps]⟩ ⟨rfl, by simp [fls], by simp [dps]⟩ fun z hz => ?_
      have zt : z = true := hz.mpr rfl
      subst zt
      have hx4 := k4.get hx3 (by simp)
      have A4 := k4.get A3 (by simp)
      have K4 := ((k1.trans k2).trans k3).trans k4
      generalize (m3 ++ [MO.lst [], MO.lst []]) = m4 at hx4 A4 K4 ⊢
      have sz := szl (n := (intsV (SW (VE L) L.length).2).length + 1) (by rw [ints_len]; omega)
      simp [hx4]
      refine ⟨by omega, ?_⟩
      have lm := k1.1
      have xa : x ≠ a := by have := (List.getElem?_eq_some_iff.mp A).1; omega
      have A5 : (m4.set x (.lst (intsV (SW (VE L) L.length).2 ++ [.non])))[a]? = some (.lst (L.map evV)) := by rw [List.getElem?_set_ne xa]; exact A4
      have hx5 : (m4.set x (.lst (intsV (SW (VE L) L.length).2 ++ [.non])))[x]? = some (.lst (intsV (SW (VE L) L.length).2 ++ [.non])) := at_set hx4
      have K5 : Kp [] m (m4.set x (.lst (intsV (SW (VE L) L.length).2 ++ [.non]))) := K4.wrNew (by omega)
      generalize (m4.set x (.lst (intsV (SW (VE L) L.length).2 ++ [.non]))) = m5 at A5 hx5 K5 ⊢
      refine (open_ok (k := k + 2) D n6 A5).mono ?_ ?_
      · rintro d m6 ⟨⟨_, v, rfl, hv, _⟩, k6⟩
        have hx6 := k6.get hx5 (by simp)
        simp [hx6, cut_end]
        have k7 : Kp [] m6 (m6 ++ [MO.lst (intsV (SW (VE L) L.length).2)]) := Kp.app
        refine W_eqL (k7.get hv (by simp)) List.getElem?_concat_length dw dw fun z hz => ?_
        have zt : z = true := hz.mpr rfl
        subst zt
        exact ⟨rfl, (K5.trans k6).trans k7⟩
      · rintro x m6 ⟨⟨P, F', hP, rfl⟩, k6⟩
        have wf' := far_wrong D F'
        rw [if_pos hP] at wf'
        have := wf.uniq wf'
        cases this
  · rintro x m2 ⟨⟨P, F, hP, rfl⟩, k2⟩
    have wf := far_wrong D F
    rw [if_pos hP] at wf
    rw [w.uniq wf]
    have pO : p_OperandError "NoExpressionFor" = some true := rfl
    have px : px_index "NoExpressionFor" = true := rfl
    have lo : List.lookup ("index" : Str) [("index", MV.int ((P : Nat) : Int))] = some (.int ((P : Nat) : Int)) := rfl
    have c := cau_new (m := m2) (P := P)
    have k3 : Kp [] m2 (m2 ++ [MO.exn ⟨"NoExpressionFor", [("index", .int ((P : Nat) : Int))]⟩]) := Kp.app
    generalize hm3 : (m2 ++ [MO.exn ⟨"NoExpressionFor", [("index", .int ((P : Nat) : Int))]⟩]) = m3 at c k3
    simp [anV, pO, hm3, c.ex, c.i1, c.i2, c.i3, px, lo, kit_ib]
    exact (k1.trans k2).trans k3
end K32
set_option maxHeartbeats 4000000
namespace K32
open PySem L2 MI
structure OpV (j s c n : Nat) (m : Mem) (d : MV) (m' : Mem) : Prop where
  ex : ∃ v, VlOk v ∧ (∀ a, v = .ans a → a < j) ∧ d = vlV v
  bud : Bud m' s c n
  kp : Kp [s, c] m m'
theorem con_ok {k : Nat} {m : Mem} {j s c n : Nat} (B : Bud m s c (n + 1)) : MI.W ((Tab (k + 3)).f .l_constant [.ref s] m) (OpV j s c n m) E0 := by
  have e1 : (Tab (k + 3)).f .l_constant = f_l_constant (Tab (k + 2)) := rfl
  rw [e1]
  unfold f_l_constant b_l_constant
  have s1 := szl (n := 1) (by decide)
  have s2 := szl (n := 2) (by decide)
  have s5 := szl (n := 5) (by decide)
  simp [startM, s1, s2, s5]
  generalize hl : [MV.tup [.str "none"], .tup [.str "true"], .tup [.str "object", .tup [.str "name", .str "a"]], .tup [.str "object", .tup [.str "name", .str "b"]], .tup [.str "false"]] = l
  have k1 : Kp [s, c] m (m ++ [MO.lst l]) := Kp.app
  have B1 : Bud (m ++ [MO.lst l]) s c (n + 1) := B.any Kp.app
  refine (pick_ok (k := k) B1 (l := l) List.getElem?_concat_length (B.new (Nat.le_refl _)) (by rw [← hl]; simp) (by rw [← hl]; simp)).mono ?_ (fun x m h => h.elim)
  rintro d m' ⟨hd, B2, k2⟩
  refine ⟨⟨.con d, ?_, (fun a h => by cases h), rfl⟩, B2, k1.trans k2⟩
  rw [← hl] at hd
  simp at hd
  rcases hd with rfl | rfl | rfl | rfl | rfl
  · exact .inl ⟨"none", by simp, rfl⟩
  · exact .inl ⟨"true", by simp, rfl⟩
  · exact .inr ⟨"a", by simp, rfl⟩
  · exact .inr ⟨"b", by simp, rfl⟩
  · exact .inl ⟨"false", by simp, rfl⟩
theorem operand_ok {k : Nat} {m : Mem} {j s c n : Nat} (hj : j ≤ 100) (B : Bud m s c (n + 3)) : MI.W ((Tab (k + 4)).f .l_operand [.ref s, .int j] m) (OpV j s c n m) E0 := by
  have e1 : (Tab (k + 4)).f .l_operand = f_l_operand (Tab (k + 3)) := rfl
  rw [e1]
  unfold f_l_operand b_l_operand
  have s2 := szl (n := 2) (by decide)
  by_cases h0 : 0 < j
  · simp [startM, h0, s2]
    refine (dr_ok (k := k + 2) (n := n + 2) B (by decide) (by decide)).mono ?_ (fun x m h => h.elim)
    rintro d m1 ⟨v, rfl, v0, v1, B1, k1⟩
    by_cases hv : 0 < v
    · simp [hv]
      refine (dr_ok (k := k + 2) (n := n + 1) B1 (by decide) (by decide)).mono ?_ (fun x m h => h.elim)
      rintro d m2 ⟨v2, rfl, _, _, B2, k2⟩
      by_cases hv2 : v2 = 0
      · simp [hv2]
        refine (dr_ok (k := k + 2) (n := n) B2 (by omega) (by omega)).mono ?_ (fun x m h => h.elim)
        rintro d m3 ⟨v3, rfl, l0, l1, B3, k3⟩
        refine ⟨⟨.ans v3.toNat, trivial, (fun a h => by cases h; omega), ?_⟩, B3, (k1.trans k2).trans k3⟩
        show _ = MV.tup [.str "object", .tup [.str "event", .int ((v3.toNat : Nat) : Int)]]
        rw [Int.toNat_of_nonneg l0]
      · simp [hv2]
        refine ⟨⟨.ans (j - 1), trivial, (fun a h => by cases h; omega), ?_⟩, B2.less (by omega), k1.trans k2⟩
        show _ = MV.tup [.str "object", .tup [.str "event", .int ((j - 1 : Nat) : Int)]]
        rw [show ((j - 1 : Nat) : Int) = (j : Int) - 1 by omega]
    · simp [hv]
      refine (con_ok (k := k) (j := j) (n := n) (B1.less (by omega))).mono ?_ (fun x m h => h.elim)
      rintro d m2 ⟨e, B2, k2⟩
      exact ⟨e, B2, k1.trans k2⟩
  · simp [startM, h0, s2]
    exact con_ok (k := k) (j := j) (n := n) (B.less (by omega))
/-- events as the law draws them -/
structure EvsD (L : List Ev) : Prop where
  g : ∀ e ∈ L, EvG e
  two : ∀ e ∈ L, e.1 ∈ signs → e.2.length = 2
  low : ∀ l e, L[l]? = some e → ∀ a ∈ us e.2, a < l
theorem EvsD.evd {L : List Ev} (h : EvsD L) (n7 : L.length ≤ 7) : Evd L := by
  refine ⟨h.g, ⟨fun l hl sg => ?_, fun l hl a ha => ?_⟩, n7⟩
  · have he : L[l]? = some L[l] := List.getElem?_eq_getElem hl
    rw [VE_sg he, decide_eq_true_eq] at sg
    rw [VE_vs he]
    exact h.two _ (List.getElem_mem hl) sg
  · have he : L[l]? = some L[l] := List.getElem?_eq_getElem hl
    rw [VE_vs he] at ha
    exact h.low l _ he a ha
theorem EvsD.snoc {L : List Ev} (h : EvsD L) {e : Ev} (g : EvG e) (two : e.1 ∈ signs → e.2.length = 2) (low : ∀ a ∈ us e.2, a < L.length) : EvsD (L ++ [e]) := by
  refine ⟨fun x hx => ?_, fun x hx => ?_, fun l x hx => ?_⟩
  · rcases List.mem_append.mp hx with hx | hx
    · exact h.g x hx
    · rw [List.mem_singleton] at hx; rw [hx]; exact g
  · rcases List.mem_append.mp hx with hx | hx
    · exact h.two x hx
    · rw [List.mem_singleton] at hx; rw [hx]; exact two
  · rcases Nat.lt_or_ge l L.length with q | q
    · rw [List.getElem?_append_left q] at hx
      exact h.low l x hx
    · rw [List.getElem?_append_right q] at hx
      have : l - L.length = 0 := by
        rcases Nat.eq_zero_or_pos (l - L.length) with e | e
        · exact e
        · rw [List.getElem?_eq_none (by show 1 ≤ _; exact e)] at hx; cases hx
      rw [this] at hx
      simp at hx
      subst hx
      rw [show l = L.length by omega]
      exact low
theorem das_of {B D : Nat} : ∀ {l : List MV}, (∀ d ∈ l, pu d = true ∧ fl d ≤ B ∧ dp d ≤ D) → pus l = true ∧ fls l ≤ B + l.length ∧ dps l ≤ D
  | [], _ => ⟨rfl, by simp [fls], by simp [dps]⟩
  | d :: l, h => by
    obtain ⟨h1, h2, h3⟩ := h d List.mem_cons_self
    obtain ⟨g1, g2, g3⟩ := das_of (l := l) fun x hx => h x (List.mem_cons_of_mem _ hx)
    refine ⟨by simp [pus, h1, g1], ?_, ?_⟩
    · simp only [fls, List.length_cons]
      omega
    · simp only [dps]
      omega
theorem vl_meas {v : Vl} (h : VlOk v) : pu (vlV v) = true ∧ fl (vlV v) ≤ 6 ∧ dp (vlV v) ≤ 3 := by
  refine ⟨(vl_da h).pu, ?_, ?_⟩
  · cases v with
    | ans a => simp [vlV, fl, fls]
    | con c => rcases h with ⟨s, hs, rfl⟩ | ⟨nm, hn, rfl⟩ <;> simp [vlV, fl, fls]
  · cases v with
    | ans a => simp [vlV, dp, dps]
    | con c => rcases h with ⟨s, hs, rfl⟩ | ⟨nm, hn, rfl⟩ <;> simp [vlV, dp, dps]
theorem wd_strOk : ∀ s ∈ words, PyData.strOk s = true := by decide +kernel
theorem ev_meas {e : Ev} (g : EvG e) : pu (evV e) = true ∧ fl (evV e) ≤ 20 ∧ dp (evV e) ≤ 10 := by
  obtain ⟨w, vs⟩ := e
  have few := g.few
  simp at few
  obtain ⟨h1, h2, h3⟩ := das_of (B := 6) (D := 3) (l := vs.map vlV) (fun d hd => by
    obtain ⟨v, hv, rfl⟩ := List.mem_map.mp hd
    exact vl_meas (g.ok v hv))
  rw [List.length_map] at h2
  refine ⟨?_, ?_, ?_⟩
  · simp [evV, pu, pus, h1, wd_strOk w g.wd]
  · simp only [evV, fl, fls]
    omega
  · simp only [evV, dp, dps]
    omega
theorem das_evs {L : List Ev} (g : ∀ e ∈ L, EvG e) (h : L.length ≤ 100) : Das (L.map evV) := by
  obtain ⟨h1, h2, h3⟩ := das_of (B := 20) (D := 10) (l := L.map evV) (fun d hd => by
    obtain ⟨e, he, rfl⟩ := List.mem_map.mp hd
    exact ev_meas (g e he))
  rw [List.length_map] at h2
  exact ⟨h1, by omega, by omega⟩
structure DrI (s c many n : Nat) (m0 : Mem) (j : Nat) (ρ : MI.Env) (m : Mem) : Prop where
  ex : ∃ x L y3 y4 y5, ρ = [some (.ref s), some (.int ((many : Nat) : Int)), some (.ref x), y3, y4, y5] ∧ L.length = j ∧ EvsD L ∧ m[x]? = some (.lst (L.map evV)) ∧ m0.length ≤ x
  bud : Bud m s c (n + 12 * (many - j))
  kp : Kp [s, c] m0 m
structure DrO (s c many n : Nat) (m : Mem) (d : MV) (m' : Mem) : Prop where
  ex : ∃ x L, d = .ref x ∧ L.length = many ∧ EvsD L ∧ m'[x]? = some (.lst (L.map evV)) ∧ m.length ≤ x
  bud : Bud m' s c n
  kp : Kp [s, c] m m'
theorem us_low {vs : List Vl} {j : Nat} (h : ∀ v ∈ vs, ∀ a, v = .ans a → a < j) : ∀ a ∈ us vs, a < j := by
  intro a ha
  obtain ⟨v, hv, e⟩ := List.mem_filterMap.mp ha
  cases v with
  | ans b => cases e; exact h _ hv a rfl
  | con c => cases e
noncomputable def evI (ck : Tabl) : MS := (mIfS (mAndT (mB (mBin (gEqA true) (mVar 2) (mLst mNil))) (mAndT (mB (mBin (gEqA false) (mBin gItem (mBin gItem (mVar 2) (mNeg (mC (.int 1)))) (mC (.int 0))) (mC (.str "<")))) (mB (mBin (gEqA false) (mCall (ck.f .l_draw) (mCons (mVar 0) (mCons (mC (.int 2)) mNil))) (mC (.int 0))))))
    (mStore (mVar 4) (mC (.int 0)) (mBin gItem (mBin gItem (mBin gItem (mVar 2) (mNeg (mC (.int 1)))) (mC (.int 1))) (mC (.int 1))))
    mSkip)
theorem b_drawn {ck : Tabl} : b_l_drawn_events ck = (mSeq (mAsg (mLst mNil) (nName 2))
    (mSeq (mFor (mRng (mCons (mVar 1) mNil)) (nName 3)
    (mIfS (mB (mBin (gEqA false) (mCall (ck.f .l_draw) (mCons (mVar 0) (mCons (mC (.int 3)) mNil))) (mC (.int 0))))
    (mSeq (mAsg (mLst (mCons (mCall (ck.f .l_operand) (mCons (mVar 0) (mCons (mVar 3) mNil))) (mCons (mCall (ck.f .l_operand) (mCons (mVar 0) (mCons (mVar 3) mNil))) mNil))) (nName 4))
    (mSeq (evI ck)
    (mDrop (mBM gAppend (mVar 2) (mCons (mTup (mCons (mC (.str "<")) (mCons (mCall gTuple (mCons (mVar 4) mNil)) mNil))) mNil)))))
    (mSeq (mAsg (mLc (mRng (mCons (mCall (ck.f .l_draw) (mCons (mVar 0) (mCons (mC (.int 4)) mNil))) mNil)) (ngName 5) mYes (mCall (ck.f .l_operand) (mCons (mVar 0) (mCons (mVar 3) mNil))) [5]) (nName 4))
    (mDrop (mBM gAppend (mVar 2) (mCons (mTup (mCons (mCall (ck.f .l_pick) (mCons (mVar 0) (mCons (mLst (mCons (mC (.str "f")) (mCons (mC (.str "object")) (mCons (mC (.str "name")) mNil)))) mNil))) (mCons (mCall gTuple (mCons (mVar 4) mNil)) mNil))) mNil))))))
    (mRet (mVar 2)))) := rfl
structure EvIO (s c x j y n : Nat) (y1 y3 y5 : Option MV) (v1 : Vl) (L : List Ev) (m : Mem) (r : Fl) (m' : Mem) : Prop where
  ex : r = .nx [some (.ref s), y1, some (.ref x), y3, some (.ref y), y5] ∧ ∃ u0, VlOk u0 ∧ (∀ a, u0 = .ans a → a < j) ∧ m'[y]? = some (.lst [vlV u0, vlV v1])
  x : m'[x]? = some (.lst (L.map evV))
  bud : Bud m' s c n
  kp : ∀ m0, m0.length ≤ y → Kp [s, c] m0 m → Kp [s, c] m0 m'
theorem atM_lastE {L : List Ev} (h : L ≠ []) : ∃ e, L[L.length - 1]? = some e ∧ atM (L.map evV) (-1) = some (evV e) := by
  have l0 := List.length_pos_iff.mpr h
  refine ⟨L[L.length - 1]'(by omega), List.getElem?_eq_getElem _, ?_⟩
  unfold atM ixN
  rw [if_neg (by omega), List.length_map, if_pos (by omega)]
  show (L.map evV)[((L.length : Int) + -1).toNat]? = _
  rw [List.getElem?_map, show ((L.length : Int) + -1).toNat = L.length - 1 by omega, List.getElem?_eq_getElem (by omega)]
  rfl
theorem evI_ok {k : Nat} {m : Mem} {s c x j y n : Nat} {y1 y3 y5 : Option MV} {v0 v1 : Vl} {L : List Ev} (B : Bud m s c (n + 1)) (hx : m[x]? = some (.lst (L.map evV))) (hy : m[y]? = some (.lst [vlV v0, vlV v1])) (xs : x ∉ [s, c]) (ys : y ∉ [s, c]) (xy : x ≠ y) (ed : EvsD L) (hL : L.length = j) (lj : j ≤ 6) (o0 : VlOk v0) (b0 : ∀ a, v0 = .ans a → a < j) :
    MI.W (evI (Tab (k + 4)) [some (.ref s), y1, some (.ref x), y3, some (.ref y), y5] m) (EvIO s c x j y n y1 y3 y5 v1 L m) E0 := by
  unfold evI
  have hx1 : ∀ r : List MO, (m ++ r)[x]? = some (.lst (L.map evV)) := fun r => (Kp.app (S := [])).get hx (by simp)
  have same : ∀ m', Bud m' s c n → Kp [s, c] m m' → EvIO s c x j y n y1 y3 y5 v1 L m (.nx [some (.ref s), y1, some (.ref x), y3, some (.ref y), y5]) m' := fun m' B' k' =>
    ⟨⟨rfl, v0, o0, b0, k'.get hy ys⟩, k'.get hx xs, B', fun m0 _ K => K.trans k'⟩
  simp
  have k1 : Kp [s, c] m (m ++ [MO.lst []]) := Kp.app
  have B1 := B.any (m' := m ++ [MO.lst []]) Kp.app
  refine W_eqL (hx1 _) (l := L.map evV) (k := []) List.getElem?_concat_length (das_evs ed.g (by omega)) ⟨rfl, by simp [fls], by simp [dps]⟩ fun z hz => ?_
  have hx2 := hx1 [.lst []]
  have hy2 := k1.get hy ys
  generalize (m ++ [MO.lst []]) = m1 at k1 B1 hx2 hy2 ⊢
  cases z with
  | true =>
    simp
    exact same _ (B1.less (by omega)) k1
  | false =>
    have ne : L ≠ [] := fun h => by rw [h] at hz; have := hz.mpr rfl; cases this
    obtain ⟨e, he, a1⟩ := atM_lastE ne
    have eg := ed.g e (List.mem_of_getElem? he)
    obtain ⟨w, vs⟩ := e
    simp [hx2, a1, evV]
    by_cases hw : w = "<"
    · subst hw
      simp
      refine (dr_ok (k := k + 3) (n := n) B1 (by decide) (by decide)).mono ?_ (fun x m h => h.elim)
      rintro d m2 ⟨v, rfl, _, _, B2, k2⟩
      by_cases hv : v = 0
      · have two := ed.two _ (List.mem_of_getElem? he) (by show ("<" : Str) ∈ signs; simp)
        match vs, two with
        | [p0, p1], _ =>
        have hx3 := k2.get hx2 xs
        have hy3 := k2.get hy2 ys
        simp [hv, hx3, a1, evV, hy3, show ixN 2 0 = some 0 from rfl]
        have lw := ed.low _ _ he
        refine ⟨⟨rfl, p1, eg.ok p1 (by simp), fun a h => ?_, at_set hy3⟩, ?_, ?_, fun m0 ly K => (((K.trans k1).trans k2)).wrNew ly⟩
        · have := lw a (by subst h; exact List.mem_filterMap.mpr ⟨.ans a, by simp, rfl⟩)
          omega
        · rw [List.getElem?_set_ne (Ne.symm xy)]; exact hx3
        · exact B2.kp (S := [y]) (Kp.wr (by simp)) (by simp at ys ⊢; omega) (by simp at ys ⊢; omega)
      · simp [hv]
        exact same _ B2 (k1.trans k2)
    · simp [hw]
      exact same _ (B1.less (by omega)) k1
structure OpI (s c j q N : Nat) (m0 : Mem) (l acc : List MV) (m : Mem) : Prop where
  ex : ∃ (i : Nat) (vs : List Vl), i ≤ q ∧ l = (rngL 0 q).drop i ∧ acc = vs.map vlV ∧ vs.length = i ∧ (∀ v ∈ vs, VlOk v) ∧ (∀ v ∈ vs, ∀ a, v = .ans a → a < j) ∧ Bud m s c (N + 3 * (q - i))
  kp : Kp [s, c] m0 m
theorem ops_ok {k : Nat} {m : Mem} {s c j q N : Nat} {y1 y2 y4 : Option MV} {Q : List MV → Mem → Prop} {E : Exn → Mem → Prop} (hj : j ≤ 100) (hq : q ≤ 3) (B : Bud m s c (N + 3 * q)) (h : ∀ (vs : List Vl) (m' : Mem), vs.length = q → (∀ v ∈ vs, VlOk v) → (∀ v ∈ vs, ∀ a, v = .ans a → a < j) → Bud m' s c N → Kp [s, c] m m' → Q (vs.map vlV) m') :
    MI.W (lcM (fun _ => True) (ngName 5) mYes (mCall ((Tab (k + 4)).f Fnm.l_operand) (mCons (mVar 0) (mCons (mVar 3) mNil))) [some (.ref s), y1, y2, some (.int j), y4, none] (rngL 0 q) [] m) Q E := by
  refine W_lcs (OpI s c j q N m) _ _ _ ⟨⟨0, [], by omega, rfl, rfl, rfl, by simp, by simp, B⟩, Kp.refl⟩ (fun _ _ _ _ => trivial) ?_ ?_
  · rintro d l acc m1 ⟨⟨i, vs, hi, hl, rfl, hv, ok, lw, B1⟩, k1⟩
    have hi2 : i < q := by
      rcases Nat.lt_or_ge i q with h | h
      · exact h
      · rw [List.drop_eq_nil_of_le (by rw [rngL_length]; exact h)] at hl; cases hl
    rw [drop_rng hi2] at hl
    obtain ⟨rfl, rfl⟩ := List.cons.inj hl
    refine ⟨_, rfl, ?_⟩
    simp [mYes, setE]
    have B2 : Bud m1 s c (N + 3 * (q - (i + 1)) + 3) := B1.less (by omega)
    refine (operand_ok (k := k) hj B2).mono ?_ (fun x m h => h.elim)
    rintro d m2 ⟨⟨v, ov, lv, rfl⟩, B3, k2⟩
    refine ⟨by have := szl (n := i + 1) (by omega); omega, ⟨i + 1, vs ++ [v], by omega, rfl, by simp, by simp [hv], fun w hw => ?_, fun w hw => ?_, B3⟩, k1.trans k2⟩
    · rcases List.mem_append.mp hw with h | h
      · exact ok w h
      · rw [List.mem_singleton] at h; rw [h]; exact ov
    · rcases List.mem_append.mp hw with h | h
      · exact lw w h
      · rw [List.mem_singleton] at h; rw [h]; exact lv
  · rintro acc m1 ⟨⟨i, vs, hi, hl, rfl, hv, ok, lw, B1⟩, k1⟩
    have : i = q := by
      rcases Nat.lt_or_ge i q with h | h
      · have := congrArg List.length hl
        rw [List.length_drop, rngL_length] at this
        simp at this
        omega
      · omega
    subst this
    exact h vs m1 hv ok lw (B1.less (by omega)) k1
theorem drawn_ok {k : Nat} {m : Mem} {s c many n : Nat} (hm : many ≤ 6) (B : Bud m s c (n + 12 * many)) : MI.W ((Tab (k + 5)).f .l_drawn_events [.ref s, .int many] m) (DrO s c many n m) E0 := by
  have e1 : (Tab (k + 5)).f .l_drawn_events = f_l_drawn_events (Tab (k + 4)) := rfl
  rw [e1]
  unfold f_l_drawn_events
  rw [b_drawn]
  simp [startM]
  refine ⟨by omega, ?_⟩
  refine W_range (DrI s c many n m) ⟨⟨m.length, [], _, _, _, rfl, rfl, ⟨by simp, by simp, by simp⟩, List.getElem?_concat_length, Nat.le_refl _⟩, B.any Kp.app, Kp.app⟩ ?_ ?_
  · rintro j ρ m1 hj ⟨⟨x, L, y3, y4, y5, rfl, hL, ed, hx, lx⟩, B1, k1⟩
    have xs := B.new lx
    obtain ⟨N, hN⟩ : ∃ N, n + 12 * (many - j) = N + 12 ∧ N = n + 12 * (many - (j + 1)) := ⟨_, by omega, rfl⟩
    obtain ⟨hN, hN2⟩ := hN
    rw [hN] at B1
    simp
    refine (dr_ok (k := k + 3) (n := N + 11) B1 (by decide) (by decide)).mono ?_ (fun x m h => h.elim)
    rintro d m2 ⟨v, rfl, v0, v1, B2, k2⟩
    have hx2 := k2.get hx xs
    by_cases hv : v = 0
    · simp [hv]
      have s2 := szl (n := 2) (by decide)
      refine (operand_ok (k := k) (j := j) (n := N + 8) (by omega) B2).mono ?_ (fun x m h => h.elim)
      rintro d m3 ⟨⟨p0, o0, l0, rfl⟩, B3, k3⟩
      refine (operand_ok (k := k) (j := j) (n := N + 5) (by omega) B3).mono ?_ (fun x m h => h.elim)
      rintro d m4 ⟨⟨p1, o1, l1, rfl⟩, B4, k4⟩
      refine ⟨s2, ?_⟩
      have K := ((k1.trans k2).trans k3).trans k4
      have ly : m.length ≤ m4.length := K.1
      have hx4 := (k3.trans k4).get hx2 xs
      have xy : x ≠ m4.length := by have := (List.getElem?_eq_some_iff.mp hx4).1; omega
      have kA : ∀ S, Kp S m4 (m4 ++ [MO.lst [vlV p0, vlV p1]]) := fun S => Kp.app
      have r := evI_ok (k := k) (n := N + 4) (y1 := some (.int ((many : Nat) : Int))) (y3 := some (.int ((j : Nat) : Int))) (y5 := y5) (v0 := p0) (v1 := p1) (L := L) (B4.any (kA [])) ((kA []).get hx4 (by simp)) (List.getElem?_concat_length) xs (B.new ly) xy ed hL (by omega) o0 l0
      refine MI.W.mono r ?_ (fun x m h => h.elim)
      rintro z m5 ⟨⟨rfl, u0, ou, lu, hy⟩, hx5, B5, kk⟩
      have sl := szl (n := L.length + 1) (by omega)
      simp [hx5, hy, s2]
      have e2 : L.map evV ++ [MV.tup [.str "<", .tup [vlV u0, vlV p1]]] = (L ++ [(("<", [u0, p1]) : Ev)]).map evV := by simp [evV]
      refine ⟨by omega, ⟨x, L ++ [((("<" : Str), [u0, p1]) : Ev)], _, _, _, rfl, by simp [hL], ed.snoc ⟨fun v hv => ?_, by show 2 ≤ 3; decide, by show ("<" : Str) ∈ words; decide⟩ (fun _ => rfl) (us_low (vs := [u0, p1]) fun v hv => ?_), ?_, lx⟩, ?_, ?_⟩
      · simp at hv
        rcases hv with rfl | rfl
        · exact ou
        · exact o1
      · simp at hv
        rw [hL]
        rcases hv with rfl | rfl
        · exact lu
        · exact l1
      · rw [at_set hx5, e2]
      · exact (B5.kp (S := [x]) (Kp.wr (by simp)) (by simp at xs ⊢; omega) (by simp at xs ⊢; omega)).less (by omega)
      · exact (kk m ly (K.trans (kA _))).wrNew lx
    · simp [hv]
      refine (dr_ok (k := k + 3) (n := N + 10) B2 (by decide) (by decide)).mono ?_ (fun x m h => h.elim)
      rintro d m3 ⟨q, rfl, q0, q1, B3, k3⟩
      simp
      refine ⟨by omega, ?_⟩
      obtain ⟨q, rfl⟩ : ∃ q' : Nat, q = q' := ⟨q.toNat, by omega⟩
      simp [wipeM]
      refine ops_ok (k := k) (N := N + 1) (q := q) (by omega) (by omega) (B3.less (by omega)) ?_
      intro vs m4 hl ok lw B4 k4
      have K := ((k1.trans k2).trans k3).trans k4
      have ly : m.length ≤ m4.length := K.1
      have hx4 := (k3.trans k4).get hx2 xs
      have s2 := szl (n := 2) (by decide)
      have s3 := szl (n := 3) (by decide)
      generalize hls : [MO.lst (vs.map vlV), MO.lst [MV.str "f", .str "object", .str "name"]] = ls
      have kA : ∀ S, Kp S m4 (m4 ++ ls) := fun S => Kp.app
      have hls1 : (m4 ++ ls)[m4.length]? = some (.lst (vs.map vlV)) := by rw [← Nat.add_zero m4.length, at_app, ← hls]; rfl
      have hls2 : (m4 ++ ls)[m4.length + 1]? = some (.lst [MV.str "f", .str "object", .str "name"]) := by rw [at_app, ← hls]; rfl
      have hx5 := (kA []).get hx4 (by simp)
      have B5 := B4.any (kA [])
      have K5 := K.trans (kA _)
      have lm1 : m.length ≤ m4.length + 1 := by omega
      have sl := szl (n := L.length + 1) (by omega)
      have hx6 : (m4 ++ [MO.lst (vs.map vlV)])[x]? = some (.lst (L.map evV)) := (Kp.app (S := [])).get hx4 (by simp)
      rw [hx6]
      refine ⟨rfl, s3, ?_⟩
      refine (pick_ok (k := k + 2) (n := N) B5 hls2 (B.new lm1) (by simp) (by simp)).mono ?_ (fun x m h => h.elim)
      rintro d m5 ⟨hd, B6, k6⟩
      have hx7 := k6.get hx5 xs
      have hy7 := k6.get hls1 (B.new ly)
      obtain ⟨w, hw, rfl⟩ : ∃ w : Str, w ∈ (["f", "object", "name"] : List Str) ∧ d = .str w := by
        simp at hd
        rcases hd with rfl | rfl | rfl
        · exact ⟨"f", by simp, rfl⟩
        · exact ⟨"object", by simp, rfl⟩
        · exact ⟨"name", by simp, rfl⟩
      have hw2 : w ∈ words ∧ w ∉ signs := by
        have : ∀ w ∈ (["f", "object", "name"] : List Str), w ∈ words ∧ w ∉ signs := by decide
        exact this w hw
      have e2 : L.map evV ++ [MV.tup [.str w, .tup (vs.map vlV)]] = (L ++ [((w, vs) : Ev)]).map evV := by simp [evV]
      simp [hx7, hy7, s2]
      refine ⟨by omega, ⟨x, L ++ [((w, vs) : Ev)], _, _, _, rfl, by simp [hL], ed.snoc ⟨ok, by show vs.length ≤ 3; omega, hw2.1⟩ (fun h => absurd h hw2.2) (us_low (vs := vs) fun v hv => by rw [hL]; exact lw v hv), ?_, lx⟩, ?_, ?_⟩
      · rw [at_set hx7, e2]
      · exact (B6.kp (S := [x]) (Kp.wr (by simp)) (by simp at xs ⊢; omega) (by simp at xs ⊢; omega)).less (by omega)
      · exact (K5.trans k6).wrNew lx
  · rintro ρ m1 ⟨⟨x, L, y3, y4, y5, rfl, hL, ed, hx, lx⟩, B1, k1⟩
    simp
    exact ⟨⟨x, L, rfl, hL, ed, hx, lx⟩, B1.less (by omega), k1⟩
end K32
set_option maxHeartbeats 4000000
namespace K32
open PySem L2 MI
noncomputable def turnB (ck : Tabl) : MS := (mSeq (mAsg (mCall (ck.f .l_drawn_events) (mCons (mVar 1) (mCons (mCall (ck.f .l_draw) (mCons (mVar 1) (mCons (mC (.int 7)) mNil))) mNil))) (nName 8))
    (mSeq (mAsg (mCall gListA (mCons (mVar 8) mNil)) (nName 9))
    (mSeq (mIfS (mOrT (mNotT (mTru (mCall (ck.f .l_right) (mCons (mVar 8) mNil)))) (mB (mBin (gEqA true) (mVar 8) (mVar 9))))
    (mRet (mC (.bl false)))
    mSkip)
    (mSeq (mAsg (mCall (ck.f .l_wrong) (mCons (mVar 8) mNil)) (nName 10))
    (mIfS (mAndT (mB (mBin gNotN (mVar 10) (mC .non))) (mNotT (mTru (mCall (ck.f .l_right) (mCons (mSl (mVar 8) mNo (mEnd (mVar 10))) mNil)))))
    (mRet (mC (.bl false)))
    mSkip)))))
structure TuO (s c n : Nat) (m0 : Mem) (r : Fl) (m : Mem) : Prop where
  ex : ∃ y0 y2 y8 y9 y10, r = .nx [y0, some (.ref s), y2, none, none, none, none, none, y8, y9, y10, none]
  bud : Bud m s c n
theorem EvsD.take {L : List Ev} (h : EvsD L) (P : Nat) : EvsD (L.take P) := by
  refine ⟨fun e he => h.g e (List.mem_of_mem_take he), fun e he => h.two e (List.mem_of_mem_take he), fun l e he => ?_⟩
  rw [List.getElem?_take] at he
  split at he
  · exact h.low l e he
  · cases he
theorem cut_evs {L : List Ev} {P : Nat} (hP : P ≤ L.length) : cutM (L.map evV) none (some ((P : Nat) : Int)) = (L.take P).map evV := by
  have e : HT.sIx (L.map evV).length (L.map evV).length (some ((P : Nat) : Int)) = P := by
    unfold HT.sIx
    simp
    split <;> omega
  have e0 : HT.sIx (L.map evV).length 0 none = 0 := rfl
  unfold cutM
  rw [e, e0]
  simp [List.map_take]
theorem turn_ok {k s c n : Nat} {m : Mem} {y0 y2 y8 y9 y10 : Option MV} (B : Bud m s c (n + 73)) : MI.W (turnB (Tab (k + 10)) [y0, some (.ref s), y2, none, none, none, none, none, y8, y9, y10, none] m) (TuO s c n m) E0 := by
  unfold turnB
  simp
  refine (dr_ok (k := k + 9) (n := n + 72) B (by decide) (by decide)).mono ?_ (fun x m h => h.elim)
  rintro d m1 ⟨q, rfl, q0, q1, B1, k1⟩
  obtain ⟨q, rfl⟩ : ∃ q' : Nat, q = q' := ⟨q.toNat, by omega⟩
  refine (drawn_ok (k := k + 5) (many := q) (n := n) (by omega) (B1.less (by omega))).mono ?_ (fun x m h => h.elim)
  rintro d m2 ⟨⟨x, L, rfl, hL, ed, hx, lx⟩, B2, k2⟩
  have D := ed.evd (by omega)
  simp [hx]
  have k3 : Kp [] m2 (m2 ++ [MO.lst (L.map evV)]) := Kp.app
  have hx3 := k3.get hx (by simp)
  have hy3 : (m2 ++ [MO.lst (L.map evV)])[m2.length]? = some (.lst (L.map evV)) := List.getElem?_concat_length
  have B3 := B2.any k3
  generalize (m2 ++ [MO.lst (L.map evV)]) = m3 at hx3 hy3 B3 k3 ⊢
  generalize m2.length = y at hy3 ⊢
  refine (lright_ok (k := k) D (by omega) hx3).mono ?_ (fun x m h => h.elim)
  rintro d m4 ⟨rfl, k4⟩
  have da := das_evs ed.g (by omega)
  have hx4 := k4.get hx3 (by simp)
  have hy4 := k4.get hy3 (by simp)
  simp
  refine W_eqL hx4 hy4 da da fun z hz => ?_
  have zt : z = true := hz.mpr rfl
  subst zt
  simp
  refine (lwrong_ok (k := k + 2) D hx4).mono ?_ (fun x m h => h.elim)
  rintro d m5 ⟨⟨o, rfl, w⟩, k5⟩
  have B5 := (B3.any k4).any k5
  have hx5 := k5.get hx4 (by simp)
  cases o with
  | none =>
    simp [anV]
    exact ⟨⟨_, _, _, _, _, rfl⟩, B5⟩
  | some P =>
    have hP : P < L.length := by cases w; assumption
    simp [anV, hx5, cut_evs (Nat.le_of_lt hP)]
    have k6 : Kp [] m5 (m5 ++ [MO.lst ((L.take P).map evV)]) := Kp.app
    have hl : (m5 ++ [MO.lst ((L.take P).map evV)])[m5.length]? = some (.lst ((L.take P).map evV)) := List.getElem?_concat_length
    have D' := (ed.take P).evd (by rw [List.length_take]; omega)
    rw [← List.map_take]
    refine (lright_ok (k := k) D' (by rw [List.length_take]; omega) hl).mono ?_ (fun x m h => h.elim)
    rintro d m6 ⟨rfl, k7⟩
    simp
    exact ⟨⟨_, _, _, _, _, rfl⟩, (B5.any k6).any k7⟩
end K32
set_option maxHeartbeats 4000000
namespace K32
open PySem L2 MI
def L3 (w : Str) (vs : List Vl) : List Ev := [("f", []), ("g", []), (w, vs)]
section
variable {w : Str} {vs : List Vl} {r : List Nat}
theorem l3_0 : (VE (L3 w vs)).sg 0 = false ∧ (VE (L3 w vs)).vs 0 = [] := ⟨by rw [VE_sg (e := ("f", [])) rfl]; decide, VE_vs (e := ("f", [])) rfl⟩
theorem l3_1 : (VE (L3 w vs)).sg 1 = false ∧ (VE (L3 w vs)).vs 1 = [] := ⟨by rw [VE_sg (e := ("g", [])) rfl]; decide, VE_vs (e := ("g", [])) rfl⟩
theorem l3_2 (hw : w ∉ signs) : (VE (L3 w vs)).sg 2 = false ∧ (VE (L3 w vs)).vs 2 = vs := ⟨by rw [VE_sg (e := (w, vs)) rfl]; simpa using hw, VE_vs (e := (w, vs)) rfl⟩
theorem used_no {V : Evs} {i : Nat} {w : List Nat} (h : V.sg i = false) : used V i w = us (V.vs i) := used_none (linkA_sg (by rw [h]; simp))
theorem ok_nil {V : Evs} {i : Nat} {w : List Nat} (h : V.sg i = false) (h2 : V.vs i = []) : OkI V i w := by
  have u : used V i w = [] := by rw [used_no h, h2]; rfl
  exact ⟨by rw [u]; simp, by rw [u]; simp, fun a ha => by rw [h2] at ha; simp at ha⟩
theorem st_nil0 {V : Evs} {s : Nat → Nat} {i : Nat} {w : List Nat} (h : V.sg i = false) (h2 : V.vs i = []) : st V s i w = i := by
  have u : used V i w = [] := by rw [used_no h, h2]; rfl
  unfold st
  rw [u]
theorem sw3 (hw : w ∉ signs) (hu : us vs = 0 :: r) (hr : ∀ a ∈ r, a = 1) (hi : (us vs).Pairwise (· < ·)) (hl : lastOk vs 2) : Far (L3 w vs) 3 ∧ (SW (VE (L3 w vs)) 3).2 = [2] := by
  obtain ⟨a1, a2⟩ := l3_0 (w := w) (vs := vs)
  obtain ⟨b1, b2⟩ := l3_1 (w := w) (vs := vs)
  obtain ⟨c1, c2⟩ := l3_2 (vs := vs) hw
  generalize hV : VE (L3 w vs) = V at *
  have s1 : (SW V 1).2 = [0] := rfl
  have t1 : (SW V 1).1 0 = 0 := by
    show (if (0 : Nat) = 0 then st V (SW V 0).1 0 (SW V 0).2 else (SW V 0).1 0) = 0
    rw [if_pos rfl, st_nil0 a1 a2]
  have s2 : (SW V 2).2 = [0, 1] := by
    show (SW V 1).2.filter (fun a => decide (a < st V (SW V 1).1 1 (SW V 1).2)) ++ [1] = [0, 1]
    rw [s1, st_nil0 b1 b2]
    rfl
  have t2 : (SW V 2).1 0 = 0 := by
    show (if (0 : Nat) = 1 then st V (SW V 1).1 1 (SW V 1).2 else (SW V 1).1 0) = 0
    rw [if_neg (by omega), t1]
  have u3 : used V 2 (SW V 2).2 = 0 :: r := by rw [used_no c1, c2, hu]
  have s3 : (SW V 3).2 = [2] := by
    show (SW V 2).2.filter (fun a => decide (a < st V (SW V 2).1 2 (SW V 2).2)) ++ [2] = [2]
    have : st V (SW V 2).1 2 (SW V 2).2 = 0 := by
      unfold st
      rw [u3]
      exact t2
    rw [this, s2]
    rfl
  refine ⟨⟨Nat.le_refl _, fun i hi' => ?_, fun h => absurd h (by show ¬ 3 < 3; omega)⟩, s3⟩
  rw [hV]
  match i, hi' with
  | 0, _ => exact ok_nil a1 a2
  | 1, _ => exact ok_nil b1 b2
  | 2, _ =>
    refine ⟨fun a ha => ?_, by rw [u3, ← hu]; exact hi, by rw [c2]; exact hl⟩
    rw [u3] at ha
    rw [s2]
    rcases List.mem_cons.mp ha with rfl | ha
    · simp
    · rw [hr a ha]; simp
end
theorem xv_ok : VlOk (.con (.tup [.str "object", .tup [.str "name", .str "x"]])) := .inr ⟨"x", by simp, rfl⟩
theorem open3_ok {k a : Nat} {m : Mem} {w : Str} {vs : List Vl} {r : List Nat} (ed : EvsD (L3 w vs)) (A : m[a]? = some (.lst ((L3 w vs).map evV))) (hw : w ∉ signs) (hu : us vs = 0 :: r) (hr : ∀ a ∈ r, a = 1) (hi : (us vs).Pairwise (· < ·)) (hl : lastOk vs 2) :
    MI.W ((Tab (k + 7)).f .open_answers [.ref a] m) (fun d m' => ∃ x, d = .ref x ∧ m'[x]? = some (.lst [.int 2]) ∧ Kp [] m m') E0 := by
  obtain ⟨F, s3⟩ := sw3 hw hu hr hi hl
  have D := ed.evd (by show 3 ≤ 7; decide)
  refine (open_ok (k := k) D (by show 3 ≤ 6; decide) A).mono ?_ ?_
  · rintro d m' ⟨⟨_, x, rfl, hx, _⟩, K⟩
    refine ⟨x, rfl, ?_, K⟩
    rw [hx]
    show some (MO.lst (intsV (SW (VE (L3 w vs)) 3).2)) = _
    rw [s3]
    rfl
  · rintro x m' ⟨⟨P, F', hP, _⟩, K⟩
    exact F'.no hP (F.ok P hP)
theorem ed_nil : EvsD [] := ⟨by simp, by simp, by simp⟩
/-- one more event, by what is plain to see of it -/
theorem ed_snoc {L : List Ev} (h : EvsD L) {w : Str} {vs : List Vl} (ok : ∀ v ∈ vs, VlOk v) (few : vs.length ≤ 3) (wd : w ∈ words) (two : w ∈ signs → vs.length = 2) (low : ∀ a ∈ us vs, a < L.length) : EvsD (L ++ [(w, vs)]) :=
  h.snoc ⟨ok, few, wd⟩ two low
theorem ed2 : EvsD [("f", []), ("g", [])] :=
  ed_snoc (L := [("f", [])]) (ed_snoc (L := []) ed_nil (by simp) (by simp) (by decide) (by decide) (by simp [us])) (by simp) (by simp) (by decide) (by decide) (by simp [us])
theorem ed3 {w : Str} {vs : List Vl} (ok : ∀ v ∈ vs, VlOk v) (few : vs.length ≤ 3) (wd : w ∈ words) (two : w ∈ signs → vs.length = 2) (low : ∀ a ∈ us vs, a < 2) : EvsD (L3 w vs) := ed_snoc ed2 ok few wd two low
end K32
set_option maxHeartbeats 4000000
namespace K32
open PySem L2 MI
noncomputable def finB (ck : Tabl) : MS := (mSeq (mAsg (mLc (mRng (mCons (mC (.int 3)) mNil)) (ngName 11) mYes (mTup (mCons (mC (.str "object")) (mCons (mTup (mCons (mC (.str "event")) (mCons (mVar 11) mNil))) mNil))) [11]) (nTup 3 (nCons (nName 3) (nCons (nName 4) (nCons (nName 5) nNil)))))
    (mSeq (mAsg (mTup (mCons (mC (.str "object")) (mCons (mTup (mCons (mC (.str "name")) (mCons (mC (.str "x")) mNil))) mNil))) (nName 6))
    (mSeq (mAsg (mLst (mCons (mTup (mCons (mC (.str "f")) (mCons (mTup mNil) mNil))) (mCons (mTup (mCons (mC (.str "g")) (mCons (mTup mNil) mNil))) mNil))) (nName 7))
    (mSeq (mIfS (mOrT (mB (mBin (gEqA true) (mCall (ck.f .open_answers) (mCons (mBin gAdd (mVar 7) (mLst (mCons (mTup (mCons (mC (.str "h")) (mCons (mTup (mCons (mVar 3) (mCons (mVar 4) mNil))) mNil))) mNil))) mNil)) (mLst (mCons (mC (.int 2)) mNil)))) (mB (mBin (gEqA true) (mCall (ck.f .open_answers) (mCons (mBin gAdd (mVar 7) (mLst (mCons (mTup (mCons (mC (.str "k")) (mCons (mTup (mCons (mVar 3) (mCons (mVar 6) mNil))) mNil))) mNil))) mNil)) (mLst (mCons (mC (.int 2)) mNil)))))
    (mRet (mC (.bl false)))
    mSkip)
    (mSeq (mIfS (mNotT (mTru (mCall (ck.f .l_right) (mCons (mLst (mCons (mTup (mCons (mC (.str "f")) (mCons (mTup mNil) mNil))) (mCons (mTup (mCons (mC (.str "g")) (mCons (mTup mNil) mNil))) (mCons (mTup (mCons (mC (.str "<")) (mCons (mTup (mCons (mVar 3) (mCons (mVar 4) mNil))) mNil))) (mCons (mTup (mCons (mC (.str "h")) (mCons (mTup mNil) mNil))) (mCons (mTup (mCons (mC (.str "<")) (mCons (mTup (mCons (mVar 4) (mCons (mTup (mCons (mC (.str "object")) (mCons (mTup (mCons (mC (.str "event")) (mCons (mC (.int 3)) mNil))) mNil))) mNil))) mNil))) mNil)))))) mNil))))
    (mRet (mC (.bl false)))
    mSkip)
    (mRet (mAnd (mCall (ck.f .l_right) (mCons (mLst (mCons (mTup (mCons (mC (.str "f")) (mCons (mTup mNil) mNil))) (mCons (mTup (mCons (mC (.str "g")) (mCons (mTup mNil) mNil))) (mCons (mTup (mCons (mC (.str "h")) (mCons (mTup (mCons (mVar 4) (mCons (mVar 3) mNil))) mNil))) mNil)))) mNil)) (mCall (ck.f .l_right) (mCons (mLst (mCons (mTup (mCons (mC (.str "f")) (mCons (mTup mNil) mNil))) (mCons (mTup (mCons (mC (.str "g")) (mCons (mTup mNil) mNil))) (mCons (mTup (mCons (mC (.str "h")) (mCons (mTup (mCons (mVar 3) mNil)) mNil))) mNil)))) mNil)))))))))
theorem b_law_eq {ck : Tabl} : b_law ck = (mSeq (mAsg (mCall (ck.f .l_source) (mCons (mVar 0) mNil)) (nName 1))
    (mSeq (mFor (mRng (mCons (mC (.int 30)) mNil)) (nName 2) (turnB ck)) (finB ck))) := rfl
abbrev ev_ (a : Nat) : MV := .tup [.str "object", .tup [.str "event", .int ((a : Nat) : Int)]]
theorem fin_ok {k : Nat} {m : Mem} {y0 y1 y2 y8 y9 y10 : Option MV} : MI.W (finB (Tab (k + 10)) [y0, y1, y2, none, none, none, none, none, y8, y9, y10, none] m) (fun r m' => r = .rt (.bl true)) E0 := by
  unfold finB
  have s1 := szl (n := 1) (by decide)
  have s2 := szl (n := 2) (by decide)
  have s3 := szl (n := 3) (by decide)
  have s5 := szl (n := 5) (by decide)
  have s0 := szl (n := 0) (by decide)
  simp [wipeM, W_asgT, nCons, nName, nNil]
  refine W_mapT (l := rngL 0 3) (fun d => MV.tup [.str "object", .tup [.str "event", d]]) trivial (fun d hd => ?_) (by rw [rngL_length]; decide) ?_
  · refine ⟨_, rfl, ?_⟩
    simp [setE, s2]
  have er : (rngL 0 3).map (fun d => MV.tup [.str "object", .tup [.str "event", d]]) = [ev_ 0, ev_ 1, ev_ 2] := rfl
  rw [er]
  simp [s0, s1, s2, s3, s5]
  generalize hM : (m ++ [MO.lst [ev_ 0, ev_ 1, ev_ 2], MO.lst [MV.tup [.str "f", .tup []], .tup [.str "g", .tup []]], MO.lst [MV.tup [.str "h", .tup [ev_ 0, ev_ 1]]]]) = m1
  have hb : m1[m.length + 1]? = some (.lst [MV.tup [.str "f", .tup []], .tup [.str "g", .tup []]]) := by rw [← hM, at_app]; rfl
  have hn : m1[m.length + 1 + 1]? = some (.lst [MV.tup [.str "h", .tup [ev_ 0, ev_ 1]]]) := by rw [← hM, show m.length + 1 + 1 = m.length + 2 from rfl, at_app]; rfl
  generalize m.length + 1 = b at hb hn ⊢
  rw [W_add_l hb hn]
  refine ⟨s3, ?_⟩
  have e1 : [MV.tup [.str "f", .tup []], .tup [.str "g", .tup []]] ++ [MV.tup [.str "h", .tup [ev_ 0, ev_ 1]]] = (L3 "h" [.ans 0, .ans 1]).map evV := rfl
  rw [e1]
  have k1 : Kp [] m1 (m1 ++ [MO.lst ((L3 "h" [.ans 0, .ans 1]).map evV)]) := Kp.app
  have ed1 : EvsD (L3 "h" [.ans 0, .ans 1]) := ed3 (by intro v hv; simp at hv; rcases hv with rfl | rfl <;> trivial) (by simp) (by decide) (by decide) (by simp [us, Vl.an])
  have d2 : Das [MV.int 2] := das_ints (fun d hd => ⟨2, by simpa using hd⟩) (by simp)
  refine (open3_ok (k := k + 3) (r := [1]) ed1 List.getElem?_concat_length (by decide) rfl (by simp) (by simp [us, Vl.an]) (fun a ha => by simp at ha; omega)).mono ?_ (fun x m h => h.elim)
  rintro d m2 ⟨x, rfl, hx, k2⟩
  have k3 : ∀ r, Kp [] m2 (m2 ++ r) := fun r => Kp.app
  refine W_eqL ((k3 _).get hx (by simp)) List.getElem?_concat_length d2 d2 fun z hz => ?_
  have zt : z = true := hz.mpr rfl
  subst zt
  refine ⟨rfl, ?_⟩
  have hb2 := (k3 [MO.lst [MV.int 2]]).get (k2.get (k1.get hb (by simp)) (by simp)) (by simp)
  generalize (m2 ++ [MO.lst [MV.int 2]]) = m3 at hb2 ⊢
  generalize hM4 : (m3 ++ [MO.lst [MV.tup [.str "k", .tup [ev_ 0, MV.tup [.str "object", .tup [.str "name", .str "x"]]]]]]) = m4
  have hb4 : m4[b]? = some (.lst [MV.tup [.str "f", .tup []], .tup [.str "g", .tup []]]) := by rw [← hM4]; exact (Kp.app (S := [])).get hb2 (by simp)
  have hn4 : m4[m3.length]? = some (.lst [MV.tup [.str "k", .tup [ev_ 0, MV.tup [.str "object", .tup [.str "name", .str "x"]]]]]) := by rw [← hM4]; exact List.getElem?_concat_length
  rw [W_add_l hb4 hn4]
  refine ⟨s3, ?_⟩
  have e2 : [MV.tup [.str "f", .tup []], .tup [.str "g", .tup []]] ++ [MV.tup [.str "k", .tup [ev_ 0, MV.tup [.str "object", .tup [.str "name", .str "x"]]]]] = (L3 "k" [.ans 0, .con (.tup [.str "object", .tup [.str "name", .str "x"]])]).map evV := rfl
  rw [e2]
  have ed2' : EvsD (L3 "k" [.ans 0, .con (.tup [.str "object", .tup [.str "name", .str "x"]])]) := ed3 (by
    intro v hv
    simp at hv
    rcases hv with rfl | rfl
    · trivial
    · exact xv_ok) (by simp) (by decide) (by decide) (by simp [us, Vl.an])
  refine (open3_ok (k := k + 3) (r := []) ed2' List.getElem?_concat_length (by decide) rfl (by simp) (by show [0].Pairwise (· < ·); simp) (fun a ha => by simp at ha)).mono ?_ (fun x m h => h.elim)
  rintro d m5 ⟨x, rfl, hx, k5⟩
  have k6 : ∀ r, Kp [] m5 (m5 ++ r) := fun r => Kp.app
  refine W_eqL ((k6 _).get hx (by simp)) List.getElem?_concat_length d2 d2 fun z hz => ?_
  have zt : z = true := hz.mpr rfl
  subst zt
  refine ⟨rfl, ?_⟩
  have ed4 : EvsD ((L3 "<" [.ans 0, .ans 1]) ++ [(("h" : Str), [])] ++ [(("<" : Str), [.ans 1, .ans 3])]) := by
    refine ed_snoc (ed_snoc (ed3 (by intro v hv; simp at hv; rcases hv with rfl | rfl <;> trivial) (by simp) (by decide) (fun _ => rfl) (by simp [us, Vl.an])) (by simp) (by simp) (by decide) (by decide) (by simp [us])) (by intro v hv; simp at hv; rcases hv with rfl | rfl <;> trivial) (by simp) (by decide) (fun _ => rfl) (by simp [us, Vl.an, L3])
  have ed5 : EvsD (L3 "h" [.ans 1, .ans 0]) := ed3 (by intro v hv; simp at hv; rcases hv with rfl | rfl <;> trivial) (by simp) (by decide) (by decide) (by simp [us, Vl.an])
  have ed6 : EvsD (L3 "h" [.ans 0]) := ed3 (by intro v hv; simp at hv; subst hv; trivial) (by simp) (by decide) (by decide) (by simp [us, Vl.an])
  have r4 := fun m (a : Nat) h => lright_ok (k := k) (m := m) (a := a) (ed4.evd (by decide)) (by decide) h
  have r5 := fun m (a : Nat) h => lright_ok (k := k) (m := m) (a := a) (ed5.evd (by decide)) (by decide) h
  have r6 := fun m (a : Nat) h => lright_ok (k := k) (m := m) (a := a) (ed6.evd (by decide)) (by decide) h
  refine (r4 _ _ List.getElem?_concat_length).mono ?_ (fun x m h => h.elim)
  rintro d m6 ⟨rfl, _⟩
  simp
  refine (r5 _ _ List.getElem?_concat_length).mono ?_ (fun x m h => h.elim)
  rintro d m7 ⟨rfl, _⟩
  simp
  refine (r6 _ _ List.getElem?_concat_length).mono ?_ (fun x m h => h.elim)
  rintro d m8 ⟨rfl, _⟩
  rfl
end K32
set_option maxHeartbeats 4000000
namespace K32
open PySem L2 MI
structure LoI (s c : Nat) (j : Nat) (ρ : MI.Env) (m : Mem) : Prop where
  ex : ∃ y0 y2 y8 y9 y10, ρ = [y0, some (.ref s), y2, none, none, none, none, none, y8, y9, y10, none]
  bud : Bud m s c (73 * (30 - j))
theorem law_ok {k : Nat} {ns : List Int} : MI.W ((Tab (k + 11)).f .law [.kl (ns.map .int)] []) (fun d _ => d = .bl true) E0 := by
  have e1 : (Tab (k + 11)).f .law = f_law (Tab (k + 10)) := rfl
  rw [e1]
  unfold f_law
  rw [b_law_eq]
  simp [startM]
  refine (source_ok (k := k + 9)).mono ?_ (fun x m h => h.elim)
  rintro d m1 ⟨s, c, rfl, src, _⟩
  refine W_range (LoI s c) ⟨⟨_, _, _, _, _, rfl⟩, ⟨0, src, by decide⟩⟩ ?_ ?_
  · rintro j ρ m2 hj ⟨⟨y0, y2, y8, y9, y10, rfl⟩, B⟩
    have r := turn_ok (k := k) (s := s) (c := c) (n := 73 * (30 - (j + 1))) (m := m2) (y0 := y0) (y2 := some (.int ((j : Nat) : Int))) (y8 := y8) (y9 := y9) (y10 := y10) (B.less (by omega))
    refine MI.W.mono r ?_ (fun x m h => h.elim)
    rintro x m3 ⟨⟨z0, z2, z8, z9, z10, rfl⟩, B3⟩
    exact ⟨⟨_, _, _, _, _, rfl⟩, B3⟩
  · rintro ρ m2 ⟨⟨y0, y2, y8, y9, y10, rfl⟩, B⟩
    have r := fin_ok (k := k) (m := m2) (y0 := y0) (y1 := some (.ref s)) (y2 := y2) (y8 := y8) (y9 := y9) (y10 := y10)
    refine MI.W.mono r ?_ (fun x m h => h.elim)
    rintro x m3 rfl
    rfl
theorem W_out {α : Type} {r : Re α} {Q : α → Mem → Prop} (h : MI.W r Q E0) : ∃ d m, r = .ok d m ∧ Q d m := by with_unfolding_all
  cases r with
  | ok d m => exact ⟨d, m, rfl, h⟩
  | ex x m => exact h.elim
  | stuck => exact h.elim
theorem tab_law {T : Tabl} {ns : List Int} (h : MI.W (T.f .law [.kl (ns.map .int)] []) (fun d _ => d = .bl true) E0) : ∃ m', T.f .law [.kl (ns.map .int)] [] = .ok (.bl true) m' := by
  obtain ⟨d, m', e, rfl⟩ := W_out h
  exact ⟨m', e⟩
theorem law_true : ∀ ns : List Int, ns.length ≤ 63 → (∀ z ∈ ns, Builtin.Int.intBits z ≤ 1048576) → ∃ m', (Tab 220).f .law [.kl (ns.map .int)] [] = .ok (.bl true) m' := by
  intro ns _ _
  have h : ∀ n, n = 209 + 11 → ∃ m', (Tab n).f .law [.kl (ns.map .int)] [] = .ok (.bl true) m' := by
    intro n e
    rw [e]
    exact tab_law (law_ok (k := 209))
  exact h 220 rfl
end K32
open PySem PySem.W PyProof.Rows
set_option maxRecDepth 100000 in
set_option maxHeartbeats 0 in
theorem PySem.Challenge.cw_keptops_k32_open_answers_holds : PySem.Challenge.rw_keptops_k32_open_answers.Holds := by
  w_on; o_law; k_head; (case hw => w_witness2)
  k_fill
  refine MI.walkM (l := PySem.Challenge.rw_keptops_k32_open_answers) (k := MI.lv 220) (x := "_law_script") (F := (K32.Tab 220).f .law) (fun _ => rfl) rfl rfl ⟨rfl, by decide, by decide⟩ (fun w h Y => by first | exact PySem.W.kIn_of Y | exact PySem.W.km_in_of Y) ?G K32.law_true
  case G =>
    intro w mg fa h KX G hmg
    refine Exists.elim (K32.law_at (cs := []) ?D ?T ?B 219 hmg) fun fd z => ⟨fd, z.1, fun base => z.2 base (fun _ hp => nomatch hp)⟩
    case D =>
      refine ⟨?d0, ?d1, ?d2, ?d3, ?d4, ?d5, ?d6, ?d7, ?d8, ?d9, ?d10, ?d11, ?d12, ?d13, ?d14, ?d15, ?d16, ?d17, ?d18, ?d19, ?d20, ?d21, ?d22, ?d23, ?d24, ?d25, ?d26, ?d27⟩
      (case d0 => refine' MI.def_mk KX G ?a ?l ?c ?k (fun _ _ _ _ _ _ us hl => match us, hl with | [_], _ => rfl); (case a => k_is); (case l => k_is); (case c => k_is); (case k => k_is))
      (case d1 => refine' MI.def_mk KX G ?a ?l ?c ?k (fun _ _ _ _ _ _ us hl => match us, hl with | [_], _ => rfl); (case a => k_is); (case l => k_is); (case c => k_is); (case k => k_is))
      (case d2 => refine' MI.def_mk KX G ?a ?l ?c ?k (fun _ _ _ _ _ _ us hl => match us, hl with | [_, _], _ => rfl); (case a => k_is); (case l => k_is); (case c => k_is); (case k => k_is))
      (case d3 => refine' MI.def_mk KX G ?a ?l ?c ?k (fun _ _ _ _ _ _ us hl => match us, hl with | [_, _], _ => rfl); (case a => k_is); (case l => k_is); (case c => k_is); (case k => k_is))
      (case d4 => refine' MI.def_mk KX G ?a ?l ?c ?k (fun _ _ _ _ _ _ us hl => match us, hl with | [_, _], _ => rfl); (case a => k_is); (case l => k_is); (case c => k_is); (case k => k_is))
      (case d5 => refine' MI.def_mk KX G ?a ?l ?c ?k (fun _ _ _ _ _ _ us hl => match us, hl with | [_], _ => rfl); (case a => k_is); (case l => k_is); (case c => k_is); (case k => k_is))
      (case d6 => refine' MI.def_mk KX G ?a ?l ?c ?k (fun _ _ _ _ _ _ us hl => match us, hl with | [_, _], _ => rfl); (case a => k_is); (case l => k_is); (case c => k_is); (case k => k_is))
      (case d7 => refine' MI.def_mk KX G ?a ?l ?c ?k (fun _ _ _ _ _ _ us hl => match us, hl with | [_], _ => rfl); (case a => k_is); (case l => k_is); (case c => k_is); (case k => k_is))
      (case d8 => refine' MI.def_mk KX G ?a ?l ?c ?k (fun _ _ _ _ _ _ us hl => match us, hl with | [_], _ => rfl); (case a => k_is); (case l => k_is); (case c => k_is); (case k => k_is))
      (case d9 => refine' MI.def_mk KX G ?a ?l ?c ?k (fun _ _ _ _ _ _ us hl => match us, hl with | [_], _ => rfl); (case a => k_is); (case l => k_is); (case c => k_is); (case k => k_is))
      (case d10 => refine' MI.def_mk KX G ?a ?l ?c ?k (fun _ _ _ _ _ _ us hl => match us, hl with | [_], _ => rfl); (case a => k_is); (case l => k_is); (case c => k_is); (case k => k_is))
      (case d11 => refine' MI.def_mk KX G ?a ?l ?c ?k (fun _ _ _ _ _ _ us hl => match us, hl with | [_], _ => rfl); (case a => k_is); (case l => k_is); (case c => k_is); (case k => k_is))
      (case d12 => refine' MI.def_mk KX G ?a ?l ?c ?k (fun _ _ _ _ _ _ us hl => match us, hl with | [_, _], _ => rfl); (case a => k_is); (case l => k_is); (case c => k_is); (case k => k_is))
      (case d13 => refine' MI.def_mk KX G ?a ?l ?c ?k (fun _ _ _ _ _ _ us hl => match us, hl with | [_, _], _ => rfl); (case a => k_is); (case l => k_is); (case c => k_is); (case k => k_is))
      (case d14 => refine' MI.def_mk KX G ?a ?l ?c ?k (fun _ _ _ _ _ _ us hl => match us, hl with | [_], _ => rfl); (case a => k_is); (case l => k_is); (case c => k_is); (case k => k_is))
      (case d15 => refine' MI.def_mk KX G ?a ?l ?c ?k (fun _ _ _ _ _ _ us hl => match us, hl with | [_, _], _ => rfl); (case a => k_is); (case l => k_is); (case c => k_is); (case k => k_is))
      (case d16 => refine' MI.def_mk KX G ?a ?l ?c ?k (fun _ _ _ _ _ _ us hl => match us, hl with | [_, _], _ => rfl); (case a => k_is); (case l => k_is); (case c => k_is); (case k => k_is))
      (case d17 => refine' MI.def_mk KX G ?a ?l ?c ?k (fun _ _ _ _ _ _ us hl => match us, hl with | [_], _ => rfl); (case a => k_is); (case l => k_is); (case c => k_is); (case k => k_is))
      (case d18 => refine' MI.def_mk KX G ?a ?l ?c ?k (fun _ _ _ _ _ _ us hl => match us, hl with | [_, _, _, _], _ => rfl); (case a => k_is); (case l => k_is); (case c => k_is); (case k => k_is))
      (case d19 => refine' MI.def_mk KX G ?a ?l ?c ?k (fun _ _ _ _ _ _ us hl => match us, hl with | [_, _, _, _, _], _ => rfl); (case a => k_is); (case l => k_is); (case c => k_is); (case k => k_is))
      (case d20 => refine' MI.def_mk KX G ?a ?l ?c ?k (fun _ _ _ _ _ _ us hl => match us, hl with | [_], _ => rfl); (case a => k_is); (case l => k_is); (case c => k_is); (case k => k_is))
      (case d21 => refine' MI.def_mk KX G ?a ?l ?c ?k (fun _ _ _ _ _ _ us hl => match us, hl with | [_], _ => rfl); (case a => k_is); (case l => k_is); (case c => k_is); (case k => k_is))
      (case d22 => refine' MI.def_mk KX G ?a ?l ?c ?k (fun _ _ _ _ _ _ us hl => match us, hl with | [_], _ => rfl); (case a => k_is); (case l => k_is); (case c => k_is); (case k => k_is))
      (case d23 => refine' MI.def_mk KX G ?a ?l ?c ?k (fun _ _ _ _ _ _ us hl => match us, hl with | [_], _ => rfl); (case a => k_is); (case l => k_is); (case c => k_is); (case k => k_is))
      (case d24 => refine' MI.def_mk KX G ?a ?l ?c ?k (fun _ _ _ _ _ _ us hl => match us, hl with | [_], _ => rfl); (case a => k_is); (case l => k_is); (case c => k_is); (case k => k_is))
      (case d25 => refine' MI.ini_mk KX G ?a ?i ?fn ?mk ?kp ?l ?c ?k (fun _ _ _ _ _ _ us hl => match us, hl with | [_, _], _ => rfl); (case a => k_is); (case i => k_is); (case fn => k_is); (case mk => k_is); (case kp => k_is); (case l => k_is); (case c => k_is); (case k => k_is))
      (case d26 => refine' MI.mth_mk ?a ?i ?fn ?pg ?hd ?po ?sa ?l ?c ?k (fun _ _ _ _ _ _ us hl => match us, hl with | [_, _], _ => rfl); (case a => k_is); (case i => k_is); (case fn => k_is); (case pg => k_is); (case hd => k_is); (case po => k_is); (case sa => k_is); (case l => k_is); (case c => k_is); (case k => k_is))
      (case d27 => refine' MI.mth_mk ?a ?i ?fn ?pg ?hd ?po ?sa ?l ?c ?k (fun _ _ _ _ _ _ us hl => match us, hl with | [_, _], _ => rfl); (case a => k_is); (case i => k_is); (case fn => k_is); (case pg => k_is); (case hd => k_is); (case po => k_is); (case sa => k_is); (case l => k_is); (case c => k_is); (case k => k_is))
    case T =>
      refine ⟨?t0, ?t1, ?t2, ?t3, ?t4, ?t5, ?t6, ?t7, ?t8, ?t9, ?t10, ?t11, ?t12, ?t13, ?t14, ?t15, ?t16, ?t17, ?t18, ?t19, ?t20, ?t21, ?t22, ?t23, ?t24, ?t25, ?t26, ?t27, ?t28, ?t29, ?t30, ?t31, ?t32, ?t33⟩
      (case t0 => (refine' PySem.W.mg_none_of KX G ?a; (case a => k_is)))
      (case t1 => (refine' PySem.W.mg_none_of KX G ?a; (case a => k_is)))
      (case t2 => (refine' PySem.W.mg_none_of KX G ?a; (case a => k_is)))
      (case t3 => (refine' PySem.W.mg_none_of KX G ?a; (case a => k_is)))
      (case t4 => (refine' PySem.W.mg_none_of KX G ?a; (case a => k_is)))
      (case t5 => (refine' PySem.W.mg_none_of KX G ?a; (case a => k_is)))
      (case t6 => (refine' PySem.W.mg_none_of KX G ?a; (case a => k_is)))
      (case t7 => (refine' PySem.W.mg_none_of KX G ?a; (case a => k_is)))
      (case t8 => (refine' PySem.W.mg_none_of KX G ?a; (case a => k_is)))
      (case t9 => (refine' PySem.W.mg_none_of KX G ?a; (case a => k_is)))
      (case t10 => (refine' PySem.W.mg_none_of KX G ?a; (case a => k_is)))
      (case t11 => (refine' PySem.W.mg_none_of KX G ?a; (case a => k_is)))
      (case t12 => (refine' PySem.W.mg_none_of KX G ?a; (case a => k_is)))
      (case t13 => (refine' PySem.W.mg_none_of KX G ?a; (case a => k_is)))
      (case t14 => (refine' MI.con_any 3 KX G ?a ?e; (case a => k_is); (case e => rfl)))
      (case t15 => (refine' MI.con_any 3 KX G ?a ?e; (case a => k_is); (case e => rfl)))
      (case t16 => (refine' MI.con_any 3 KX G ?a ?e; (case a => k_is); (case e => rfl)))
      (case t17 => (refine' MI.con_any 3 KX G ?a ?e; (case a => k_is); (case e => rfl)))
      (case t18 => (refine' MI.con_any 3 KX G ?a ?e; (case a => k_is); (case e => rfl)))
      (case t19 => (refine' MI.con_any 3 KX G ?a ?e; (case a => k_is); (case e => rfl)))
      (case t20 => (refine' MI.con_any 3 KX G ?a ?e; (case a => k_is); (case e => rfl)))
      (case t21 => (refine' MI.exf_mk KX G ?a ?b ?c ?d ?e; (case a => k_is); (case b => k_exc); (case c => k_is); (case d => k_is); (case e => k_is)))
      (case t22 => (refine' MI.hnd_mk KX G ?a ?e; (case a => k_is); (case e => rfl)))
      (case t23 => (refine' MI.isx_own KX G ?a ?e; (case a => k_is); (case e => rfl)))
      (case t24 => (refine' MI.isx_own KX G ?a ?e; (case a => k_is); (case e => rfl)))
      (case t25 => (refine' MI.isx_blt (T := "ValueError") KX G ?a (by decide +kernel) ?e; (case a => k_is); (case e => rfl)))
      (case t26 => (refine' MI.fld_mk ?a ?pg ?hd ?po ?sa ?n; (case a => k_is); (case pg => k_is); (case hd => k_is); (case po => k_is); (case sa => k_is); (case n => k_is)))
      (case t27 => (refine' MI.fld_mk ?a ?pg ?hd ?po ?sa ?n; (case a => k_is); (case pg => k_is); (case hd => k_is); (case po => k_is); (case sa => k_is); (case n => k_is)))
      (case t28 => (refine' MI.fld_mk ?a ?pg ?hd ?po ?sa ?n; (case a => k_is); (case pg => k_is); (case hd => k_is); (case po => k_is); (case sa => k_is); (case n => k_is)))
      (case t29 => (refine' MI.fld_mk ?a ?pg ?hd ?po ?sa ?n; (case a => k_is); (case pg => k_is); (case hd => k_is); (case po => k_is); (case sa => k_is); (case n => k_is)))
      (case t30 => (refine' MI.fld_mk ?a ?pg ?hd ?po ?sa ?n; (case a => k_is); (case pg => k_is); (case hd => k_is); (case po => k_is); (case sa => k_is); (case n => k_is)))
      (case t31 => (refine' MI.exiAt_mk KX G ?a ?xL ?hb ?sa ?ec ?ty ?kc ?i ?tf ?no ?l ?cd ?k (fun _ _ _ _ _ _ us hl => match us, hl with | [_, _], _ => rfl); (case a => k_is); (case xL => k_is); (case hb => decide +kernel); (case sa => k_is); (case ec => k_is); (case ty => k_is); (case kc => k_is); (case i => k_is); (case tf => k_is); (case no => k_is); (case l => k_is); (case cd => k_is); (case k => k_is)))
      (case t32 => (refine' MI.inhI_mk (mc := .type "type") KX G ?a ?rd ?ga ?i; (case a => k_is); (case rd => k_is); (case ga => k_is); (case i => k_is)))
      (case t33 => (refine' MI.xfl_mk ?a ?ga ?gg ?ec ?hd ?no; (case a => k_is); (case ga => k_is); (case gg => k_is); (case ec => k_is); (case hd => k_is); (case no => k_is)))
    case B =>
      intro base tb
      refine ⟨⟩
