import PyProof.Rows.All
import Wide.All
import OpenK.AllK
import Wide.FinOn
import HandS.ForMost
import HandS.ForExc
import HandS.Flow
import HandS.Wide
import HandS.NoneIn
import HandS.Conv
import HandS.Star
import HandS.IsInst
import KE.KDictKeyed
import HandS.TupAny
import HandS.TupMul
import HandS.Deep
import HandS.Text
import HandS.CallSlots
import HandS.Walk
import HandS.Flt
import HandS.More
import HandS.Iter
import HandS.ExcOwn
import HandS.TryOnly
import HandS.ExcCtx
import HandS.SuiteRaise
import HandS.RaiseFrom
import HandS.ExcIs
import KE.GoesEnum
import KE.KDictZip
import HandS.Zip
import HandS.SetFor
import HandS.EndBits
import HandS.Words
import HandS.Style
import HandS.DictComp
import HandS.NestedK
import HandS.ClsMeth
import HandS.EndTab
import HandS.Comp
import PyProof.NeKinds
import HandS.Property
import HandS.Strs
import PySem.Challenge.RW_keptops_k51_machines
set_option Elab.async false
set_option linter.all false
set_option maxRecDepth 100000
namespace MI
open PySem L2
/-- the code objects that a run makes: what each place's is called, by line and column; the tables that stand at the start -/
class Nms where
  nm : Nat → Nat → Str
  tb : PySem.W.Frag → List Addr
  wd : World := ⟨fun _ _ => 0, { strHash := fun _ => 0, shareClass := fun _ => 0, mergeTok := fun t => t, idOf := fun _ => 0, idOfShared := fun _ _ => 0, followText := fun _ => false, idOfImm := fun _ => 0 }⟩
/-- values: tuples are told by what they hold, mutable objects by their number -/
inductive MV where
  | non | bl (b : Bool) | int (i : Int) | str (s : Str) | tup (l : List MV) | ref (n : Nat) | kl (l : List MV) | clo (c : Addr) (β : List Addr)
/-- an exception: its class's name -/
structure Exn where
  cls : Str
/-- objects -/
inductive MO where
  | lst (l : List MV) | frz (l : List MV) | dct (l : List (Key × MV)) | exn (x : Exn) | own (c : Str) (l : List (Str × MV)) | dN (l : List (MV × MV))
abbrev Mem := List MO
abbrev Env := List (Option MV)
inductive Re (α : Type) where
  | ok (a : α) (m : Mem) | ex (x : Exn) (m : Mem) | stuck
/-- how a statement ends -/
inductive Fl where
  | nx (ρ : Env) | rt (d : MV) | bk (ρ : Env) | ct (ρ : Env) | ex (x : Exn) (ρ : Env)
abbrev ME := Env → Mem → Re MV
abbrev MT := Env → Mem → Re Bool
abbrev MA := Env → Mem → Re (List MV)
abbrev MS := Env → Mem → Re Fl
abbrev MF := List MV → Mem → Re MV
def Re.bind {α γ : Type} : Re α → (α → Mem → Re γ) → Re γ
  | .ok a m, f => f a m
  | .ex x m, _ => .ex x m
  | .stuck, _ => .stuck
/-- a list that nobody writes: the script, or one of the module -/
def KL (K : PySem.W.Frag) (β : List Addr) (H : Hp) (a : Addr) (vs : List V) : Prop :=
  (a ∉ β ∧ ∃ ob, H a = some (.frz ob (.lst vs))) ∨ ∃ (o : Obj) (its : Array Value) (n : Nat), K.lookup a = some o ∧ o.cls = .type "list" ∧ o.dict = none ∧ o.data = .seq its n ∧ its.size ≤ sizeLine ∧ Vals vs its.toList
mutual
inductive RV (K : PySem.W.Frag) (β : List Addr) (H : Hp) : MV → V → Prop
  | non : RV K β H .non .non
  | bl (b : Bool) : RV K β H (.bl b) (.bl b)
  | int (i : Int) : RV K β H (.int i) (.int i)
  | str (x : Str) : RV K β H (.str x) (.str x)
  | tup {a : Addr} {ds : List MV} {vs : List V} : SqT K H a vs → RVs K β H ds vs → RV K β H (.tup ds) (.ref a)
  | ref {n : Nat} {a : Addr} : β[n]? = some a → RV K β H (.ref n) (.ref a)
  | kl {a : Addr} {ds : List MV} {vs : List V} : KL K β H a vs → RVs K β H ds vs → RV K β H (.kl ds) (.ref a)
  | clo {c : Addr} {β0 : List Addr} : (∀ (n : Nat) (a : Addr), β0[n]? = some a → β[n]? = some a) → RV K β H (.clo c β0) (.ref c)
inductive RVs (K : PySem.W.Frag) (β : List Addr) (H : Hp) : List MV → List V → Prop
  | nil : RVs K β H [] []
  | cons {d : MV} {v : V} {ds : List MV} {vs : List V} : RV K β H d v → RVs K β H ds vs → RVs K β H (d :: ds) (v :: vs)
end
/-- pairs of a dict -/
inductive RKs (K : PySem.W.Frag) (β : List Addr) (H : Hp) : List (Key × MV) → List (Key × V) → Prop
  | nil : RKs K β H [] []
  | cons {k : Key} {d : MV} {v : V} {ds : List (Key × MV)} {vs : List (Key × V)} : RV K β H d v → RKs K β H ds vs → RKs K β H ((k, d) :: ds) ((k, v) :: vs)
mutual
def nkOf : MV → Option NestedKey
  | .non => some .none
  | .int i => some (.num i)
  | .str x => some (.text x)
  | .tup l => match nksOf l with
    | some ks => some (.tup ks)
    | none => none
  | _ => none
def nksOf : List MV → Option (List NestedKey)
  | [] => some []
  | d :: ds => match nkOf d, nksOf ds with
    | some k, some ks => some (k :: ks)
    | _, _ => none
end
/-- pairs of a dict whose keys are tuples -/
inductive RNs (K : PySem.W.Frag) (β : List Addr) (H : Hp) : List (MV × MV) → List (NestedKey × Addr × Value) → Prop
  | nil : RNs K β H [] []
  | cons {d e : MV} {q : NestedKey} {a : Addr} {u : Value} {v : V} {ds : List (MV × MV)} {xs : List (NestedKey × Addr × Value)} : nkOf d = some q → q.depth ≤ 8 → RV K β H d (.ref a) → RelV v u → RV K β H e v → RNs K β H ds xs → RNs K β H ((d, e) :: ds) ((q, a, u) :: xs)
/-- the dict's one object, its keys' hashes as the world has them -/
def NDx [Nms] (a : Addr) (xs : List (NestedKey × Addr × Value)) : HO := .ext fun h => ∃ (o : Obj) (es : Array DictEntry) (ep : Nat), h.get? a = some o ∧ o.ExactDict ∧ o.data = .dict es ep ∧ es.toList = xs.map (fun x => (⟨x.1.hash Nms.wd, .ref x.2.1, x.2.2⟩ : DictEntry)) ∧ (xs.map (·.1)).Nodup
/-- values of an object -/
inductive RFs (K : PySem.W.Frag) (β : List Addr) (H : Hp) : List (Str × MV) → List (Str × V) → Prop
  | nil : RFs K β H [] []
  | cons {k : Str} {d : MV} {v : V} {ds : List (Str × MV)} {vs : List (Str × V)} : RV K β H d v → RFs K β H ds vs → RFs K β H ((k, d) :: ds) ((k, v) :: vs)
/-- the class of that name -/
def ClsN (K : PySem.W.Frag) (x : Str) (C : Addr) : Prop := PySem.W.nsIn K mainGlobals x = some (some (.ref C))
/-- an exception object that is kept -/
def ExH (cls : Value) (a : Addr) : HO := .ext fun h => ∃ (oe : Obj) (vs : Array Value), h.get? a = some oe ∧ oe.cls = cls ∧ oe.dict = none ∧ oe.data = .fields vs
def RO [Nms] (K : PySem.W.Frag) (β : List Addr) (H : Hp) (o : MO) (a : Addr) : Prop :=
  match o with
  | .lst l => ∃ vs, H a = some (.lst vs) ∧ RVs K β H l vs
  | .frz l => ∃ vs ob, H a = some (.frz ob (.lst vs)) ∧ RVs K β H l vs
  | .dct l => ∃ vs, H a = some (.dK vs) ∧ RKs K β H l vs
  | .exn x => ∃ C, ClsN K x.cls C ∧ H a = some (ExH (.ref C) a)
  | .own c l => ∃ C dx vs, ClsN K c C ∧ H a = some (.ins C dx vs) ∧ RFs K β H l vs
  | .dN l => ∃ xs, H a = some (NDx a xs) ∧ (a == sysModules) = false ∧ RNs K β H l xs
/-- a code object that a run made: it is known, and stays -/
def CodeF (o : Obj) : HO := .frz o (.own 0)
/-- the object o, at c, is a code object of the name q with its table at P -/
def CodeIs (o : Obj) (q : Str) (c P : Addr) : Prop := ∀ h : Heap, h.get? c = some o → PySem.W.CodeHd h c P ∧ h.CodeRec (.ref c) q
/-- a table of code objects that can be come to -/
inductive Rch (tb : List Addr) (H : Hp) : Addr → Prop
  | st {P : Addr} : P ∈ tb → Rch tb H P
  | en {P c P' : Addr} {ps : Array Value} {pos : Pos} {o : Obj} {q : Str} : Rch tb H P → H P = some (.tbl ps) → codeAmong pos ps.toList = some (.ref c) → H c = some (CodeF o) → CodeIs o q c P' → Rch tb H P'
section
variable [Nms]
/-- every table that can be come to is one, and tells code objects of the right names -/
def GoodT (K : PySem.W.Frag) (H : Hp) : Prop := ∀ P, Rch (Nms.tb K) H P → ∃ ps, H P = some (.tbl ps) ∧ TriplesOk ps.toList ∧
  ∀ (pos : Pos) (cv : Value), codeAmong pos ps.toList = some cv → ∃ c o P', cv = .ref c ∧ H c = some (CodeF o) ∧ CodeIs o (Nms.nm pos.line pos.col) c P'
structure RM (K : PySem.W.Frag) (β : List Addr) (H : Hp) (m : Mem) : Prop where
  tabs : GoodT K H
  len : β.length = m.length
  nd : β.Nodup
  ob : ∀ (n : Nat) (o : MO) (a : Addr), m[n]? = some o → β[n]? = some a → RO K β H o a
structure RE (K : PySem.W.Frag) (β : List Addr) (H : Hp) (ρ : Env) (σ : L2.St) : Prop where
  len : ρ.length = σ.length
  at_ : ∀ (i : Nat) (d : MV), ρ[i]? = some (some d) → ∃ v, σ[i]? = some (some v) ∧ RV K β H d v
end
structure Ext (β : List Addr) (H : Hp) (β' : List Addr) (H' : Hp) : Prop where
  pre : ∃ r, β' = β ++ r
  old : ∀ a o, H a = some o → a ∉ β → (∀ ps, o ≠ .tbl ps) → H' a = some o
  tab : ∀ a ps, H a = some (.tbl ps) → a ∉ β → ∃ more, H' a = some (.tbl (ps ++ more))
  new : ∀ a, a ∈ β' → a ∈ β ∨ H a = none
section
variable [Nms] {K : PySem.W.Frag} {β β' β'' : List Addr} {H H' H'' : Hp} {m m' : Mem}
theorem Ext.refl : Ext β H β H := ⟨⟨[], by simp⟩, fun _ _ h _ _ => h, fun _ ps h _ => ⟨#[], by rw [h]; simp⟩, fun _ h => .inl h⟩
theorem Ext.get (e : Ext β H β' H') {n : Nat} {a : Addr} (h : β[n]? = some a) : β'[n]? = some a := by
  obtain ⟨r, rfl⟩ := e.pre
  have hl : n < β.length := (List.getElem?_eq_some_iff.mp h).1
  rw [List.getElem?_append_left hl]; exact h
theorem Ext.mem (e : Ext β H β' H') {a : Addr} (h : a ∈ β) : a ∈ β' := by
  obtain ⟨r, rfl⟩ := e.pre
  exact List.mem_append_left _ h
theorem Ext.trans (e : Ext β H β' H') (f : Ext β' H' β'' H'') : Ext β H β'' H'' := by
  refine ⟨?_, fun a o h n t => ?_, fun a ps h n => ?_, fun a h => ?_⟩
  · obtain ⟨r, rfl⟩ := e.pre
    obtain ⟨q, rfl⟩ := f.pre
    exact ⟨r ++ q, by simp⟩
  · refine f.old a o (e.old a o h n t) (fun z => ?_) t
    rcases e.new a z with z | z
    · exact n z
    · rw [h] at z; cases z
  · obtain ⟨m1, h1⟩ := e.tab a ps h n
    obtain ⟨m2, h2⟩ := f.tab a _ h1 fun z => by
      rcases e.new a z with z | z
      · exact n z
      · rw [h] at z; cases z
    exact ⟨m1 ++ m2, by rw [h2, Array.append_assoc]⟩
  · rcases f.new a h with z | z
    · exact e.new a z
    · by_cases q : a ∈ β
      · exact .inl q
      · refine .inr ?_
        cases w : H a with
        | none => rfl
        | some o =>
          by_cases t : ∃ ps, o = .tbl ps
          · obtain ⟨ps, rfl⟩ := t
            obtain ⟨ps', h'⟩ := e.tab a ps w q
            rw [h'] at z; cases z
          · rw [e.old a o w q fun ps z => t ⟨ps, z⟩] at z; cases z
theorem RM.at_ (R : RM K β H m) {a : Addr} (h : a ∈ β) : ∃ (n : Nat) (o : MO), m[n]? = some o ∧ β[n]? = some a ∧ RO K β H o a := by
  obtain ⟨n, hn⟩ := List.mem_iff_getElem?.mp h
  have hl : n < m.length := by rw [← R.len]; exact (List.getElem?_eq_some_iff.mp hn).1
  exact ⟨n, m[n], by simp [hl], hn, R.ob n _ a (by simp [hl]) hn⟩
theorem RM.notup (R : RM K β H m) {a : Addr} {xs : List V} (h : Rd H a (.tup xs)) : a ∉ β := fun z => by
  obtain ⟨n, o, _, _, r⟩ := R.at_ z
  rcases h with h | ⟨ob, h⟩
  · cases o with
    | lst l => obtain ⟨vs, e, _⟩ := r; rw [h] at e; cases e
    | frz l => obtain ⟨vs, ob, e, _⟩ := r; rw [h] at e; cases e
    | dct l => obtain ⟨vs, e, _⟩ := r; rw [h] at e; cases e
    | exn x => obtain ⟨C, _, e⟩ := r; rw [h] at e; unfold ExH at e; cases e
    | own c l => obtain ⟨C, dx, vs, _, e, _⟩ := r; rw [h] at e; cases e
    | dN l => obtain ⟨xs, e, _⟩ := r; rw [h] at e; unfold NDx at e; cases e
  · cases o with
    | lst l => obtain ⟨vs, e, _⟩ := r; rw [h] at e; cases e
    | frz l => obtain ⟨vs, ob, e, _⟩ := r; rw [h] at e; cases e
    | dct l => obtain ⟨vs, e, _⟩ := r; rw [h] at e; cases e
    | exn x => obtain ⟨C, _, e⟩ := r; rw [h] at e; unfold ExH at e; cases e
    | own c l => obtain ⟨C, dx, vs, _, e, _⟩ := r; rw [h] at e; cases e
    | dN l => obtain ⟨xs, e, _⟩ := r; rw [h] at e; unfold NDx at e; cases e
theorem RM.sqt (R : RM K β H m) (e : Ext β H β' H') {a : Addr} {xs : List V} (h : SqT K H a xs) : SqT K H' a xs := by
  rcases h with h | h
  · have n := R.notup h
    rcases h with h | ⟨o, h⟩
    · exact .inl (.inl (e.old _ _ h n fun _ z => by cases z))
    · exact .inl (.inr ⟨o, e.old _ _ h n fun _ z => by cases z⟩)
  · exact .inr h
theorem KL.ext (e : Ext β H β' H') {a : Addr} {vs : List V} (h : KL K β H a vs) : KL K β' H' a vs := by
  rcases h with ⟨n, ob, h⟩ | h
  · refine .inl ⟨fun z => ?_, ob, e.old _ _ h n fun _ z => by cases z⟩
    rcases e.new a z with z | z
    · exact n z
    · rw [h] at z; cases z
  · exact .inr h
mutual
theorem RV.ext (R : RM K β H m) (e : Ext β H β' H') : ∀ {d : MV} {v : V}, RV K β H d v → RV K β' H' d v
  | _, _, .non => .non
  | _, _, .bl b => .bl b
  | _, _, .int i => .int i
  | _, _, .str x => .str x
  | _, _, .tup h r => .tup (R.sqt e h) (RVs.ext R e r)
  | _, _, .ref h => .ref (e.get h)
  | _, _, .kl h r => .kl (KL.ext e h) (RVs.ext R e r)
  | _, _, .clo h => .clo fun n a q => e.get (h n a q)
theorem RVs.ext (R : RM K β H m) (e : Ext β H β' H') : ∀ {d : List MV} {v : List V}, RVs K β H d v → RVs K β' H' d v
  | _, _, .nil => .nil
  | _, _, .cons h r => .cons (RV.ext R e h) (RVs.ext R e r)
end
theorem RKs.ext (R : RM K β H m) (e : Ext β H β' H') : ∀ {d : List (Key × MV)} {v : List (Key × V)}, RKs K β H d v → RKs K β' H' d v
  | _, _, .nil => .nil
  | _, _, .cons h r => .cons (RV.ext R e h) (RKs.ext R e r)
theorem RFs.ext (R : RM K β H m) (e : Ext β H β' H') : ∀ {d : List (Str × MV)} {v : List (Str × V)}, RFs K β H d v → RFs K β' H' d v
  | _, _, .nil => .nil
  | _, _, .cons h r => .cons (RV.ext R e h) (RFs.ext R e r)
theorem RNs.ext (R : RM K β H m) (e : Ext β H β' H') : ∀ {d : List (MV × MV)} {v : List (NestedKey × Addr × Value)}, RNs K β H d v → RNs K β' H' d v
  | _, _, .nil => .nil
  | _, _, .cons h1 h2 h3 h4 h5 r => .cons h1 h2 (RV.ext R e h3) h4 (RV.ext R e h5) (RNs.ext R e r)
theorem RE.ext {ρ : Env} {σ : L2.St} (R : RM K β H m) (e : Ext β H β' H') (r : RE K β H ρ σ) : RE K β' H' ρ σ :=
  ⟨r.len, fun i d h => let ⟨v, h1, h2⟩ := r.at_ i d h; ⟨v, h1, h2.ext R e⟩⟩
theorem RE.set {ρ : Env} {σ : L2.St} {i : Nat} {d : MV} {v : V} (r : RE K β H ρ σ) (h : RV K β H d v) : RE K β H (ρ.set i (some d)) (σ.set i (some v)) := by
  refine ⟨by simp [r.len], fun j e q => ?_⟩
  by_cases hj : i = j
  · subst hj
    by_cases hl : i < ρ.length
    · rw [List.getElem?_set_self hl] at q
      cases q
      exact ⟨v, List.getElem?_set_self (by rw [← r.len]; exact hl), h⟩
    · rw [List.getElem?_eq_none (by simp; omega)] at q; cases q
  · rw [List.getElem?_set_ne hj] at q
    obtain ⟨u, h1, h2⟩ := r.at_ j e q
    exact ⟨u, by rw [List.getElem?_set_ne hj]; exact h1, h2⟩
theorem RVs.length : ∀ {ds : List MV} {vs : List V}, RVs K β H ds vs → ds.length = vs.length
  | _, _, .nil => rfl
  | _, _, .cons _ r => by simp [RVs.length r]
theorem RVs.get : ∀ {ds : List MV} {vs : List V} {i : Nat} {d : MV}, RVs K β H ds vs → ds[i]? = some d → ∃ v, vs[i]? = some v ∧ RV K β H d v
  | _, _, _, _, .nil, e => by simp at e
  | _, _, 0, _, .cons h r, e => by simp at e; subst e; exact ⟨_, rfl, h⟩
  | _, _, i + 1, d, .cons h r, e => by
    obtain ⟨v, h1, h2⟩ := RVs.get (i := i) r (by simpa using e)
    exact ⟨v, by simpa using h1, h2⟩
theorem RVs.app : ∀ {ds es : List MV} {vs us : List V}, RVs K β H ds vs → RVs K β H es us → RVs K β H (ds ++ es) (vs ++ us)
  | _, _, _, _, .nil, q => q
  | _, _, _, _, .cons h r, q => .cons h (RVs.app r q)
theorem RVs.take : ∀ {ds : List MV} {vs : List V} (n : Nat), RVs K β H ds vs → RVs K β H (ds.take n) (vs.take n)
  | _, _, 0, _ => by simp; exact .nil
  | _, _, n + 1, .nil => by simp; exact .nil
  | _, _, n + 1, .cons h r => .cons h (RVs.take n r)
theorem RVs.drop : ∀ {ds : List MV} {vs : List V} (n : Nat), RVs K β H ds vs → RVs K β H (ds.drop n) (vs.drop n)
  | _, _, 0, r => r
  | _, _, n + 1, .nil => .nil
  | _, _, n + 1, .cons h r => RVs.drop n r
theorem RVs.set : ∀ {ds : List MV} {vs : List V} {d : MV} {v : V} (n : Nat), RVs K β H ds vs → RV K β H d v → RVs K β H (ds.set n d) (vs.set n v)
  | _, _, _, _, _, .nil, _ => .nil
  | _, _, _, _, 0, .cons h r, q => .cons q r
  | _, _, _, _, n + 1, .cons h r, q => .cons h (RVs.set n r q)
/-- a new object is laid -/
theorem RM.fresh (R : RM K β H m) {p : Addr} (hp : H p = none) : p ∉ β := fun z => by
  obtain ⟨n, o, _, _, r⟩ := R.at_ z
  cases o with
  | lst l => obtain ⟨vs, e, _⟩ := r; rw [hp] at e; cases e
  | frz l => obtain ⟨vs, ob, e, _⟩ := r; rw [hp] at e; cases e
  | dct l => obtain ⟨vs, e, _⟩ := r; rw [hp] at e; cases e
  | exn x => obtain ⟨C, _, e⟩ := r; rw [hp] at e; cases e
  | own c l => obtain ⟨C, dx, vs, _, e, _⟩ := r; rw [hp] at e; cases e
  | dN l => obtain ⟨xs, e, _⟩ := r; rw [hp] at e; cases e
theorem Ext.tup {p : Addr} {o : HO} (hp : H p = none) : Ext β H β (upd H p o) :=
  ⟨⟨[], by simp⟩, fun a u h _ _ => by rw [upd_ne (ne_of_none h hp)]; exact h, fun a ps h _ => ⟨#[], by rw [upd_ne (ne_of_none h hp), h]; simp⟩, fun _ h => .inl h⟩
theorem Ext.push {p : Addr} {o : HO} (hp : H p = none) : Ext β H (β ++ [p]) (upd H p o) :=
  ⟨⟨[p], rfl⟩, fun a u h _ _ => by rw [upd_ne (ne_of_none h hp)]; exact h, fun a ps h _ => ⟨#[], by rw [upd_ne (ne_of_none h hp), h]; simp⟩, fun a h => by
    rcases List.mem_append.mp h with z | z
    · exact .inl z
    · simp at z; subst z; exact .inr hp⟩
theorem RO.ext (R : RM K β H m) (e : Ext β H β' H') {o : MO} {a : Addr} (ha : H' a = H a) (r : RO K β H o a) : RO K β' H' o a := by
  cases o with
  | lst l => obtain ⟨vs, h, q⟩ := r; exact ⟨vs, by rw [ha]; exact h, q.ext R e⟩
  | frz l => obtain ⟨vs, ob, h, q⟩ := r; exact ⟨vs, ob, by rw [ha]; exact h, q.ext R e⟩
  | dct l => obtain ⟨vs, h, q⟩ := r; exact ⟨vs, by rw [ha]; exact h, q.ext R e⟩
  | exn x => obtain ⟨C, h1, h2⟩ := r; exact ⟨C, h1, by rw [ha]; exact h2⟩
  | own c l => obtain ⟨C, dx, vs, h1, h2, h3⟩ := r; exact ⟨C, dx, vs, h1, by rw [ha]; exact h2, h3.ext R e⟩
  | dN l => obtain ⟨xs, h, h2, q⟩ := r; exact ⟨xs, by rw [ha]; exact h, h2, q.ext R e⟩
/-- tables and code objects the same -/
theorem Rch.same {tb : List Addr} (hT : ∀ a ps, H' a = some (.tbl ps) → H a = some (.tbl ps)) (hF : ∀ a o, H' a = some (CodeF o) → H a = some (CodeF o)) {P : Addr} (r : Rch tb H' P) : Rch tb H P := by
  induction r with
  | st h => exact .st h
  | en _ h1 h2 h3 h4 ih => exact .en ih (hT _ _ h1) h2 (hF _ _ h3) h4
theorem GoodT.same (G : GoodT K H) (hT : ∀ a ps, H' a = some (.tbl ps) ↔ H a = some (.tbl ps)) (hF : ∀ a o, H' a = some (CodeF o) ↔ H a = some (CodeF o)) : GoodT K H' := fun P r => by
  obtain ⟨ps, h1, h2, h3⟩ := G P (r.same (fun a ps => (hT a ps).mp) fun a o => (hF a o).mp)
  refine ⟨ps, (hT _ _).mpr h1, h2, fun pos cv hc => ?_⟩
  obtain ⟨c, o, P', e1, e2, e3⟩ := h3 pos cv hc
  exact ⟨c, o, P', e1, (hF _ _).mpr e2, e3⟩
/-- neither a table nor a code object of a run -/
def NoTab (o : HO) : Prop := (∀ ps, o ≠ .tbl ps) ∧ ∀ b, o ≠ CodeF b
theorem GoodT.upd (G : GoodT K H) {p : Addr} {o : HO} (n : NoTab o) (h : ∀ u, H p = some u → NoTab u) : GoodT K (upd H p o) := by
  refine G.same (fun a ps => ?_) fun a b => ?_
  · by_cases e : a = p
    · subst e
      rw [upd_same]
      exact ⟨fun z => absurd (Option.some.inj z) (n.1 ps), fun z => absurd rfl ((h _ z).1 ps)⟩
    · rw [upd_ne e]
  · by_cases e : a = p
    · subst e
      rw [upd_same]
      exact ⟨fun z => absurd (Option.some.inj z) (n.2 b), fun z => absurd rfl ((h _ z).2 b)⟩
    · rw [upd_ne e]
theorem RO.noTab {o : MO} {a : Addr} (r : RO K β H o a) : ∀ u, H a = some u → NoTab u := fun u e => by
  cases o with
  | lst l => obtain ⟨vs, z, _⟩ := r; rw [z] at e; cases e; exact ⟨fun _ z => (by cases z), fun _ z => (by unfold CodeF at z; cases z)⟩
  | frz l => obtain ⟨vs, ob, z, _⟩ := r; rw [z] at e; cases e; exact ⟨fun _ z => (by cases z), fun _ z => (by unfold CodeF at z; cases z)⟩
  | dct l => obtain ⟨vs, z, _⟩ := r; rw [z] at e; cases e; exact ⟨fun _ z => (by cases z), fun _ z => (by unfold CodeF at z; cases z)⟩
  | exn x => obtain ⟨C, _, z⟩ := r; rw [z] at e; cases e; exact ⟨fun _ z => (by unfold ExH at z; cases z), fun _ z => (by unfold ExH CodeF at z; cases z)⟩
  | own c l => obtain ⟨C, dx, vs, _, z, _⟩ := r; rw [z] at e; cases e; exact ⟨fun _ z => (by cases z), fun _ z => (by unfold CodeF at z; cases z)⟩
  | dN l => obtain ⟨xs, z, _⟩ := r; rw [z] at e; cases e; exact ⟨fun _ z => (by unfold NDx at z; cases z), fun _ z => (by unfold NDx CodeF at z; cases z)⟩
theorem RM.noTab (R : RM K β H m) {a : Addr} (h : a ∈ β) : ∀ u, H a = some u → NoTab u := by
  obtain ⟨n, o, _, _, r⟩ := R.at_ h
  exact r.noTab
/-- a thing that the small world does not number: the objects stay -/
theorem RM.tup (R : RM K β H m) {p : Addr} {o : HO} (hp : H p = none) (nt : NoTab o := by exact ⟨fun _ z => (by cases z), fun _ z => (by unfold CodeF at z; cases z)⟩) : RM K β (upd H p o) m :=
  ⟨R.tabs.upd nt fun u e => (by rw [hp] at e; cases e), R.len, R.nd, fun n ob a h1 h2 => (R.ob n ob a h1 h2).ext R (Ext.tup hp) (upd_ne fun z => R.fresh hp (z ▸ List.mem_of_getElem? h2))⟩
theorem RM.push (R : RM K β H m) {p : Addr} {o : HO} {mo : MO} (hp : H p = none) (h : RO K (β ++ [p]) (upd H p o) mo p) : RM K (β ++ [p]) (upd H p o) (m ++ [mo]) := by
  refine ⟨R.tabs.upd (h.noTab _ upd_same) fun u e => (by rw [hp] at e; cases e), by simp [R.len], ?_, fun n ob a h1 h2 => ?_⟩
  · have := R.fresh hp
    have nd := R.nd
    rw [List.nodup_append]
    refine ⟨nd, by simp, fun a ha b hb => ?_⟩
    simp at hb
    subst hb
    intro z
    subst z
    exact this ha
  · by_cases hn : n < m.length
    · rw [List.getElem?_append_left hn] at h1
      rw [List.getElem?_append_left (by rw [R.len]; exact hn)] at h2
      exact (R.ob n ob a h1 h2).ext R (Ext.push hp) (upd_ne fun z => R.fresh hp (z ▸ List.mem_of_getElem? h2))
    · rw [List.getElem?_append_right (by omega)] at h1
      rw [List.getElem?_append_right (by rw [R.len]; omega), R.len] at h2
      cases hk : n - m.length with
      | zero =>
        rw [hk] at h1 h2
        simp at h1 h2
        subst h1; subst h2
        exact h
      | succ k => rw [hk] at h1; simp at h1
/-- an object is written -/
theorem Ext.wr {p : Addr} {o : HO} (hp : p ∈ β) : Ext β H β (upd H p o) :=
  ⟨⟨[], by simp⟩, fun a u h n _ => by rw [upd_ne (show a ≠ p from fun z => n (by rw [z]; exact hp))]; exact h, fun a ps h n => ⟨#[], by rw [upd_ne (show a ≠ p from fun z => n (by rw [z]; exact hp)), h]; simp⟩, fun _ h => .inl h⟩
theorem RM.wr (R : RM K β H m) {n : Nat} {p : Addr} {o : HO} {mo : MO} (hb : β[n]? = some p) (h : RO K β (upd H p o) mo p) : RM K β (upd H p o) (m.set n mo) := by
  refine ⟨R.tabs.upd (h.noTab _ upd_same) (R.noTab (List.mem_of_getElem? hb)), by simp [R.len], R.nd, fun i ob a h1 h2 => ?_⟩
  have hp : p ∈ β := List.mem_of_getElem? hb
  by_cases hi : n = i
  · subst hi
    rw [hb] at h2; cases h2
    have hl : n < m.length := by rw [← R.len]; exact (List.getElem?_eq_some_iff.mp hb).1
    rw [List.getElem?_set_self hl] at h1
    cases h1
    exact h
  · rw [List.getElem?_set_ne hi] at h1
    refine (R.ob i ob a h1 h2).ext R (Ext.wr hp) (upd_ne fun z => hi ?_)
    subst z
    obtain ⟨l1, e1⟩ := List.getElem?_eq_some_iff.mp hb
    obtain ⟨l2, e2⟩ := List.getElem?_eq_some_iff.mp h2
    exact (List.getElem_inj R.nd).mp (e1.trans e2.symm)
end
/-- an exception's class and own values, as the machine has them -/
def XR (K : PySem.W.Frag) (x : Exn) (cls : Value) (d : Option Addr) : Prop := ∃ C : Addr, cls = .ref C ∧ ClsN K x.cls C ∧ d = none
section
variable [Nms] (X : Cx) (W : WX)
def Post {α γ : Type} (r : Re α) (β : List Addr) (H : Hp) (σ : L2.St) (R : List Addr → Hp → α → γ → Prop) (Q : γ → Hp → Prop) : Prop :=
  match r with
  | .ok d m' => ∀ v H' β', Ext β H β' H' → RM X.K β' H' m' → R β' H' d v → Q v H'
  | .ex x m' => ∀ cls dd H' β', Ext β H β' H' → RM X.K β' H' m' → XR X.K x cls dd → W cls dd σ H'
  | .stuck => False
def tE (f : ME) : TE := fun σ H Q => ∃ ρ m β, RE X.K β H ρ σ ∧ RM X.K β H m ∧ Post X W (f ρ m) β H σ (fun β' H' d v => RV X.K β' H' d v) Q
def tT (f : MT) : TT := fun σ H Q => ∃ ρ m β, RE X.K β H ρ σ ∧ RM X.K β H m ∧ Post X W (f ρ m) β H σ (fun _ _ d v => d = v) Q
def tA (f : MA) : TA := fun σ H Q => ∃ ρ m β, RE X.K β H ρ σ ∧ RM X.K β H m ∧ Post X W (f ρ m) β H σ (fun β' H' d v => RVs X.K β' H' d v) Q
def tS (f : MS) : TS := fun D σ H => ∃ ρ m β, RE X.K β H ρ σ ∧ RM X.K β H m ∧
  match f ρ m with
  | .ok (.nx ρ') m' => ∀ σ' H' β', Ext β H β' H' → RM X.K β' H' m' → RE X.K β' H' ρ' σ' → D.nx σ' H'
  | .ok (.bk ρ') m' => ∀ σ' H' β', Ext β H β' H' → RM X.K β' H' m' → RE X.K β' H' ρ' σ' → D.bk σ' H'
  | .ok (.ct ρ') m' => ∀ σ' H' β', Ext β H β' H' → RM X.K β' H' m' → RE X.K β' H' ρ' σ' → D.ct σ' H'
  | .ok (.rt d) m' => ∀ v H' β', Ext β H β' H' → RM X.K β' H' m' → RV X.K β' H' d v → D.rt v H'
  | .ok (.ex x ρ') m' => ∀ cls dd σ' H' β', Ext β H β' H' → RM X.K β' H' m' → RE X.K β' H' ρ' σ' → XR X.K x cls dd → W cls dd σ' H'
  | .ex _ _ => False
  | .stuck => False
end
section
variable [Nms]
structure JE (X : Cx) (W : WX) (e : Expr) (f : ME) : Prop where
  run : PE X e (tE X W f)
structure JT (X : Cx) (W : WX) (e : Expr) (f : MT) : Prop where
  run : PT X e (tT X W f)
structure JA (X : Cx) (W : WX) (es : List Expr) (f : MA) : Prop where
  run : PA X es (tA X W f)
structure JS (X : Cx) (W : WX) (st : Stmt) (f : MS) : Prop where
  run : PS X st (tS X W f)
structure JB (X : Cx) (W : WX) (st : List Stmt) (f : MS) : Prop where
  run : PSs X st (tS X W f)
end
/-- a stronger reading does -/
theorem pe_imp {X : Cx} {e : Expr} {t t' : TE} (h : PE X e t) (i : ∀ σ H Q, t' σ H Q → t σ H Q) : PE X e t' := ⟨fun pins s σ H Q I q => h.run pins s σ H Q I (i σ H Q q)⟩
theorem pt_imp {X : Cx} {e : Expr} {t t' : TT} (h : PT X e t) (i : ∀ σ H Q, t' σ H Q → t σ H Q) : PT X e t' := ⟨fun pins s σ H Q I q => h.run pins s σ H Q I (i σ H Q q)⟩
theorem pa_imp {X : Cx} {e : List Expr} {t t' : TA} (h : PA X e t) (i : ∀ σ H Q, t' σ H Q → t σ H Q) : PA X e t' := ⟨fun p pins s σ H Q I q => h.run p pins s σ H Q I (i σ H Q q)⟩
theorem ps_imp {X : Cx} {e : Stmt} {t t' : TS} (h : PS X e t) (i : ∀ D σ H, t' D σ H → t D σ H) : PS X e t' := ⟨fun pins s σ H D I q => h.run pins s σ H D I (i D σ H q)⟩
theorem pss_imp {X : Cx} {e : List Stmt} {t t' : TS} (h : PSs X e t) (i : ∀ D σ H, t' D σ H → t D σ H) : PSs X e t' := ⟨fun pins s σ H D I q => h.run pins s σ H D I (i D σ H q)⟩
section
variable [Nms] {X : Cx} {W : WX} {α γ δ ε : Type} {r : Re α} {β β1 : List Addr} {H H1 : Hp} {σ : L2.St}
theorem Post.later {R : List Addr → Hp → α → γ → Prop} {Q : γ → Hp → Prop} (p : Post X W r β H σ R Q) (e : Ext β H β1 H1) : Post X W r β1 H1 σ R Q := by
  cases r with
  | ok d m => exact fun v H' β' e' => p v H' β' (e.trans e')
  | ex x m => exact fun c d H' β' e' => p c d H' β' (e.trans e')
  | stuck => exact p
theorem Post.bind {k : α → Mem → Re δ} {R : List Addr → Hp → δ → ε → Prop} {R1 : List Addr → Hp → α → γ → Prop} {Q : ε → Hp → Prop} {Q1 : γ → Hp → Prop} (p : Post X W (r.bind k) β H σ R Q)
    (h : ∀ d m1 v H1 β1, r = .ok d m1 → Ext β H β1 H1 → RM X.K β1 H1 m1 → R1 β1 H1 d v → Post X W (k d m1) β1 H1 σ R Q → Q1 v H1) : Post X W r β H σ R1 Q1 := by
  cases r with
  | ok d m => exact fun v H' β' e M V => h d m v H' β' rfl e M V (Post.later (r := k d m) p e)
  | ex x m => exact p
  | stuck => exact p
theorem Post.ok {d : α} {m : Mem} {R : List Addr → Hp → α → γ → Prop} {Q : γ → Hp → Prop} (p : Post X W (.ok d m) β H σ R Q) {v : γ} (M : RM X.K β H m) (h : R β H d v) : Q v H := p v H β Ext.refl M h
theorem Post.not_stuck {R : List Addr → Hp → α → γ → Prop} {Q : γ → Hp → Prop} {Z : Prop} (p : Post X W (.stuck : Re α) β H σ R Q) : Z := p.elim
end
section
variable [Nms] {X : Cx} {W : WX} {pos : Pos}
def mVar (i : Nat) : ME := fun ρ m => match ρ[i]? with
  | some (some d) => .ok d m
  | _ => .stuck
theorem j_var (i : Nat) {x : Str} (hN : X.N[i]? = some x := by rfl) (hv : Vis X.env.scope x := by first | exact Or.inl rfl | exact Or.inr (Or.inl rfl) | exact Or.inr (Or.inr rfl)) (hd : (x == ("__debug__" : Str)) = false := by decide)
    (hcd : (x == ("__classdict__" : Str)) = false := by decide) : JE X W (.Name x pos) (mVar i) := by
  refine ⟨pe_imp (pe_var hN hv hd hcd) fun σ H Q ⟨ρ, m, β, hE, hM, p⟩ => ?_⟩
  unfold mVar at p
  split at p
  · rename_i d e
    obtain ⟨v, h1, h2⟩ := hE.at_ i d e
    exact ⟨v, h1, p.ok hM h2⟩
  · exact p.not_stuck
def mC (d : MV) : ME := fun _ m => .ok d m
theorem j_int {i : Int} {j : Nat} : JE X W (.Constant (.int i) j pos) (mC (.int i)) := ⟨pe_imp pe_int fun _ _ _ ⟨_, _, _, _, hM, p⟩ => p.ok hM (.int i)⟩
theorem j_bl {b : Bool} {j : Nat} : JE X W (.Constant (.bool b) j pos) (mC (.bl b)) := ⟨pe_imp pe_bl fun _ _ _ ⟨_, _, _, _, hM, p⟩ => p.ok hM (.bl b)⟩
theorem j_non {j : Nat} : JE X W (.Constant .none j pos) (mC .non) := ⟨pe_imp pe_non fun _ _ _ ⟨_, _, _, _, hM, p⟩ => p.ok hM .non⟩
theorem j_str {x : Str} {j : Nat} : JE X W (.Constant (.str x) j pos) (mC (.str x)) := ⟨pe_imp pe_str fun _ _ _ ⟨_, _, _, _, hM, p⟩ => p.ok hM (.str x)⟩
/-- a constant of the module -/
structure Con (K : PySem.W.Frag) (mg : Str → Option Value) (x : Str) (d : MV) : Prop where
  ex : ∃ (u : Value) (v : V), mg x = some u ∧ RelV v u ∧ ∀ β H, RV K β H d v
theorem j_con {x : Str} {d : MV} (c : Con X.K X.mg x d) (hg : Gl X x := by rfl) (hd : (x == ("__debug__" : Str)) = false := by decide) : JE X W (.Name x pos) (mC d) := by
  obtain ⟨u, v, h1, h2, h3⟩ := c.ex
  exact ⟨pe_imp (pe_glob hg h1 h2 hd) fun _ H _ ⟨_, _, β, _, hM, p⟩ => p.ok hM (h3 β H)⟩
def mBin (g : MV → MV → Mem → Re MV) (fa fb : ME) : ME := fun ρ m => (fa ρ m).bind fun a m1 => (fb ρ m1).bind fun b m2 => g a b m2
/-- an operator's rule does what g says -/
def OpM (X : Cx) (r : R2) (g : MV → MV → Mem → Re MV) : Prop := ∀ (W : WX) (σ : L2.St) (d e : MV) (m : Mem) (β : List Addr) (H : Hp) (x y : V) (Q : VK), RM X.K β H m → RV X.K β H d x → RV X.K β H e y →
  Post X W (g d e m) β H σ (fun β' H' d v => RV X.K β' H' d v) Q → r x y H Q
theorem j_op {op : Operator} {r : R2} {g : MV → MV → Mem → Re MV} {a b : Expr} {fa fb : ME} (ho : OpR X (binaryOp op) r) (hm : OpM X r g) (ha : JE X W a fa) (hb : JE X W b fb) : JE X W (.BinOp a op b pos) (mBin g fa fb) :=
  ⟨pe_imp (pe_op ho ha.run hb.run) fun σ H Q ⟨ρ, m, β, hE, hM, p⟩ => ⟨ρ, m, β, hE, hM, p.bind fun d m1 x H1 β1 _ e1 M1 V1 p1 => ⟨ρ, m1, β1, hE.ext hM e1, M1, p1.bind fun d2 m2 y H2 β2 _ e2 M2 V2 p2 =>
    hm W σ d d2 m2 β2 H2 x y Q M2 (V1.ext M1 e2) V2 p2⟩⟩⟩
theorem j_cmp {op : CmpOp} {r : R2} {g : MV → MV → Mem → Re MV} {a b : Expr} {fa fb : ME} (ho : OpR X (compareOp op) r) (hm : OpM X r g) (ha : JE X W a fa) (hb : JE X W b fb) (hk : behindInMarks op b = false := by first | exact nobehind _ (by decide) (by decide) | rfl) :
    JE X W (.Compare a [op] [b] pos) (mBin g fa fb) :=
  ⟨pe_imp (pe_cmpR ho ha.run hb.run hk) fun σ H Q ⟨ρ, m, β, hE, hM, p⟩ => ⟨ρ, m, β, hE, hM, p.bind fun d m1 x H1 β1 _ e1 M1 V1 p1 => ⟨ρ, m1, β1, hE.ext hM e1, M1, p1.bind fun d2 m2 y H2 β2 _ e2 M2 V2 p2 =>
    hm W σ d d2 m2 β2 H2 x y Q M2 (V1.ext M1 e2) V2 p2⟩⟩⟩
/-- a new object -/
def alloc (o : MO) (m : Mem) : Re MV := .ok (.ref m.length) (m ++ [o])
theorem Post.alloc {β : List Addr} {H : Hp} {σ : L2.St} {o : MO} {m : Mem} {Q : VK} (M : RM X.K β H m) (p : Post X W (alloc o m) β H σ (fun β' H' d v => RV X.K β' H' d v) Q) {a : Addr} {ho : HO} (na : H a = none) (h : RO X.K (β ++ [a]) (upd H a ho) o a) : Q (.ref a) (upd H a ho) :=
  p (.ref a) _ (β ++ [a]) (Ext.push na) (M.push na h) (.ref (by rw [← M.len]; simp))
theorem Post.newtup {β : List Addr} {H : Hp} {σ : L2.St} {ds : List MV} {m : Mem} {vs : List V} {Q : VK} (M : RM X.K β H m) (p : Post X W (.ok (.tup ds) m) β H σ (fun β' H' d v => RV X.K β' H' d v) Q) {a : Addr} (na : H a = none) (h : RVs X.K β H ds vs) : Q (.ref a) (upd H a (.tup vs)) :=
  p (.ref a) _ β (Ext.tup na) (M.tup na) (.tup (SqT.of upd_same) (h.ext M (Ext.tup na)))
/-- ints alone -/
def gII (C : Int → Int → Prop) [∀ i j, Decidable (C i j)] (f : Int → Int → MV) : MV → MV → Mem → Re MV
  | .int i, .int j, m => if C i j then .ok (f i j) m else .stuck
  | _, _, _ => .stuck
theorem om_I {C : Int → Int → Prop} [∀ i j, Decidable (C i j)] {f : Int → Int → MV} {g : Int → Int → V} (h : ∀ K β H i j, RV K β H (f i j) (g i j)) : OpM X (rI C g) (gII C f) := by
  intro W σ d e m β H x y Q M rx ry p
  unfold gII at p
  split at p
  · cases rx; cases ry
    split at p
    · rename_i i j hc
      exact ⟨i, j, rfl, rfl, hc, p.ok M (h _ _ _ i j)⟩
    · exact p.not_stuck
  · exact p.not_stuck
def gI0 (f : Int → Int → MV) : MV → MV → Mem → Re MV
  | .int i, .int j, m => .ok (f i j) m
  | _, _, _ => .stuck
theorem om_I0 {f : Int → Int → MV} {g : Int → Int → V} (h : ∀ K β H i j, RV K β H (f i j) (g i j)) : OpM X (rI0 g) (gI0 f) := by
  intro W σ d e m β H x y Q M rx ry p
  unfold gI0 at p
  split at p
  · cases rx; cases ry
    exact ⟨_, _, rfl, rfl, p.ok M (h _ _ _ _ _)⟩
  · exact p.not_stuck
end
end MI
namespace MI
open PySem L2
variable [Nms]
section
variable {X : Cx} {W : WX} {pos : Pos} {K : PySem.W.Frag} {β : List Addr} {H : Hp} {m : Mem}
def lstOf (m : Mem) (d : MV) : Option (List MV) := match d with
  | .ref n => match m[n]? with
    | some (.lst l) => some l
    | some (.frz l) => some l
    | _ => none
  | .kl l => some l
  | _ => none
/-- a list or a tuple -/
def seqOf (m : Mem) (d : MV) : Option (List MV) := match d with
  | .tup l => some l
  | d => lstOf m d
theorem RM.lst (R : RM K β H m) {d : MV} {v : V} {l : List MV} (r : RV K β H d v) (h : lstOf m d = some l) : ∃ a vs, v = .ref a ∧ SqL K H a vs ∧ RVs K β H l vs := by
  unfold lstOf at h
  split at h
  · rename_i n
    cases r with
    | ref hb =>
      split at h
      · rename_i l' e
        cases h
        obtain ⟨vs, q1, q2⟩ := R.ob n _ _ e hb
        exact ⟨_, vs, rfl, SqL.of q1, q2⟩
      · rename_i l' e
        cases h
        obtain ⟨vs, ob, q1, q2⟩ := R.ob n _ _ e hb
        exact ⟨_, vs, rfl, .inl (.inr ⟨ob, q1⟩), q2⟩
      · cases h
  · cases h
    cases r with
    | kl h1 h2 =>
      refine ⟨_, _, rfl, ?_, h2⟩
      rcases h1 with ⟨_, ob, h1⟩ | h1
      · exact .inl (.inr ⟨ob, h1⟩)
      · exact .inr h1
  · cases h
theorem RM.seq (R : RM K β H m) {d : MV} {v : V} {l : List MV} (r : RV K β H d v) (h : seqOf m d = some l) : ∃ a vs, v = .ref a ∧ (SqL K H a vs ∨ SqT K H a vs) ∧ RVs K β H l vs := by
  unfold seqOf at h
  split at h
  · rename_i l'
    cases h
    cases r with
    | tup h1 h2 => exact ⟨_, _, rfl, .inr h1, h2⟩
  · obtain ⟨a, vs, h1, h2, h3⟩ := R.lst r h
    exact ⟨a, vs, h1, .inl h2, h3⟩
/-- a list that may be written -/
def mutOf (m : Mem) (d : MV) : Option (Nat × List MV) := match d with
  | .ref n => match m[n]? with
    | some (.lst l) => some (n, l)
    | _ => none
  | _ => none
theorem mutOf_some {d : MV} {n : Nat} {l : List MV} (h : mutOf m d = some (n, l)) : d = .ref n ∧ m[n]? = some (.lst l) := by
  unfold mutOf at h
  split at h
  · split at h
    · rename_i e
      cases h
      exact ⟨rfl, e⟩
    · cases h
  · cases h
theorem RM.mut (R : RM K β H m) {d : MV} {v : V} {n : Nat} {l : List MV} (r : RV K β H d v) (h : mutOf m d = some (n, l)) : ∃ a vs, v = .ref a ∧ β[n]? = some a ∧ H a = some (.lst vs) ∧ RVs K β H l vs := by
  obtain ⟨rfl, e⟩ := mutOf_some h
  cases r with
  | ref hb =>
    obtain ⟨vs, q1, q2⟩ := R.ob n _ _ e hb
    exact ⟨_, vs, rfl, hb, q1, q2⟩
def gAdd : MV → MV → Mem → Re MV
  | .int i, .int j, m => .ok (.int (i + j)) m
  | .str a, .str b, m => if a.length + b.length ≤ sizeLine then .ok (.str (a ++ b)) m else .stuck
  | .tup a, .tup b, m => if a.length + b.length ≤ sizeLine then .ok (.tup (a ++ b)) m else .stuck
  | .ref a, .ref b, m => match mutOf m (.ref a), mutOf m (.ref b) with
    | some (_, xs), some (_, ys) => if xs.length + ys.length ≤ sizeLine then alloc (.lst (xs ++ ys)) m else .stuck
    | _, _ => .stuck
  | _, _, _ => .stuck
abbrev rAddA (K : PySem.W.Frag) : R2 := fun x y H Q => (rI0 (fun i j => V.int (i + j))) x y H Q ∨ (∃ i j, x = V.str i ∧ y = V.str j ∧ i.length + j.length ≤ sizeLine ∧ Q (V.str (i ++ j)) H) ∨ rCatA K x y H Q ∨ rCat x y H Q
theorem op_addA : OpR X (binaryOp .Add) (rAddA X.K) := OpR.or op_add (OpR.or op_add_str (OpR.or op_catA op_cat))
theorem om_add : OpM X (rAddA X.K) gAdd := by
  intro W σ d e m β H x y Q M rx ry p
  unfold gAdd at p
  split at p
  · cases rx; cases ry
    exact .inl ⟨_, _, rfl, rfl, p.ok M (.int _)⟩
  · cases rx; cases ry
    split at p
    · rename_i h
      exact .inr (.inl ⟨_, _, rfl, rfl, h, p.ok M (.str _)⟩)
    · exact p.not_stuck
  · cases rx with
    | tup h1 r1 =>
      cases ry with
      | tup h2 r2 =>
        split at p
        · rename_i h
          refine .inr (.inr (.inl ⟨_, _, _, _, rfl, rfl, h1, h2, by rw [← r1.length, ← r2.length]; exact h, fun z => ?_, fun _ z => ?_, fun _ _ q hq => ?_⟩))
          · subst z
            cases r1
            exact p.ok M (.tup h2 r2)
          · subst z
            cases r2
            rw [List.append_nil] at p
            exact p.ok M (.tup h1 r1)
          · exact p.newtup M hq (r1.app r2)
        · exact p.not_stuck
  · split at p
    · rename_i n1 xs n2 ys e1 e2
      split at p
      · rename_i h
        obtain ⟨a1, vs1, rfl, hb1, q1, r1⟩ := M.mut rx e1
        obtain ⟨a2, vs2, rfl, hb2, q2, r2⟩ := M.mut ry e2
        exact .inr (.inr (.inr ⟨_, _, _, _, rfl, rfl, q1, q2, by rw [← r1.length, ← r2.length]; exact h, fun q hq => p.alloc M hq ⟨_, upd_same, (r1.app r2).ext M (Ext.push hq)⟩⟩))
      · exact p.not_stuck
    · exact p.not_stuck
  · exact p.not_stuck
def gMul : MV → MV → Mem → Re MV
  | .int i, .int j, m => if (-(2 ^ 64) < i ∧ i < 2 ^ 64) ∨ (-(2 ^ 64) < j ∧ j < 2 ^ 64) then .ok (.int (i * j)) m else .stuck
  | .ref a, .int k, m => match mutOf m (.ref a) with
    | some (_, xs) => if 0 ≤ k ∧ k ≤ 1000 ∧ xs.length ≤ 1000 then alloc (.lst (List.replicate k.toNat xs).flatten) m else .stuck
    | _ => .stuck
  | .tup xs, .int k, m => if 0 < xs.length ∧ 2 ≤ k ∧ k ≤ 1000 ∧ xs.length ≤ 1000 then .ok (.tup (List.replicate k.toNat xs).flatten) m else .stuck
  | _, _, _ => .stuck
theorem RVs.rep {ds : List MV} {vs : List V} (h : RVs K β H ds vs) : ∀ k : Nat, RVs K β H (List.replicate k ds).flatten (List.replicate k vs).flatten
  | 0 => .nil
  | k + 1 => by rw [List.replicate_succ, List.replicate_succ, List.flatten_cons, List.flatten_cons]; exact h.app (RVs.rep h k)
abbrev rMulA (K : PySem.W.Frag) : R2 := fun x y H Q => (rI CMul (fun i j => V.int (i * j))) x y H Q ∨ rRep x y H Q ∨ rRepT K x y H Q
theorem op_mulA : OpR X (binaryOp .Mult) (rMulA X.K) := OpR.or op_mul (OpR.or op_rep op_repT)
theorem om_mul : OpM X (rMulA X.K) gMul := by
  intro W σ d e m β H x y Q M rx ry p
  unfold gMul at p
  split at p
  · cases rx; cases ry
    split at p
    · rename_i h
      exact .inl ⟨_, _, rfl, rfl, h, p.ok M (.int _)⟩
    · exact p.not_stuck
  · cases ry
    split at p
    · rename_i n1 xs e1
      split at p
      · rename_i h
        obtain ⟨a1, vs1, rfl, hb1, q1, r1⟩ := M.mut rx e1
        have hl := r1.length
        have hb : xs.length * (Int.toNat ‹Int›) ≤ 1000 * 1000 := Nat.mul_le_mul h.2.2 (by omega)
        exact .inr (.inl ⟨_, _, _, rfl, rfl, q1, by omega, by omega, by rw [← hl]; exact Nat.le_trans hb (by decide), fun q hq => p.alloc M hq ⟨_, upd_same, (r1.rep _).ext M (Ext.push hq)⟩⟩)
      · exact p.not_stuck
    · exact p.not_stuck
  · cases ry
    cases rx with
    | tup h1 r1 =>
      split at p
      · rename_i h
        have hl := r1.length
        exact .inr (.inr ⟨_, _, _, rfl, rfl, h1, fun z => by rw [z] at hl; simp at hl; rw [hl] at h; simp at h, h.2.1, h.2.2.1, by rw [← hl]; exact h.2.2.2, fun q hq => p.newtup M hq (r1.rep _)⟩)
      · exact p.not_stuck
  · exact p.not_stuck
theorem om_sub : OpM X (rI0 fun i j => V.int (i - j)) (gI0 fun i j => .int (i - j)) := om_I0 fun _ _ _ _ _ => .int _
theorem om_mod : OpM X (rI (fun _ j => 0 < j) fun i j => V.int (i % j)) (gII (fun _ j => 0 < j) fun i j => .int (i % j)) := om_I fun _ _ _ _ _ => .int _
instance (i j : Int) : Decidable (CDivW i j) := by unfold CDivW; exact inferInstance
theorem om_div : OpM X (rI CDivW fun i j => V.int (i / j)) (gII CDivW fun i j => .int (i / j)) := om_I fun _ _ _ _ _ => .int _
/-- a power, by its size in bits -/
def CPowW (i j : Int) : Prop := 0 ≤ j ∧ (Builtin.Int.intBits i : Int) * j ≤ 2 ^ 27
instance (i j : Int) : Decidable (CPowW i j) := by unfold CPowW; exact inferInstance
theorem op_powW : OpR X (binaryOp .Pow) (rI CPowW fun i j => V.int (i ^ j.toNat)) := by
  intro pins s σ H x y v u Q I rx ry h
  obtain ⟨i, j, rfl, rfl, ⟨h1, h2⟩, q⟩ := h
  obtain ⟨t, rfl⟩ := rx
  obtain ⟨t', rfl⟩ := ry
  exact PyProof.Rows.pow_int h1 h2 ⟨.int _, H, I.tok _, ⟨_, rfl⟩, q⟩
theorem om_pow : OpM X (rI CPowW fun i j => V.int (i ^ j.toNat)) (gII CPowW fun i j => .int (i ^ j.toNat)) := om_I fun _ _ _ _ _ => .int _
theorem om_lt : OpM X (rI0 fun i j => V.bl (decide (i < j))) (gI0 fun i j => .bl (decide (i < j))) := om_I0 fun _ _ _ _ _ => .bl _
theorem om_gt : OpM X (rI0 fun i j => V.bl (decide (j < i))) (gI0 fun i j => .bl (decide (j < i))) := om_I0 fun _ _ _ _ _ => .bl _
theorem om_ge : OpM X (rI0 fun i j => V.bl (decide (j ≤ i))) (gI0 fun i j => .bl (decide (j ≤ i))) := om_I0 fun _ _ _ _ _ => .bl _
/-- texts in their order -/
def gLeS : MV → MV → Mem → Re MV
  | .str a, .str b, m => .ok (.bl (!decide (b.cps.toList < a.cps.toList))) m
  | .int i, .int j, m => .ok (.bl (decide (i ≤ j))) m
  | _, _, _ => .stuck
abbrev rLeA : R2 := fun x y H Q => (rI0 (fun i j => V.bl (decide (i ≤ j)))) x y H Q ∨ (∃ i j, x = V.str i ∧ y = V.str j ∧ Q (V.bl (!decide (j.cps.toList < i.cps.toList))) H)
theorem op_leA : OpR X (compareOp .LtE) rLeA := OpR.or op_le op_le_str
theorem om_leA : OpM X rLeA gLeS := by
  intro W σ d e m β H x y Q M rx ry p
  unfold gLeS at p
  split at p
  · cases rx; cases ry
    exact .inr ⟨_, _, rfl, rfl, p.ok M (.bl _)⟩
  · cases rx; cases ry
    exact .inl ⟨_, _, rfl, rfl, p.ok M (.bl _)⟩
  · exact p.not_stuck
/-- is None -/
def gIsN : MV → MV → Mem → Re MV
  | d, .non, m => .ok (.bl (match d with | .non => true | _ => false)) m
  | _, _, _ => .stuck
def gNotN : MV → MV → Mem → Re MV
  | d, .non, m => .ok (.bl (match d with | .non => false | _ => true)) m
  | _, _, _ => .stuck
theorem om_isN : OpM X (fun x y H Q => y = V.non ∧ Q (V.bl (decide (x = V.non))) H) gIsN := by
  intro W σ d e m β H x y Q M rx ry p
  unfold gIsN at p
  split at p
  · cases ry
    refine ⟨rfl, p.ok M ?_⟩
    cases rx <;> exact .bl _
  · exact p.not_stuck
theorem om_notN : OpM X (fun x y H Q => y = V.non ∧ Q (V.bl (!decide (x = V.non))) H) gNotN := by
  intro W σ d e m β H x y Q M rx ry p
  unfold gNotN at p
  split at p
  · cases ry
    refine ⟨rfl, p.ok M ?_⟩
    cases rx <;> exact .bl _
  · exact p.not_stuck
mutual
def dat (m : Mem) : Nat → MV → Option PyData
  | _, .non => some .none
  | _, .bl b => some (.bool b)
  | _, .int i => some (.int i)
  | _, .str s => some (.str s)
  | _, .kl _ => none
  | _, .clo _ _ => none
  | 0, _ => none
  | n + 1, .tup l => (dats m n l).map .tuple
  | n + 1, .ref r => match lstOf m (.ref r) with
    | some l => (dats m n l).map .list
    | none => none
def dats (m : Mem) : Nat → List MV → Option (List PyData)
  | _, [] => some []
  | 0, _ :: _ => none
  | n + 1, d :: ds => match dat m n d, dats m n ds with
    | some a, some b => some (a :: b)
    | _, _ => none
end
mutual
theorem RM.dat1 (R : RM K β H m) : ∀ {n : Nat} {d : MV} {v : V} {e : PyData}, RV K β H d v → dat m n d = some e → Dp K H v e
  | _, .non, _, _, .non, h => by unfold MI.dat at h; cases h; exact .non
  | _, .bl b, _, _, .bl _, h => by unfold MI.dat at h; cases h; exact .bl b
  | _, .int i, _, _, .int _, h => by unfold MI.dat at h; cases h; exact .int i
  | _, .str s, _, _, .str _, h => by unfold MI.dat at h; cases h; exact .str s
  | 0, .tup l, _, _, _, h => by unfold MI.dat at h; cases h
  | 0, .ref l, _, _, _, h => by unfold MI.dat at h; cases h
  | _, .kl l, _, _, _, h => by unfold MI.dat at h; cases h
  | _, .clo _ _, _, _, _, h => by unfold MI.dat at h; cases h
  | n + 1, .tup l, _, _, .tup h1 h2, h => by
    unfold MI.dat at h
    cases e : dats m n l with
    | none => rw [e] at h; cases h
    | some es => rw [e] at h; cases h; exact .tup h1 (RM.dats1 R h2 e)
  | n + 1, .ref r, v, _, hr, h => by
    unfold MI.dat at h
    split at h
    · rename_i l e
      obtain ⟨a, vs, rfl, h1, h2⟩ := R.lst hr e
      cases e : dats m n l with
      | none => rw [e] at h; cases h
      | some es => rw [e] at h; cases h; exact .lst h1 (RM.dats1 R h2 e)
    · cases h
theorem RM.dats1 (R : RM K β H m) : ∀ {n : Nat} {d : List MV} {v : List V} {e : List PyData}, RVs K β H d v → dats m n d = some e → DpAll K H v e
  | _, [], _, _, .nil, h => by unfold MI.dats at h; cases h; exact .nil
  | 0, _ :: _, _, _, _, h => by unfold MI.dats at h; cases h
  | n + 1, d :: ds, _, _, .cons h1 h2, h => by
    unfold MI.dats at h
    split at h
    · rename_i a b e1 e2
      cases h
      exact .cons (RM.dat1 R h1 e1) (RM.dats1 R h2 e2)
    · cases h
end
def fuel : Nat := 2000
def gEq (neg : Bool) (d e : MV) (m : Mem) : Re MV := match dat m fuel d, dat m fuel e with
  | some a, some b => if SeqAt.shaped a = true ∧ SeqAt.shaped b = true then .ok (.bl (if neg then !a.eqv b else a.eqv b)) m else .stuck
  | _, _ => .stuck
theorem om_eq : OpM X (rEqD X.K) (gEq false) := by
  intro W σ d e m β H x y Q M rx ry p
  unfold gEq at p
  split at p
  · rename_i a b e1 e2
    split at p
    · rename_i h
      exact ⟨a, b, M.dat1 rx e1, M.dat1 ry e2, h.1, h.2, p.ok M (.bl _)⟩
    · exact p.not_stuck
  · exact p.not_stuck
theorem om_ne : OpM X (rNeD X.K) (gEq true) := by
  intro W σ d e m β H x y Q M rx ry p
  unfold gEq at p
  split at p
  · rename_i a b e1 e2
    split at p
    · rename_i h
      exact ⟨a, b, M.dat1 rx e1, M.dat1 ry e2, h.1, h.2, p.ok M (.bl _)⟩
    · exact p.not_stuck
  · exact p.not_stuck
end
end MI
namespace MI
open PySem L2
variable [Nms]
section
variable {X : Cx} {W : WX} {pos : Pos} {K : PySem.W.Frag} {β : List Addr} {H : Hp} {m : Mem}
def truO : Option MO → Option Bool
  | some (.lst l) => some (!l.isEmpty)
  | some (.frz l) => some (!l.isEmpty)
  | some (.dct l) => some (!l.isEmpty)
  | _ => none
def tru (m : Mem) : MV → Option Bool
  | .non => some false
  | .bl b => some b
  | .int i => some (i != 0)
  | .str y => if y.length ≤ sizeLine then some ((y.length : Int) != 0) else none
  | .tup l => some (!l.isEmpty)
  | .ref n => truO m[n]?
  | .kl _ => none
  | .clo _ _ => none
theorem RVs.isEmpty {ds : List MV} {vs : List V} (h : RVs K β H ds vs) : ds.isEmpty = vs.isEmpty := by
  cases h <;> rfl
theorem RKs.isEmpty {ds : List (Key × MV)} {vs : List (Key × V)} (h : RKs K β H ds vs) : ds.isEmpty = vs.isEmpty := by
  cases h <;> rfl
theorem RM.tru (R : RM K β H m) {d : MV} {v : V} {b : Bool} (r : RV K β H d v) (h : tru m d = some b) : TruV K v H b := by
  cases r with
  | non => cases h; rfl
  | bl k => cases h; rfl
  | int i => cases h; rfl
  | str x =>
    have h' : (if x.length ≤ sizeLine then some ((x.length : Int) != 0) else none) = some b := h
    by_cases q : x.length ≤ sizeLine
    · rw [if_pos q] at h'; cases h'; exact ⟨q, rfl⟩
    · rw [if_neg q] at h'; cases h'
  | tup h1 h2 => cases h; exact .inr (.inl ⟨_, h1, by rw [h2.isEmpty]⟩)
  | @ref n a hb =>
    have h' : truO m[n]? = some b := h
    cases e : m[n]? with
    | none => rw [e] at h'; cases h'
    | some o =>
      rw [e] at h'
      have q := R.ob n o a e hb
      cases o with
      | lst l => cases h'; obtain ⟨vs, q1, q2⟩ := q; exact .inl ⟨_, SqL.of q1, by rw [q2.isEmpty]⟩
      | frz l => cases h'; obtain ⟨vs, ob, q1, q2⟩ := q; exact .inl ⟨_, .inl (.inr ⟨ob, q1⟩), by rw [q2.isEmpty]⟩
      | dct l => cases h'; obtain ⟨vs, q1, q2⟩ := q; exact .inr (.inr ⟨_, q1, by rw [q2.isEmpty]⟩)
      | exn x => cases h'
      | own c l => cases h'
      | dN l => cases h'
  | kl h1 h2 => cases h
  | clo h1 => cases h
def mTru (f : ME) : MT := fun ρ m => (f ρ m).bind fun d m1 => match tru m1 d with
  | some b => .ok b m1
  | none => .stuck
theorem jt_tru {a : Expr} {f : ME} (h : JE X W a f) (he : ∀ whole, PySem.isTrue a X.env whole = (do let v ← whole; standAt a.pos; holding [v] (truthy v)) := by intro _; rfl) : JT X W a (mTru f) :=
  ⟨pt_imp (pt_truth h.run he) fun σ H Q ⟨ρ, m, β, hE, hM, p⟩ => ⟨ρ, m, β, hE, hM, p.bind fun d m1 x H1 β1 _ e1 M1 V1 p1 => by
    split at p1
    · rename_i b e; exact ⟨b, M1.tru V1 e, p1.ok M1 rfl⟩
    · exact p1.not_stuck⟩⟩
/-- a value that is a bool, as a test -/
def mB (f : ME) : MT := fun ρ m => (f ρ m).bind fun d m1 => match d with
  | .bl b => .ok b m1
  | _ => .stuck
theorem jt_cmp {op : CmpOp} {r : R2} {g : MV → MV → Mem → Re MV} {a b : Expr} {fa fb : ME} (ho : OpR X (compareOp op) r) (hm : OpM X r g) (ha : JE X W a fa) (hb : JE X W b fb) (hk : behindInMarks op b = false := by first | exact nobehind _ (by decide) (by decide) | rfl) :
    JT X W (.Compare a [op] [b] pos) (mB (mBin g fa fb)) := by
  refine ⟨pt_imp (pt_cmpR ho ha.run hb.run hk) fun σ H Q ⟨ρ, m, β, hE, hM, p⟩ => ⟨ρ, m, β, hE, hM, ?_⟩⟩
  unfold mB mBin at p
  have p' : Post X W ((fa ρ m).bind fun a m1 => ((fb ρ m1).bind fun b m2 => g a b m2).bind fun d m1 => match d with | .bl b => .ok b m1 | _ => .stuck) β H σ (fun _ _ d v => d = v) Q := by
    cases hh : fa ρ m with
    | ok d m1 => rw [hh] at p; exact p
    | ex x m1 => rw [hh] at p; exact p
    | stuck => rw [hh] at p; exact p
  refine p'.bind fun d m1 x H1 β1 _ e1 M1 V1 p1 => ⟨ρ, m1, β1, hE.ext hM e1, M1, ?_⟩
  have p1' : Post X W ((fb ρ m1).bind fun b m2 => (g d b m2).bind fun d m1 => match d with | .bl b => .ok b m1 | _ => .stuck) β1 H1 σ (fun _ _ d v => d = v) Q := by
    cases hh : fb ρ m1 with
    | ok d m1 => rw [hh] at p1; exact p1
    | ex x m1 => rw [hh] at p1; exact p1
    | stuck => rw [hh] at p1; exact p1
  refine p1'.bind fun d2 m2 y H2 β2 _ e2 M2 V2 p2 => hm W σ d d2 m2 β2 H2 x y _ M2 (V1.ext M1 e2) V2 (p2.bind fun d3 m3 z H3 β3 _ e3 M3 V3 p3 => ?_)
  split at p3
  · cases V3; exact ⟨_, rfl, p3.ok M3 rfl⟩
  · exact p3.not_stuck
structure JW (X : Cx) (W : WX) (e : Expr) (f : MT) : Prop where
  run : PW X e (tT X W f)
theorem pw_imp {X : Cx} {e : Expr} {t t' : TT} (h : PW X e t) (i : ∀ σ H Q, t' σ H Q → t σ H Q) : PW X e t' := ⟨fun wh pins s σ H Q I q => h.run wh pins s σ H Q I (i σ H Q q)⟩
def mNotT (f : MT) : MT := fun ρ m => (f ρ m).bind fun b m1 => .ok (!b) m1
def mAndT (f g : MT) : MT := fun ρ m => (f ρ m).bind fun b m1 => if b = true then g ρ m1 else .ok false m1
def mOrT (f g : MT) : MT := fun ρ m => (f ρ m).bind fun b m1 => if b = true then .ok true m1 else g ρ m1
theorem jt_not {a : Expr} {f : MT} (h : JT X W a f) : JT X W (.UnaryOp .Not a pos) (mNotT f) :=
  ⟨pt_imp (pt_not h.run) fun σ H Q ⟨ρ, m, β, hE, hM, p⟩ => ⟨ρ, m, β, hE, hM, p.bind fun d m1 x H1 β1 _ e1 M1 V1 p1 => by cases V1; exact p1.ok M1 rfl⟩⟩
theorem jw_and1 {a : Expr} {f : MT} (h : JT X W a f) : JW X W (.BoolOp .And [a] pos) f := ⟨pw_and1 h.run⟩
theorem jw_or1 {a : Expr} {f : MT} (h : JT X W a f) : JW X W (.BoolOp .Or [a] pos) f := ⟨pw_or1 h.run⟩
theorem jw_and {a b : Expr} {rest : List Expr} {f g : MT} (h : JT X W a f) (h2 : JW X W (.BoolOp .And (b :: rest) pos) g) : JW X W (.BoolOp .And (a :: b :: rest) pos) (mAndT f g) :=
  ⟨pw_imp (pw_and h.run h2.run) fun σ H Q ⟨ρ, m, β, hE, hM, p⟩ => ⟨ρ, m, β, hE, hM, p.bind fun d m1 x H1 β1 _ e1 M1 V1 p1 => by
    cases V1
    cases d with
    | true => exact ⟨ρ, m1, β1, hE.ext hM e1, M1, p1⟩
    | false => exact p1.ok M1 rfl⟩⟩
theorem jw_or {a b : Expr} {rest : List Expr} {f g : MT} (h : JT X W a f) (h2 : JW X W (.BoolOp .Or (b :: rest) pos) g) : JW X W (.BoolOp .Or (a :: b :: rest) pos) (mOrT f g) :=
  ⟨pw_imp (pw_or h.run h2.run) fun σ H Q ⟨ρ, m, β, hE, hM, p⟩ => ⟨ρ, m, β, hE, hM, p.bind fun d m1 x H1 β1 _ e1 M1 V1 p1 => by
    cases V1
    cases d with
    | false => exact ⟨ρ, m1, β1, hE.ext hM e1, M1, p1⟩
    | true => exact p1.ok M1 rfl⟩⟩
theorem JW.jt {e : Expr} {f : MT} (h : JW X W e f) : JT X W e f := ⟨h.run.pt⟩
/-- .. as values -/
def mAnd (f g : ME) : ME := fun ρ m => (f ρ m).bind fun d m1 => match tru m1 d with
  | some true => g ρ m1
  | some false => .ok d m1
  | none => .stuck
def mOr (f g : ME) : ME := fun ρ m => (f ρ m).bind fun d m1 => match tru m1 d with
  | some true => .ok d m1
  | some false => g ρ m1
  | none => .stuck
def mNot (f : ME) : ME := fun ρ m => (f ρ m).bind fun d m1 => match tru m1 d with
  | some b => .ok (.bl (!b)) m1
  | none => .stuck
theorem je_one {op : BoolOp} {a : Expr} {f : ME} (h : JE X W a f) : JE X W (.BoolOp op [a] pos) f := ⟨pe_one h.run⟩
theorem je_and {a b : Expr} {rest : List Expr} {f g : ME} (h : JE X W a f) (h2 : JE X W (.BoolOp .And (b :: rest) pos) g) : JE X W (.BoolOp .And (a :: b :: rest) pos) (mAnd f g) :=
  ⟨pe_imp (pe_andT h.run h2.run) fun σ H Q ⟨ρ, m, β, hE, hM, p⟩ => ⟨ρ, m, β, hE, hM, p.bind fun d m1 x H1 β1 _ e1 M1 V1 p1 => by
    split at p1
    · rename_i e; exact ⟨true, M1.tru V1 e, ⟨ρ, m1, β1, hE.ext hM e1, M1, p1⟩⟩
    · rename_i e; exact ⟨false, M1.tru V1 e, p1.ok M1 V1⟩
    · exact p1.not_stuck⟩⟩
theorem je_not {a : Expr} {f : ME} (h : JE X W a f) : JE X W (.UnaryOp .Not a pos) (mNot f) :=
  ⟨pe_imp (pe_notT h.run) fun σ H Q ⟨ρ, m, β, hE, hM, p⟩ => ⟨ρ, m, β, hE, hM, p.bind fun d m1 x H1 β1 _ e1 M1 V1 p1 => by
    split at p1
    · rename_i b e; exact ⟨b, M1.tru V1 e, p1.ok M1 (.bl _)⟩
    · exact p1.not_stuck⟩⟩
def mIf (c : MT) (f g : ME) : ME := fun ρ m => (c ρ m).bind fun b m1 => if b = true then f ρ m1 else g ρ m1
theorem je_if {c a b : Expr} {fc : MT} {f g : ME} (hc : JT X W c fc) (ha : JE X W a f) (hb : JE X W b g) : JE X W (.IfExp c a b pos) (mIf fc f g) :=
  ⟨pe_imp (pe_ifExp hc.run ha.run hb.run) fun σ H Q ⟨ρ, m, β, hE, hM, p⟩ => ⟨ρ, m, β, hE, hM, p.bind fun d m1 x H1 β1 _ e1 M1 V1 p1 => by
    cases V1
    cases d with
    | true => exact ⟨ρ, m1, β1, hE.ext hM e1, M1, p1⟩
    | false => exact ⟨ρ, m1, β1, hE.ext hM e1, M1, p1⟩⟩⟩
def mNil : MA := fun _ m => .ok [] m
def mCons (f : ME) (g : MA) : MA := fun ρ m => (f ρ m).bind fun d m1 => (g ρ m1).bind fun ds m2 => .ok (d :: ds) m2
theorem ja_nil : JA X W [] mNil := ⟨pa_imp pa_nil fun _ _ _ ⟨_, _, _, _, hM, p⟩ => p.ok hM .nil⟩
theorem ja_cons {e : Expr} {es : List Expr} {f : ME} {g : MA} (h : JE X W e f) (h2 : JA X W es g) (he : starEach (e :: es) X.env = (false, eval e X.env) :: starEach es X.env := by rfl) : JA X W (e :: es) (mCons f g) :=
  ⟨pa_imp (pa_cons h.run h2.run he) fun σ H Q ⟨ρ, m, β, hE, hM, p⟩ => ⟨ρ, m, β, hE, hM, p.bind fun d m1 x H1 β1 _ e1 M1 V1 p1 => ⟨ρ, m1, β1, hE.ext hM e1, M1, p1.bind fun d2 m2 y H2 β2 _ e2 M2 V2 p2 =>
    p2.ok M2 (.cons (V1.ext M1 e2) V2)⟩⟩⟩
/-- *e within a display or a call -/
def mStar (f : ME) (g : MA) : MA := fun ρ m => (f ρ m).bind fun d m1 => match seqOf m1 d with
  | some l => (g ρ m1).bind fun ds m2 => .ok (l ++ ds) m2
  | none => .stuck
def mTup (g : MA) : ME := fun ρ m => (g ρ m).bind fun ds m1 => if ds.length ≤ sizeLine then .ok (.tup ds) m1 else .stuck
def mLst (g : MA) : ME := fun ρ m => (g ρ m).bind fun ds m1 => if ds.length ≤ sizeLine then alloc (.lst ds) m1 else .stuck
theorem je_tup {es : List Expr} {k : Nat} {g : MA} (h : JA X W es g) : JE X W (.Tuple es k pos) (mTup g) :=
  ⟨pe_imp (pe_tup h.run) fun σ H Q ⟨ρ, m, β, hE, hM, p⟩ => ⟨ρ, m, β, hE, hM, p.bind fun d m1 x H1 β1 _ e1 M1 V1 p1 => by
    split at p1
    · rename_i q; exact ⟨by rw [← V1.length]; exact q, fun a ha => p1.newtup M1 ha V1⟩
    · exact p1.not_stuck⟩⟩
theorem je_lst {es : List Expr} {g : MA} (h : JA X W es g) : JE X W (.List es pos) (mLst g) :=
  ⟨pe_imp (pe_lst h.run) fun σ H Q ⟨ρ, m, β, hE, hM, p⟩ => ⟨ρ, m, β, hE, hM, p.bind fun d m1 x H1 β1 _ e1 M1 V1 p1 => by
    split at p1
    · rename_i q; exact ⟨by rw [← V1.length]; exact q, fun a ha => p1.alloc M1 ha ⟨_, upd_same, V1.ext M1 (Ext.push ha)⟩⟩
    · exact p1.not_stuck⟩⟩
end
end MI
namespace MI
open PySem L2
variable [Nms]
section
variable {X : Cx} {W : WX} {pos : Pos} {K : PySem.W.Frag} {β : List Addr} {H : Hp} {m : Mem}
theorem ja_star {e : Expr} {es : List Expr} {f : ME} {g : MA} {p : Pos} (h : JE X W e f) (h2 : JA X W es g) (hs : starEach (.Starred e p :: es) X.env = (true, eval e X.env) :: starEach es X.env := by rfl) : JA X W (.Starred e p :: es) (mStar f g) :=
  ⟨pa_imp (StX.pa_star h.run h2.run hs) fun σ H Q ⟨ρ, m, β, hE, hM, p⟩ => ⟨ρ, m, β, hE, hM, p.bind fun d m1 x H1 β1 _ e1 M1 V1 p1 => by
    split at p1
    · rename_i l q
      obtain ⟨a, vs, rfl, hs, hr⟩ := M1.seq V1 q
      refine ⟨a, vs, rfl, hs.symm, ⟨ρ, m1, β1, hE.ext hM e1, M1, p1.bind fun d2 m2 y H2 β2 _ e2 M2 V2 p2 => p2.ok M2 ((hr.ext M1 e2).app V2)⟩⟩
    · exact p1.not_stuck⟩⟩
def atM (l : List MV) (i : Int) : Option MV := (ixN l.length i).bind fun j => l[j]?
theorem RVs.at_ {ds : List MV} {vs : List V} {i : Int} {d : MV} (h : RVs K β H ds vs) (e : atM ds i = some d) : ∃ v, atI vs i = some v ∧ RV K β H d v := by
  unfold atM at e
  unfold atI
  rw [← h.length]
  cases q : ixN ds.length i with
  | none => rw [q] at e; cases e
  | some j =>
    rw [q] at e
    obtain ⟨v, h1, h2⟩ := h.get (show ds[j]? = some d from e)
    exact ⟨v, h1, h2⟩
/-- x[i] by values: a list, a tuple, a text -/
def gIx : MV → MV → Mem → Re MV
  | .str z, .int i, m => if z.length ≤ sizeLine then match atI z.cps.toList i with
      | some c => .ok (.str ⟨#[c]⟩) m
      | none => .stuck
    else .stuck
  | d, .int i, m => match seqOf m d with
    | some l => match atM l i with
      | some e => .ok e m
      | none => .stuck
    | none => .stuck
  | _, _, _ => .stuck
theorem om_ix : OpM X (rIx X.K) gIx := by
  intro W σ d e m β H x y Q M rx ry p
  unfold gIx at p
  split at p
  · cases rx; cases ry
    split at p
    · rename_i h
      split at p
      · rename_i c hc
        exact .inr (.inr ⟨_, _, c, rfl, rfl, h, hc, p.ok M (.str _)⟩)
      · exact p.not_stuck
    · exact p.not_stuck
  · cases ry
    split at p
    · rename_i l hl
      split at p
      · rename_i e he
        obtain ⟨a, vs, rfl, hs, hr⟩ := M.seq rx hl
        obtain ⟨v, h1, h2⟩ := hr.at_ he
        rcases hs with hs | hs
        · exact .inl ⟨a, vs, _, v, rfl, rfl, hs, h1, p.ok M h2⟩
        · exact .inr (.inl ⟨a, vs, _, v, rfl, rfl, hs, h1, p.ok M h2⟩)
      · exact p.not_stuck
    · exact p.not_stuck
  · exact p.not_stuck
theorem je_ix {a b : Expr} {fa fb : ME} (ha : JE X W a fa) (hb : JE X W b fb) (hs : PlainIx b := by intro _ _; rfl) : JE X W (.Subscript a b pos) (mBin gIx fa fb) :=
  ⟨pe_imp (pe_ix ix_seq ha.run hb.run hs) fun σ H Q ⟨ρ, m, β, hE, hM, p⟩ => ⟨ρ, m, β, hE, hM, p.bind fun d m1 x H1 β1 _ e1 M1 V1 p1 => ⟨ρ, m1, β1, hE.ext hM e1, M1, p1.bind fun d2 m2 y H2 β2 _ e2 M2 V2 p2 =>
    om_ix W σ d d2 m2 β2 H2 x y Q M2 (V1.ext M1 e2) V2 p2⟩⟩⟩
/-- d[k], d a dict with ints and texts for keys -/
def keyOf : MV → Option Key
  | .int i => some (.inl i)
  | .str x => some (.inr x)
  | _ => none
def dctOf (m : Mem) : MV → Option (Nat × List (Key × MV))
  | .ref n => match m[n]? with
    | some (.dct l) => some (n, l)
    | _ => none
  | _ => none
def valM (l : List (Key × MV)) (k : Key) : Option MV := Option.map (fun x => x.snd) (List.find? (fun kv => decide (kv.fst = k)) l)
def putM (l : List (Key × MV)) (k : Key) (d : MV) : List (Key × MV) :=
  if (l.any fun kv => decide (kv.fst = k)) = true then List.map (fun kv => if kv.fst = k then (kv.fst, d) else kv) l else l ++ [(k, d)]
theorem dctOf_some {d : MV} {n : Nat} {l : List (Key × MV)} (h : dctOf m d = some (n, l)) : d = .ref n ∧ m[n]? = some (.dct l) := by
  unfold dctOf at h
  split at h
  · split at h
    · rename_i e
      cases h
      exact ⟨rfl, e⟩
    · cases h
  · cases h
theorem RM.dct (R : RM K β H m) {d : MV} {v : V} {n : Nat} {l : List (Key × MV)} (r : RV K β H d v) (h : dctOf m d = some (n, l)) : ∃ a vs, v = .ref a ∧ β[n]? = some a ∧ H a = some (.dK vs) ∧ RKs K β H l vs := by
  obtain ⟨rfl, e⟩ := dctOf_some h
  cases r with
  | ref hb =>
    obtain ⟨vs, q1, q2⟩ := R.ob n _ _ e hb
    exact ⟨_, vs, rfl, hb, q1, q2⟩
theorem keyOf_some {d : MV} {v : V} {k : Key} (r : RV K β H d v) (h : keyOf d = some k) : v = kV k := by
  cases r <;> cases h <;> rfl
theorem RKs.val : ∀ {l : List (Key × MV)} {vs : List (Key × V)} {k : Key}, RKs K β H l vs → (∀ d, valM l k = some d → ∃ v, valV vs k = some v ∧ RV K β H d v) ∧ (valM l k = none → valV vs k = none)
  | _, _, k, .nil => ⟨fun d h => (by cases h), fun _ => rfl⟩
  | _, _, k, .cons (k := q) (ds := ds) (vs := vs) h r => by
    obtain ⟨i1, i2⟩ := RKs.val (k := k) r
    unfold valM valV at *
    rw [List.find?_cons, List.find?_cons]
    by_cases e : q = k
    · simp only [e, decide_true]
      exact ⟨fun d z => (by cases z; exact ⟨_, rfl, h⟩), fun z => (by cases z)⟩
    · simp only [e, decide_false]
      exact ⟨i1, i2⟩
theorem RKs.length : ∀ {l : List (Key × MV)} {vs : List (Key × V)}, RKs K β H l vs → l.length = vs.length
  | _, _, .nil => rfl
  | _, _, .cons _ r => by simp [RKs.length r]
theorem RKs.any : ∀ {l : List (Key × MV)} {vs : List (Key × V)} {k : Key}, RKs K β H l vs → (l.any fun kv => decide (kv.fst = k)) = (vs.any fun kv => decide (kv.fst = k))
  | _, _, _, .nil => rfl
  | _, _, k, .cons _ r => by simp only [List.any_cons, RKs.any (k := k) r]
theorem RKs.map : ∀ {l : List (Key × MV)} {vs : List (Key × V)} {k : Key} {d : MV} {v : V}, RKs K β H l vs → RV K β H d v →
    RKs K β H (l.map fun kv => if kv.fst = k then (kv.fst, d) else kv) (vs.map fun kv => if kv.fst = k then (kv.fst, v) else kv)
  | _, _, _, _, _, .nil, _ => .nil
  | _, _, k, _, _, .cons (k := q) h r, z => by
    simp only [List.map_cons]
    by_cases e : q = k
    · simp only [e, if_true]; exact .cons z (RKs.map r z)
    · simp only [e, if_false]; exact .cons h (RKs.map r z)
theorem RKs.app : ∀ {l l2 : List (Key × MV)} {vs v2 : List (Key × V)}, RKs K β H l vs → RKs K β H l2 v2 → RKs K β H (l ++ l2) (vs ++ v2)
  | _, _, _, _, .nil, q => q
  | _, _, _, _, .cons h r, q => .cons h (RKs.app r q)
theorem RKs.put {l : List (Key × MV)} {vs : List (Key × V)} {k : Key} {d : MV} {v : V} (r : RKs K β H l vs) (h : RV K β H d v) : RKs K β H (putM l k d) (putK vs k v) := by
  unfold putM putK
  rw [r.any (k := k)]
  split
  · exact r.map h
  · exact r.app (.cons h .nil)
/-- d[k] -/
def gDGet (d k : MV) (m : Mem) : Re MV := match dctOf m d, keyOf k with
  | some (_, l), some q => match valM l q with
    | some e => .ok e m
    | none => .stuck
  | _, _ => .stuck
theorem je_dget {a b : Expr} {fa fb : ME} (hu : X.A.units + 1 < cLine) (ha : JE X W a fa) (hb : JE X W b fb) (hs : NoSl b := by intro _ _; rfl) : JE X W (.Subscript a b pos) (mBin gDGet fa fb) :=
  ⟨pe_imp (pe_dget hu ha.run hb.run hs) fun σ H Q ⟨ρ, m, β, hE, hM, p⟩ => ⟨ρ, m, β, hE, hM, p.bind fun d m1 x H1 β1 _ e1 M1 V1 p1 => ⟨ρ, m1, β1, hE.ext hM e1, M1, p1.bind fun d2 m2 y H2 β2 _ e2 M2 V2 p2 => by
    unfold gDGet at p2
    split at p2
    · rename_i n l q h1 h2
      split at p2
      · rename_i e he
        obtain ⟨a, vs, rfl, hb, hH, hr⟩ := M2.dct (V1.ext M1 e2) h1
        have hy := keyOf_some V2 h2
        subst hy
        obtain ⟨v, z1, z2⟩ := hr.val.1 e he
        exact ⟨a, v, rfl, .inl ⟨vs, q, .inl hH, rfl, z1.symm⟩, p2.ok M2 z2⟩
      · exact p2.not_stuck
    · exact p2.not_stuck⟩⟩⟩
/-- k in d, k not in d -/
def gDIn (neg : Bool) (k d : MV) (m : Mem) : Re MV := match dctOf m d, keyOf k with
  | some (_, l), some q => .ok (.bl (if neg then !(valM l q).isSome else (valM l q).isSome)) m
  | _, _ => .stuck
theorem RKs.isSome {l : List (Key × MV)} {vs : List (Key × V)} {k : Key} (r : RKs K β H l vs) : (valV vs k).isSome = (valM l k).isSome := by
  obtain ⟨h1, h2⟩ := r.val (k := k)
  cases e : valM l k with
  | none => rw [h2 e] <;> rfl
  | some d => obtain ⟨v, z, _⟩ := h1 d e; rw [z] <;> rfl
theorem je_din {a b : Expr} {fa fb : ME} (hu : X.A.units + 1 < cLine) (ha : JE X W a fa) (hb : JE X W b fb) (hk : behindInMarks .In b = false := by rfl) : JE X W (.Compare a [.In] [b] pos) (mBin (gDIn false) fa fb) :=
  ⟨pe_imp (pe_cmp (pc_din hu ha.run hb.run) hk) fun σ H Q ⟨ρ, m, β, hE, hM, p⟩ => ⟨ρ, m, β, hE, hM, p.bind fun d m1 x H1 β1 _ e1 M1 V1 p1 => ⟨ρ, m1, β1, hE.ext hM e1, M1, p1.bind fun d2 m2 y H2 β2 _ e2 M2 V2 p2 => by
    unfold gDIn at p2
    split at p2
    · rename_i n l q h1 h2
      obtain ⟨a, vs, rfl, hb, hH, hr⟩ := M2.dct V2 h1
      have hy := keyOf_some (V1.ext M1 e2) h2
      subst hy
      exact ⟨a, valV vs q, rfl, .inl ⟨vs, q, .inl hH, rfl, rfl⟩, p2.ok M2 (by rw [hr.isSome]; exact .bl _)⟩
    · exact p2.not_stuck⟩⟩⟩
theorem je_dnotin {a b : Expr} {fa fb : ME} (hu : X.A.units + 1 < cLine) (ha : JE X W a fa) (hb : JE X W b fb) (hk : behindInMarks .NotIn b = false := by rfl) : JE X W (.Compare a [.NotIn] [b] pos) (mBin (gDIn true) fa fb) :=
  ⟨pe_imp (pe_cmp (pc_dnotin hu ha.run hb.run) hk) fun σ H Q ⟨ρ, m, β, hE, hM, p⟩ => ⟨ρ, m, β, hE, hM, p.bind fun d m1 x H1 β1 _ e1 M1 V1 p1 => ⟨ρ, m1, β1, hE.ext hM e1, M1, p1.bind fun d2 m2 y H2 β2 _ e2 M2 V2 p2 => by
    unfold gDIn at p2
    split at p2
    · rename_i n l q h1 h2
      obtain ⟨a, vs, rfl, hb, hH, hr⟩ := M2.dct V2 h1
      have hy := keyOf_some (V1.ext M1 e2) h2
      subst hy
      exact ⟨a, valV vs q, rfl, .inl ⟨vs, q, .inl hH, rfl, rfl⟩, p2.ok M2 (by rw [hr.isSome]; exact .bl _)⟩
    · exact p2.not_stuck⟩⟩⟩
def mDNew : ME := fun _ m => alloc (.dct []) m
theorem je_dnew : JE X W (.Dict [] [] pos) mDNew :=
  ⟨pe_imp pe_dnewK fun σ H Q ⟨ρ, m, β, hE, hM, p⟩ => fun a ha => p.alloc hM ha ⟨[], upd_same, .nil⟩⟩
def cutM {α : Type} (xs : List α) (lo hi : Option Int) : List α := (xs.drop (HT.sIx xs.length 0 lo)).take (HT.sIx xs.length xs.length hi - HT.sIx xs.length 0 lo)
theorem RVs.cut {ds : List MV} {vs : List V} (h : RVs K β H ds vs) (lo hi : Option Int) : RVs K β H (cutM ds lo hi) (cutV vs lo hi) := by
  unfold cutM cutV
  rw [h.length]
  exact (h.drop _).take _
def gSl (d : MV) (lo hi : Option Int) (m : Mem) : Re MV := match d with
  | .str z => if z.length ≤ sizeLine then .ok (.str ⟨(cutM z.cps.toList lo hi).toArray⟩) m else .stuck
  | .tup l => .ok (.tup (cutM l lo hi)) m
  | d => match lstOf m d with
    | some l => alloc (.lst (cutM l lo hi)) m
    | none => .stuck
abbrev rSlAll (K : PySem.W.Frag) : V → Option Int → Option Int → Hp → VK → Prop := fun x lo hi H Q => rSlL K x lo hi H Q ∨ rSlA K x lo hi H Q ∨ rSlS x lo hi H Q
theorem sl_all : SlR X (rSlAll X.K) := SlR.or sl_list (SlR.or sl_tupA sl_str)
theorem cut_all {α : Type} {xs : List α} {lo hi : Option Int} (h : HT.sIx xs.length 0 lo = 0 ∧ HT.sIx xs.length xs.length hi = xs.length) : cutM xs lo hi = xs := by
  unfold cutM
  rw [h.1, h.2]; simp
theorem om_sl {σ : L2.St} {d : MV} {lo hi : Option Int} {m : Mem} {β : List Addr} {H : Hp} {x : V} {Q : VK} (M : RM X.K β H m) (rx : RV X.K β H d x) (p : Post X W (gSl d lo hi m) β H σ (fun β' H' d v => RV X.K β' H' d v) Q) : rSlAll X.K x lo hi H Q := by
  unfold gSl at p
  split at p
  · rename_i z
    cases rx
    split at p
    · rename_i h
      refine .inr (.inr ⟨_, rfl, h, ?_⟩)
      have e : cutS z lo hi = ⟨(cutM z.cps.toList lo hi).toArray⟩ := by
        unfold cutS cutM
        rw [show z.cps.toList.length = z.length from by simp [Str.length]]
      rw [e]
      exact p.ok M (.str _)
    · exact p.not_stuck
  · cases rx with
    | tup h1 r1 =>
      refine .inr (.inl ⟨_, _, rfl, h1, fun q => ?_, fun q a ha => p.newtup M ha (r1.cut lo hi)⟩)
      rw [← r1.length] at q
      rw [cut_all q] at p
      exact p.ok M (.tup h1 r1)
  · split at p
    · rename_i l hl
      obtain ⟨a, vs, rfl, hs, hr⟩ := M.lst rx hl
      exact .inl ⟨a, vs, rfl, hs, fun q hq => p.alloc M hq ⟨_, upd_same, (hr.cut lo hi).ext M (Ext.push hq)⟩⟩
    · exact p.not_stuck
/-- an end of a slice -/
abbrev MO' := Env → Mem → Re (Option Int)
structure JO (X : Cx) (W : WX) (e : Option Expr) (f : MO') : Prop where
  run : PO X e (fun σ H Q => ∃ ρ m β, RE X.K β H ρ σ ∧ RM X.K β H m ∧ Post X W (f ρ m) β H σ (fun _ _ d v => d = v) Q)
def mNo : MO' := fun _ m => .ok none m
def mEnd (f : ME) : MO' := fun ρ m => (f ρ m).bind fun d m1 => match d with
  | .int i => .ok (some i) m1
  | _ => .stuck
theorem po_imp {e : Option Expr} {t t' : TO} (h : PO X e t) (i : ∀ σ H Q, t' σ H Q → t σ H Q) : PO X e t' := ⟨fun pins s σ H Q I q => h.run pins s σ H Q I (i σ H Q q)⟩
theorem jo_no : JO X W none mNo := ⟨po_imp po_none fun σ H Q ⟨ρ, m, β, hE, hM, p⟩ => p.ok hM rfl⟩
theorem jo_end {e : Expr} {f : ME} (h : JE X W e f) : JO X W (some e) (mEnd f) :=
  ⟨po_imp (po_some h.run) fun σ H Q ⟨ρ, m, β, hE, hM, p⟩ => ⟨ρ, m, β, hE, hM, p.bind fun d m1 x H1 β1 _ e1 M1 V1 p1 => by
    split at p1
    · cases V1; exact ⟨_, rfl, p1.ok M1 rfl⟩
    · exact p1.not_stuck⟩⟩
def mSl (f : ME) (l h : MO') : ME := fun ρ m => (f ρ m).bind fun d m1 => (l ρ m1).bind fun lo m2 => (h ρ m2).bind fun hi m3 => gSl d lo hi m3
theorem je_sl {e : Expr} {lo hi : Option Expr} {p2 : Pos} {f : ME} {l h : MO'} (he : JE X W e f) (hl : JO X W lo l) (hh : JO X W hi h) : JE X W (.Subscript e (.Slice lo hi none p2) pos) (mSl f l h) :=
  ⟨pe_imp (pe_slice sl_all he.run hl.run hh.run) fun σ H Q ⟨ρ, m, β, hE, hM, p⟩ => ⟨ρ, m, β, hE, hM, p.bind fun d m1 x H1 β1 _ e1 M1 V1 p1 => ⟨ρ, m1, β1, hE.ext hM e1, M1, p1.bind fun o m2 o' H2 β2 _ e2 M2 V2 p2 => by
    subst V2
    exact ⟨ρ, m2, β2, (hE.ext hM e1).ext M1 e2, M2, p2.bind fun u m3 u' H3 β3 _ e3 M3 V3 p3 => by
      subst V3
      exact om_sl M3 ((V1.ext M1 e2).ext M2 e3) p3⟩⟩⟩⟩
end
end MI
namespace MI
open PySem L2
variable [Nms]
section
variable {X : Cx} {W : WX} {pos : Pos} {K : PySem.W.Frag} {β : List Addr} {H : Hp} {m : Mem}
def PostS (X : Cx) (W : WX) (r : Re Fl) (β : List Addr) (H : Hp) (D : Ends) : Prop :=
  match r with
  | .ok (.nx ρ') m' => ∀ σ' H' β', Ext β H β' H' → RM X.K β' H' m' → RE X.K β' H' ρ' σ' → D.nx σ' H'
  | .ok (.bk ρ') m' => ∀ σ' H' β', Ext β H β' H' → RM X.K β' H' m' → RE X.K β' H' ρ' σ' → D.bk σ' H'
  | .ok (.ct ρ') m' => ∀ σ' H' β', Ext β H β' H' → RM X.K β' H' m' → RE X.K β' H' ρ' σ' → D.ct σ' H'
  | .ok (.rt d) m' => ∀ v H' β', Ext β H β' H' → RM X.K β' H' m' → RV X.K β' H' d v → D.rt v H'
  | .ok (.ex x ρ') m' => ∀ cls dd σ' H' β', Ext β H β' H' → RM X.K β' H' m' → RE X.K β' H' ρ' σ' → XR X.K x cls dd → W cls dd σ' H'
  | .ex _ _ => False
  | .stuck => False
theorem tS_of {f : MS} {D : Ends} {σ : L2.St} {H : Hp} (h : tS X W f D σ H) : ∃ ρ m β, RE X.K β H ρ σ ∧ RM X.K β H m ∧ PostS X W (f ρ m) β H D := h
theorem PostS.later {r : Re Fl} {β β1 : List Addr} {H H1 : Hp} {D : Ends} (p : PostS X W r β H D) (e : Ext β H β1 H1) : PostS X W r β1 H1 D := by
  cases r with
  | ok a m =>
    cases a with
    | nx ρ => exact fun σ' H' β' e' => p σ' H' β' (e.trans e')
    | bk ρ => exact fun σ' H' β' e' => p σ' H' β' (e.trans e')
    | ct ρ => exact fun σ' H' β' e' => p σ' H' β' (e.trans e')
    | rt d => exact fun σ' H' β' e' => p σ' H' β' (e.trans e')
    | ex x ρ => exact fun c d σ' H' β' e' => p c d σ' H' β' (e.trans e')
  | ex x m => exact p
  | stuck => exact p
/-- an expression within a statement -/
def onE {α : Type} (ρ : Env) (r : Re α) (k : α → Mem → Re Fl) : Re Fl := match r with
  | .ok a m => k a m
  | .ex x m => .ok (.ex x ρ) m
  | .stuck => .stuck
theorem PostS.on {α γ : Type} {r : Re α} {k : α → Mem → Re Fl} {β : List Addr} {H : Hp} {σ : L2.St} {ρ : Env} {D : Ends} {R : List Addr → Hp → α → γ → Prop} {Q : γ → Hp → Prop} (hE : RE X.K β H ρ σ) (hM : RM X.K β H m) (p : PostS X W (onE ρ r k) β H D)
    (h : ∀ d m1 v H1 β1, r = .ok d m1 → Ext β H β1 H1 → RM X.K β1 H1 m1 → R β1 H1 d v → PostS X W (k d m1) β1 H1 D → Q v H1) : Post X W r β H σ R Q := by
  cases r with
  | ok d m => exact fun v H' β' e M V => h d m v H' β' rfl e M V (PostS.later (r := k d m) p e)
  | ex x m => exact fun c d H' β' e M z => p c d σ H' β' e M (hE.ext hM e) z
  | stuck => exact p
/-- another end for what follows: the same but nx -/
theorem PostS.seq {r : Re Fl} {k : Env → Mem → Re Fl} {β : List Addr} {H : Hp} {D : Ends} {N : L2.St → Hp → Prop} (p : PostS X W (match r with | .ok (.nx ρ) m => k ρ m | r => r) β H D)
    (h : ∀ ρ' m' σ' H' β', r = .ok (.nx ρ') m' → Ext β H β' H' → RM X.K β' H' m' → RE X.K β' H' ρ' σ' → PostS X W (k ρ' m') β' H' D → N σ' H') : PostS X W r β H { D with nx := N } := by
  cases r with
  | ok a m =>
    cases a with
    | nx ρ => exact fun σ' H' β' e M E => h ρ m σ' H' β' rfl e M E (PostS.later (r := k ρ m) p e)
    | bk ρ => exact p
    | ct ρ => exact p
    | rt d => exact p
    | ex x ρ => exact p
  | ex x m => exact p
  | stuck => exact p
def mSkip : MS := fun ρ m => .ok (.nx ρ) m
def mSeq (f g : MS) : MS := fun ρ m => match f ρ m with
  | .ok (.nx ρ') m' => g ρ' m'
  | r => r
theorem jb_nil : JB X W [] mSkip := ⟨pss_imp pss_nil fun D σ H ⟨ρ, m, β, hE, hM, p⟩ => p σ H β Ext.refl hM hE⟩
theorem jb_cons {st : Stmt} {rest : List Stmt} {f g : MS} (h : JS X W st f) (h2 : JB X W rest g) : JB X W (st :: rest) (mSeq f g) :=
  ⟨pss_imp (pss_cons h.run h2.run) fun D σ H ⟨ρ, m, β, hE, hM, p⟩ => ⟨ρ, m, β, hE, hM, PostS.seq (k := g) (r := f ρ m) (D := D) p fun ρ' m' σ' H' β' _ e M E q => ⟨ρ', m', β', E, M, q⟩⟩⟩
theorem jb_one {st : Stmt} {f : MS} (h : JS X W st f) : JB X W [st] f := ⟨pss_one h.run⟩
theorem js_break : JS X W (.Break pos) (fun ρ m => .ok (.bk ρ) m) := ⟨ps_imp ps_break fun D σ H ⟨ρ, m, β, hE, hM, p⟩ => p σ H β Ext.refl hM hE⟩
def mRet (f : ME) : MS := fun ρ m => onE ρ (f ρ m) fun d m1 => .ok (.rt d) m1
theorem js_ret {e : Expr} {f : ME} (h : JE X W e f) : JS X W (.Return (some e) pos) (mRet f) :=
  ⟨ps_imp (ps_ret h.run) fun D σ H ⟨ρ, m, β, hE, hM, p⟩ => ⟨ρ, m, β, hE, hM, PostS.on (D := D) (k := fun d m1 => .ok (.rt d) m1) hE hM p fun d m1 v H1 β1 _ e M V q => q v H1 β1 Ext.refl M V⟩⟩
def mDrop (f : ME) : MS := fun ρ m => onE ρ (f ρ m) fun _ m1 => .ok (.nx ρ) m1
theorem js_expr {e : Expr} {f : ME} (h : JE X W e f) (hs : swapsWith e none pos.line X.env = pure false := by rfl) : JS X W (.Expr e pos) (mDrop f) :=
  ⟨ps_imp (ps_expr h.run hs) fun D σ H ⟨ρ, m, β, hE, hM, p⟩ => ⟨ρ, m, β, hE, hM, PostS.on (D := D) (k := fun _ m1 => .ok (.nx ρ) m1) (R := fun β' H' d v => RV X.K β' H' d v) hE hM p fun d m1 v H1 β1 _ e M V q => q σ H1 β1 Ext.refl M (hE.ext hM e)⟩⟩
def mIfS (c : MT) (f g : MS) : MS := fun ρ m => onE ρ (c ρ m) fun b m1 => if b = true then f ρ m1 else g ρ m1
theorem js_if {c : Expr} {a b : List Stmt} {fc : MT} {f g : MS} (hc : JT X W c fc) (ha : JB X W a f) (hb : JB X W b g) : JS X W (.If c a b pos) (mIfS fc f g) :=
  ⟨ps_imp (ps_if hc.run ha.run hb.run) fun D σ H ⟨ρ, m, β, hE, hM, p⟩ => ⟨ρ, m, β, hE, hM, PostS.on (D := D) (k := fun b m1 => if b = true then f ρ m1 else g ρ m1) (R := fun _ _ d v => d = v) hE hM p fun d m1 v H1 β1 _ e M V q => by
    subst V
    cases d with
    | true => exact ⟨ρ, m1, β1, hE.ext hM e, M, q⟩
    | false => exact ⟨ρ, m1, β1, hE.ext hM e, M, q⟩⟩⟩
abbrev MG := MV → Env → Mem → Re Env
def tG (X : Cx) (g : MG) : TG := fun v σ H Q => ∃ d ρ m β, RV X.K β H d v ∧ RE X.K β H ρ σ ∧ RM X.K β H m ∧
  match g d ρ m with
  | .ok ρ' m' => ∀ σ' H' β', Ext β H β' H' → RM X.K β' H' m' → RE X.K β' H' ρ' σ' → Q σ' H'
  | _ => False
abbrev MGs := List MV → Env → Mem → Re Env
def tGs (X : Cx) (g : MGs) : TGs := fun vs σ H Q => ∃ ds ρ m β, RVs X.K β H ds vs ∧ RE X.K β H ρ σ ∧ RM X.K β H m ∧
  match g ds ρ m with
  | .ok ρ' m' => ∀ σ' H' β', Ext β H β' H' → RM X.K β' H' m' → RE X.K β' H' ρ' σ' → Q σ' H'
  | _ => False
structure JG (X : Cx) (tg : Expr) (g : MG) : Prop where
  run : PG X tg (tG X g)
structure JGs (X : Cx) (tg : List Expr) (g : MGs) : Prop where
  run : PGs X tg (tGs X g)
theorem pg_imp {e : Expr} {t t' : TG} (h : PG X e t) (i : ∀ v σ H Q, t' v σ H Q → t v σ H Q) : PG X e t' := ⟨fun pins s σ H v u Q I r q => h.run pins s σ H v u Q I r (i v σ H Q q)⟩
theorem pgs_imp {e : List Expr} {t t' : TGs} (h : PGs X e t) (i : ∀ v σ H Q, t' v σ H Q → t v σ H Q) : PGs X e t' := ⟨fun pins s σ H v u Q I r q => h.run pins s σ H v u Q I r (i v σ H Q q)⟩
def nName (i : Nat) : MG := fun d ρ m => .ok (ρ.set i (some d)) m
theorem jg_name (i : Nat) {x : Str} (hN : X.N.Nodup) (hi : X.N[i]? = some x := by rfl) (hx : Loc X.env.scope x := by first | exact Or.inl rfl | exact Or.inr rfl) (hf : X.fn x = true ∨ X.env.scope.names.lookup x = some .local := by first | exact .inl rfl | exact .inr rfl | assumption) : JG X (.Name x pos) (nName i) :=
  ⟨pg_imp (pg_name hN hi hx hf) fun v σ H Q ⟨d, ρ, m, β, V, hE, hM, p⟩ => p _ H β Ext.refl hM (hE.set V)⟩
def nNil : MGs := fun ds ρ m => match ds with
  | [] => .ok ρ m
  | _ => .stuck
def nCons (g : MG) (k : MGs) : MGs := fun ds ρ m => match ds with
  | d :: r => match g d ρ m with
    | .ok ρ' m' => k r ρ' m'
    | _ => .stuck
  | _ => .stuck
theorem jgs_nil : JGs X [] nNil := ⟨pgs_imp pgs_nil fun v σ H Q ⟨ds, ρ, m, β, V, hE, hM, p⟩ => by
  cases V with
  | nil => exact ⟨rfl, p σ H β Ext.refl hM hE⟩
  | cons _ _ => exact p.elim⟩
theorem jgs_cons {e : Expr} {es : List Expr} {g : MG} {k : MGs} (h1 : JG X e g) (h2 : JGs X es k) (hs : (assignEach (e :: es) X.env).map (·.2) = assign e X.env :: (assignEach es X.env).map (·.2) := by rfl) : JGs X (e :: es) (nCons g k) :=
  ⟨pgs_imp (pgs_cons h1.run h2.run hs) fun v σ H Q ⟨ds, ρ, m, β, V, hE, hM, p⟩ => by
    cases V with
    | nil => exact p.elim
    | @cons d v ds vs h r =>
      refine ⟨v, vs, rfl, d, ρ, m, β, h, hE, hM, ?_⟩
      have p' : match (match g d ρ m with | .ok ρ' m' => k ds ρ' m' | _ => .stuck : Re Env) with
        | .ok ρ' m' => ∀ σ' H' β', Ext β H β' H' → RM X.K β' H' m' → RE X.K β' H' ρ' σ' → Q σ' H'
        | _ => False := p
      cases e1 : g d ρ m with
      | ok ρ1 m1 =>
        rw [e1] at p'
        intro σ1 H1 β1 x1 M1 E1
        refine ⟨ds, ρ1, m1, β1, r.ext hM x1, E1, M1, ?_⟩
        have p2 : match k ds ρ1 m1 with
          | .ok ρ' m' => ∀ σ' H' β', Ext β H β' H' → RM X.K β' H' m' → RE X.K β' H' ρ' σ' → Q σ' H'
          | _ => False := p'
        cases e2 : k ds ρ1 m1 with
        | ok ρ2 m2 => rw [e2] at p2; exact fun σ2 H2 β2 x2 => p2 σ2 H2 β2 (x1.trans x2)
        | ex x m => rw [e2] at p2; exact p2
        | stuck => rw [e2] at p2; exact p2
      | ex x m => rw [e1] at p'; exact p'.elim
      | stuck => rw [e1] at p'; exact p'.elim⟩
/-- (a, b, ..) = a list or a tuple of that length -/
def nTup (n : Nat) (k : MGs) : MG := fun d ρ m => match seqOf m d with
  | some l => if l.length = n then k l ρ m else .stuck
  | none => .stuck
theorem pg_or {e : Expr} {t t' : TG} (h : PG X e t) (h' : PG X e t') : PG X e (fun v σ H Q => t v σ H Q ∨ t' v σ H Q) := ⟨fun pins s σ H v u Q I r q => q.elim (h.run pins s σ H v u Q I r) (h'.run pins s σ H v u Q I r)⟩
theorem jg_tup {es : List Expr} {k : Nat} {g : MGs} {n : Nat} (hc : X.calm = true) (h : JGs X es g) (hn : (assignEach es X.env).length = n := by rfl) (hst : (assignEach es X.env).findIdx? (·.1) = none := by rfl) : JG X (.Tuple es k pos) (nTup n g) :=
  ⟨pg_imp (pg_or (pg_tup hc h.run hn hst) (pg_unl hc h.run hn hst)) fun v σ H Q ⟨d, ρ, m, β, V, hE, hM, p⟩ => by
    unfold nTup at p
    cases e : seqOf m d with
    | none => rw [e] at p; exact p.elim
    | some l =>
      rw [e] at p
      obtain ⟨a, vs, rfl, hs, hr⟩ := hM.seq V e
      by_cases q : l.length = n
      · simp only [q, if_true] at p
        rcases hs with hs | hs
        · exact .inr ⟨a, vs, rfl, hs, by rw [← hr.length]; exact q, l, ρ, m, β, hr, hE, hM, p⟩
        · exact .inl ⟨a, vs, rfl, hs, by rw [← hr.length]; exact q, l, ρ, m, β, hr, hE, hM, p⟩
      · simp only [q, if_false] at p⟩
def mAsg (f : ME) (g : MG) : MS := fun ρ m => onE ρ (f ρ m) fun d m1 => match g d ρ m1 with
  | .ok ρ' m' => .ok (.nx ρ') m'
  | _ => .stuck
theorem js_asg {tg e : Expr} {f : ME} {g : MG} (he : JE X W e f) (hg : JG X tg g) (hs : swapsWithSole [tg] e pos.line X.env = pure false := by rfl) (hw : swappedStores [tg] e X.env = pure none := by rfl)
    (h1 : (assignEach [tg] X.env).map (·.2) = [assign tg X.env] := by rfl) : JS X W (.Assign [tg] e pos) (mAsg f g) :=
  ⟨ps_imp (ps_asg he.run hg.run hs hw h1) fun D σ H ⟨ρ, m, β, hE, hM, p⟩ => ⟨ρ, m, β, hE, hM, PostS.on (D := D) (R := fun β' H' d v => RV X.K β' H' d v) hE hM p fun d m1 v H1 β1 _ e M V q => ⟨d, ρ, m1, β1, V, hE.ext hM e, M, by
    split at q
    · rename_i ρ' m' e1; exact q
    · exact q.elim⟩⟩⟩
theorem js_set (i : Nat) {x : Str} {e : Expr} {f : ME} {pos' : Pos} (hN : X.N.Nodup) (he : JE X W e f) (hi : X.N[i]? = some x := by rfl) (hx : Loc X.env.scope x := by first | exact Or.inl rfl | exact Or.inr rfl) (hs : swapsWith e (some (.Name x pos')) pos.line X.env = pure false := by rfl)
    (hf : X.fn x = true ∨ X.env.scope.names.lookup x = some .local := by first | exact .inl rfl | exact .inr rfl | assumption) : JS X W (.Assign [.Name x pos'] e pos) (mAsg f (nName i)) :=
  ⟨ps_imp (ps_set hN hi hx he.run hs hf) fun D σ H ⟨ρ, m, β, hE, hM, p⟩ => ⟨ρ, m, β, hE, hM, PostS.on (D := D) (R := fun β' H' d v => RV X.K β' H' d v) hE hM p fun d m1 v H1 β1 _ e M V q => q _ H1 β1 Ext.refl M ((hE.ext hM e).set V)⟩⟩
/-- o[i] = .. in a list -/
def nSubL (fo fi : ME) : MG := fun d ρ m => match fo ρ m with
  | .ok o m1 => match fi ρ m1 with
    | .ok (.int k) m2 => match mutOf m2 o with
      | some (n, l) => match ixN l.length k with
        | some j => .ok ρ (m2.set n (.lst (l.set j d)))
        | none => .stuck
      | none => .stuck
    | _ => .stuck
  | _ => .stuck
end
def spM (K : PySem.W.Frag) (n : Nat) (F : MF) : Sp := fun vs H Q E => vs.length = n ∧ ∃ ds m β, RVs K β H ds vs ∧ RM K β H m ∧
  match F ds m with
  | .ok d m' => ∀ v H' β', Ext β H β' H' → RM K β' H' m' → RV K β' H' d v → Q v H'
  | .ex x m' => ∀ cls dd H' β', Ext β H β' H' → RM K β' H' m' → XR K x cls dd → E cls dd H'
  | .stuck => False
/-- a body's end as a call's -/
def endOf (r : Re Fl) : Re MV := match r with
  | .ok (.nx _) m => .ok .non m
  | .ok (.rt d) m => .ok d m
  | .ok (.ex x _) m => .ex x m
  | _ => .stuck
def startM (n : Nat) (ds : List MV) : Env := ds.map some ++ List.replicate (n - ds.length) none
theorem RE.start {K : PySem.W.Frag} {β : List Addr} {H : Hp} {N : List Str} {ds : List MV} {vs : List V} (h : RVs K β H ds vs) : RE K β H (startM N.length ds) (L2.start N vs) := by
  unfold startM L2.start
  refine ⟨by simp [h.length], fun i d e => ?_⟩
  by_cases hi : i < ds.length
  · rw [List.getElem?_append_left (by simpa using hi), List.getElem?_map] at e
    cases q : ds[i]? with
    | none => rw [q] at e; cases e
    | some d' =>
      rw [q] at e
      cases e
      obtain ⟨v, h1, h2⟩ := h.get q
      refine ⟨v, ?_, h2⟩
      rw [List.getElem?_append_left (by rw [List.length_map, ← h.length]; exact hi), List.getElem?_map, h1] <;> rfl
  · rw [List.getElem?_append_right (by simpa using hi), List.getElem?_replicate] at e
    split at e <;> cases e
section
variable {P : Program} {w : World} {K : PySem.W.Frag} {mg : Str → Option Value} {base : Heap}
/-- f(e, ..) -/
def mCall (F : MF) (g : MA) : ME := fun ρ m => (g ρ m).bind fun ds m1 => F ds m1
end
end MI
namespace MI
open PySem L2
variable [Nms]
section
variable {X : Cx} {W : WX} {pos : Pos} {K : PySem.W.Frag} {β : List Addr} {H : Hp} {m : Mem}
/-- the items, and what must hold of the objects at every turn -/
structure IterM where
  items : List MV
  chk : Mem → Prop
structure WalkM (K : PySem.W.Frag) (β0 : List Addr) (H0 : Hp) (it : IterM) (J : It) : Prop where
  ex : ∃ (G : Hp → Prop) (Y : Nat → Hp → V → Hp → Prop), Walk J it.items.length G Y ∧ (∀ β1 H1 m1, Ext β0 H0 β1 H1 → RM K β1 H1 m1 → it.chk m1 → G H1) ∧
    (∀ i H1 x H2 β1 m1 d, Ext β0 H0 β1 H1 → RM K β1 H1 m1 → it.chk m1 → it.items[i]? = some d → Y i H1 x H2 → Ext β1 H1 β1 H2 ∧ RM K β1 H2 m1 ∧ RV K β1 H2 d x)
abbrev MI' := Env → Mem → Re IterM
def tI (X : Cx) (W : WX) (h : MI') : TI := fun σ H R => ∃ ρ m β, RE X.K β H ρ σ ∧ RM X.K β H m ∧
  match h ρ m with
  | .ok it m' => ∀ H' β' J, Ext β H β' H' → RM X.K β' H' m' → WalkM X.K β' H' it J → R J H'
  | .ex x m' => ∀ cls dd H' β', Ext β H β' H' → RM X.K β' H' m' → XR X.K x cls dd → W cls dd σ H'
  | .stuck => False
structure JI (X : Cx) (W : WX) (tg iter : Expr) (h : MI') : Prop where
  run : PI X tg iter (tI X W h)
theorem pi_imp {tg e : Expr} {t t' : TI} (h : PI X tg e t) (i : ∀ σ H R, t' σ H R → t σ H R) : PI X tg e t' := ⟨fun pins s σ H R I q => h.run pins s σ H R I (i σ H R q)⟩
theorem pi_or {tg e : Expr} {t t' : TI} (h : PI X tg e t) (h' : PI X tg e t') : PI X tg e (fun σ H R => t σ H R ∨ t' σ H R) := ⟨fun pins s σ H R I q => q.elim (h.run pins s σ H R I) (h'.run pins s σ H R I)⟩
theorem walkM_tup {a : Addr} {l : List MV} {vs : List V} (M : RM K β H m) (h : SqT K H a vs) (r : RVs K β H l vs) : WalkM K β H ⟨l, fun _ => True⟩ (Itt K a) := by
  refine ⟨fun H1 => SqT K H1 a vs, YAt vs, ?_, fun β1 H1 m1 e M1 _ => M.sqt e h, fun i H1 x H2 β1 m1 d e M1 _ hi y => ?_⟩
  · show Walk _ l.length _ _
    rw [r.length]; exact walk_tup
  · obtain ⟨rfl, hx⟩ := y
    obtain ⟨v, h1, h2⟩ := (r.ext M e).get hi
    rw [h1] at hx; cases hx
    exact ⟨Ext.refl, M1, h2⟩
theorem walkM_lst {a : Addr} {d : MV} {l : List MV} (M : RM K β H m) (rd : RV K β H d (.ref a)) (h : lstOf m d = some l) : WalkM K β H ⟨l, fun m' => lstOf m' d = some l⟩ (Itl K a) := by
  refine ⟨fun H1 => ∃ vs, SqL K H1 a vs ∧ vs.length = l.length, fun i H1 x H2 => H2 = H1 ∧ ∀ vs, SqL K H1 a vs → vs[i]? = some x, ⟨fun i H1 hi g => ?_, fun H1 g => ?_, fun i H1 x H2 _ _ y => y⟩, fun β1 H1 m1 e M1 hc => ?_, fun i H1 x H2 β1 m1 d' e M1 hc hi y => ?_⟩
  · obtain ⟨vs, g1, g2⟩ := g
    have hi' : i < vs.length := by rw [g2]; exact hi
    exact ⟨vs, vs[i], g1, by simp [hi']⟩
  · obtain ⟨vs, g1, g2⟩ := g
    exact ⟨vs, g1, by rw [g2]; exact Nat.le_refl _⟩
  · obtain ⟨a', vs, e1, h1, h2⟩ := M1.lst (rd.ext M e) hc
    cases e1
    exact ⟨vs, h1, h2.length.symm⟩
  · obtain ⟨rfl, hx⟩ := y
    obtain ⟨a', vs, e1, h1, h2⟩ := M1.lst (rd.ext M e) hc
    cases e1
    obtain ⟨v, q1, q2⟩ := h2.get hi
    have := hx vs h1
    rw [q1] at this; cases this
    exact ⟨Ext.refl, M1, q2⟩
/-- range(n), range(a, b) -/
def rngL (lo : Int) (n : Nat) : List MV := (List.range n).map fun i => MV.int (lo + (i : Nat))
theorem walkM_rng {lo : Int} {n : Nat} : WalkM K β H ⟨rngL lo n, fun _ => True⟩ (Itr lo n) := by
  refine ⟨fun _ => True, YFn fun i => .int (lo + i), ?_, fun _ _ _ _ _ _ => trivial, fun i H1 x H2 β1 m1 d e M1 _ hi y => ?_⟩
  · show Walk _ (rngL lo n).length _ _
    rw [show (rngL lo n).length = n by simp [rngL]]; exact walk_range
  · obtain ⟨rfl, rfl⟩ := y
    unfold rngL at hi
    rw [List.getElem?_map] at hi
    cases q : (List.range n)[i]? with
    | none => rw [q] at hi; cases hi
    | some j =>
      rw [q] at hi
      obtain ⟨hj, e2⟩ := List.getElem?_eq_some_iff.mp q
      simp at e2
      subst e2
      cases hi
      exact ⟨Ext.refl, M1, .int _⟩
def rngOf : List MV → Mem → Re IterM
  | [.int j], m => if -(2 ^ 62) ≤ j ∧ j < 2 ^ 62 then .ok ⟨rngL 0 j.toNat, fun _ => True⟩ m else .stuck
  | _, _ => .stuck
def mRng (g : MA) : MI' := fun ρ m => (g ρ m).bind rngOf
/-- a reading of what is walked, from there on -/
def PostI (X : Cx) (W : WX) (r : Re IterM) (β : List Addr) (H : Hp) (σ : L2.St) (R : It → Hp → Prop) : Prop :=
  match r with
  | .ok it m' => ∀ H' β' J, Ext β H β' H' → RM X.K β' H' m' → WalkM X.K β' H' it J → R J H'
  | .ex x m' => ∀ cls dd H' β', Ext β H β' H' → RM X.K β' H' m' → XR X.K x cls dd → W cls dd σ H'
  | .stuck => False
theorem ji_rng1 {tg a : Expr} {g : MA} {p : Pos} (hm : X.mg "range" = none) (ha : JA X W [a] g) (hg : Gl X "range" := by rfl) (hs : starEach [a] X.env = [(false, eval a X.env)] := by rfl) : JI X W tg (.Call (.Name "range" p) [a] [] pos) (mRng g) := by
  refine ⟨pi_imp (pi_range1 hg hm ha.run hs) fun σ H R ⟨ρ, m, β, hE, hM, p⟩ => ⟨ρ, m, β, hE, hM, ?_⟩⟩
  have p : PostI X W ((g ρ m).bind rngOf) β H σ R := p
  cases hf : g ρ m with
  | stuck => rw [hf] at p; exact p.elim
  | ex x m1 => rw [hf] at p; exact p
  | ok ds m1 =>
    rw [hf] at p
    intro vs H1 β1 e1 M1 V1
    have p : PostI X W (rngOf ds m1) β H σ R := p
    unfold rngOf at p
    split at p
    · split at p
      · rename_i hj
        cases V1 with
        | cons h r =>
          cases h; cases r
          exact ⟨_, rfl, hj.1, hj.2, p _ _ _ e1 M1 walkM_rng⟩
      · exact p.elim
    · exact p.elim
open Classical in
noncomputable def loopM (chk : Mem → Prop) (g : MG) (body : MS) : List MV → Env → Mem → Re Fl
  | [], ρ, m => if chk m then .ok (.nx ρ) m else .stuck
  | d :: r, ρ, m => if chk m then (match g d ρ m with
    | .ok ρ1 m1 => match body ρ1 m1 with
      | .ok (.nx ρ2) m2 => loopM chk g body r ρ2 m2
      | .ok (.ct ρ2) m2 => loopM chk g body r ρ2 m2
      | .ok (.bk ρ2) m2 => .ok (.nx ρ2) m2
      | q => q
    | _ => .stuck) else .stuck
noncomputable def mFor (h : MI') (g : MG) (body : MS) : MS := fun ρ m => onE ρ (h ρ m) fun it m1 => loopM it.chk g body it.items ρ m1
theorem js_for {tg iter : Expr} {body : List Stmt} {h : MI'} {g : MG} {f : MS} (hp : PassesOwn (model X.prog X.w) X.A X.env X.xe) (hc : X.calm = true) (hi : JI X W tg iter h) (hg : JG X tg g) (hb : JB X W body f)
    (hs : ∀ x, foldedSetIterable iter X.env x = pure x := by intro _; rfl) : JS X W (.For tg iter body [] pos) (mFor h g f) := by
  refine ⟨ps_imp (ps_for hp hc hi.run hg.run hb.run hs) fun D σ H q => ?_⟩
  obtain ⟨ρ, m, β, hE, hM, p⟩ := tS_of q
  refine ⟨ρ, m, β, hE, hM, ?_⟩
  unfold mFor at p
  cases hh : h ρ m with
  | stuck => rw [hh] at p; exact p.elim
  | ex x m1 => rw [hh] at p; exact fun c d H' β' e M z => p c d σ H' β' e M (hE.ext hM e) z
  | ok it m1 =>
    rw [hh] at p
    intro H1 β1 J e1 M1 w1
    obtain ⟨G, Y, wk, hG, hY⟩ := w1.ex
    have p1 : PostS X W (loopM it.chk g f it.items ρ m1) β1 H1 D := PostS.later (r := loopM it.chk g f it.items ρ m1) p e1
    refine for_it wk (fun i σ2 H2 => ∃ ρ2 m2 β2, Ext β1 H1 β2 H2 ∧ RE X.K β2 H2 ρ2 σ2 ∧ RM X.K β2 H2 m2 ∧ PostS X W (loopM it.chk g f (it.items.drop i) ρ2 m2) β2 H2 D) ⟨ρ, m1, β1, Ext.refl, hE.ext hM e1, M1, by rw [List.drop_zero]; exact p1⟩
      (fun i σ2 H2 hi ⟨ρ2, m2, β2, e2, E2, M2, p2⟩ => ?_) (fun i x σ2 H2 H3 hi ⟨ρ2, m2, β2, e2, E2, M2, p2⟩ y => ?_) (fun σ2 H2 ⟨ρ2, m2, β2, e2, E2, M2, p2⟩ => ?_)
    · refine hG β2 H2 m2 e2 M2 (Classical.byContradiction fun nc => ?_)
      cases hd : it.items.drop i with
      | nil => rw [hd] at p2; unfold loopM at p2; rw [if_neg nc] at p2; exact p2
      | cons d r => rw [hd] at p2; unfold loopM at p2; rw [if_neg nc] at p2; exact p2
    · have hdr : it.items.drop i = it.items[i] :: it.items.drop (i + 1) := List.drop_eq_getElem_cons hi
      rw [hdr] at p2
      unfold loopM at p2
      by_cases hk : it.chk m2
      · rw [if_pos hk] at p2
        obtain ⟨e3, M3, V3⟩ := hY i H2 x H3 β2 m2 it.items[i] e2 M2 hk (by simp [hi]) y
        refine ⟨it.items[i], ρ2, m2, β2, V3, E2.ext M2 e3, M3, ?_⟩
        cases hgd : g it.items[i] ρ2 m2 with
        | stuck => rw [hgd] at p2; exact p2.elim
        | ex x m => rw [hgd] at p2; exact p2.elim
        | ok ρ3 m3 =>
          rw [hgd] at p2
          intro σ4 H4 β4 e4 M4 E4
          refine ⟨ρ3, m3, β4, E4, M4, ?_⟩
          have p3 : PostS X W (match f ρ3 m3 with
            | .ok (.nx ρ2) m2 => loopM it.chk g f (it.items.drop (i + 1)) ρ2 m2
            | .ok (.ct ρ2) m2 => loopM it.chk g f (it.items.drop (i + 1)) ρ2 m2
            | .ok (.bk ρ2) m2 => .ok (.nx ρ2) m2
            | q => q) β4 H4 D := PostS.later p2 (e3.trans e4)
          have e24 : Ext β1 H1 β4 H4 := (e2.trans e3).trans e4
          cases hf : f ρ3 m3 with
          | stuck => rw [hf] at p3; exact p3
          | ex x m => rw [hf] at p3; exact p3
          | ok a m5 =>
            rw [hf] at p3
            cases a with
            | nx ρ5 => exact fun σ5 H5 β5 e5 M5 E5 => ⟨ρ5, m5, β5, e24.trans e5, E5, M5, PostS.later (r := loopM it.chk g f (it.items.drop (i + 1)) ρ5 m5) p3 e5⟩
            | ct ρ5 => exact fun σ5 H5 β5 e5 M5 E5 => ⟨ρ5, m5, β5, e24.trans e5, E5, M5, PostS.later (r := loopM it.chk g f (it.items.drop (i + 1)) ρ5 m5) p3 e5⟩
            | bk ρ5 => exact p3
            | rt d => exact p3
            | ex x ρ5 => exact p3
      · rw [if_neg hk] at p2; exact p2.elim
    · rw [List.drop_length] at p2
      unfold loopM at p2
      by_cases hk : it.chk m2
      · rw [if_pos hk] at p2; exact p2 σ2 H2 β2 Ext.refl M2 E2
      · rw [if_neg hk] at p2; exact p2.elim
def whileM (c : MT) (f : MS) : Nat → Env → Mem → Re Fl
  | 0, _, _ => .stuck
  | n + 1, ρ, m => onE ρ (c ρ m) fun b m1 => if b = true then (match f ρ m1 with
    | .ok (.nx ρ2) m2 => whileM c f n ρ2 m2
    | .ok (.ct ρ2) m2 => whileM c f n ρ2 m2
    | .ok (.bk ρ2) m2 => .ok (.nx ρ2) m2
    | q => q) else .ok (.nx ρ) m1
theorem js_while {c : Expr} {body : List Stmt} {fc : MT} {f : MS} (n : Nat) (hp : PassesOwn (model X.prog X.w) X.A X.env X.xe) (hc : JT X W c fc) (hb : JB X W body f) : JS X W (.While c body [] pos) (fun ρ m => whileM fc f n ρ m) := by
  refine ⟨ps_imp (ps_while hp hc.run hb.run) fun D σ H q => ?_⟩
  obtain ⟨ρ, m, β, hE, hM, p⟩ := tS_of q
  refine ⟨fun k σ H => ∃ ρ m β, RE X.K β H ρ σ ∧ RM X.K β H m ∧ PostS X W (whileM fc f k ρ m) β H D, ⟨n, ρ, m, β, hE, hM, p⟩, ?_⟩
  rintro k σ1 H1 ⟨ρ1, m1, β1, E1, M1, p1⟩
  cases k with
  | zero => exact p1.elim
  | succ k =>
    unfold whileM at p1
    refine ⟨ρ1, m1, β1, E1, M1, PostS.on (D := D) (R := fun _ _ d v => d = v) E1 M1 p1 fun b m2 v H2 β2 _ e2 M2 V2 p2 => ?_⟩
    subst V2
    cases b with
    | false => exact p2 σ1 H2 β2 Ext.refl M2 (E1.ext M1 e2)
    | true =>
      rw [if_pos rfl] at p2 ⊢
      refine ⟨fun σ' H' => ∃ ρ m β, RE X.K β H' ρ σ' ∧ RM X.K β H' m ∧ PostS X W (whileM fc f k ρ m) β H' D, fun σ' H' w => ⟨k, Nat.lt_succ_self k, w⟩, ρ1, m2, β2, E1.ext M1 e2, M2, ?_⟩
      cases hf : f ρ1 m2 with
      | stuck => rw [hf] at p2; exact p2
      | ex x m => rw [hf] at p2; exact p2
      | ok a m5 =>
        rw [hf] at p2
        cases a with
        | nx ρ5 => exact fun σ5 H5 β5 e5 M5 E5 => ⟨ρ5, m5, β5, E5, M5, PostS.later (r := whileM fc f k ρ5 m5) p2 e5⟩
        | ct ρ5 => exact fun σ5 H5 β5 e5 M5 E5 => ⟨ρ5, m5, β5, E5, M5, PostS.later (r := whileM fc f k ρ5 m5) p2 e5⟩
        | bk ρ5 => exact p2
        | rt d => exact p2
        | ex x ρ5 => exact p2
end
end MI
namespace MI
open PySem L2
variable [Nms]
section
variable {X : Cx} {W : WX} {pos : Pos} {K : PySem.W.Frag} {β : List Addr} {H : Hp} {m : Mem}
abbrev NG := MV → Mem → Option (List (Nat × MV))
def setE (ρ : Env) : List (Nat × MV) → Env
  | [] => ρ
  | (i, d) :: r => setE (ρ.set i (some d)) r
def setS (σ : L2.St) : List (Nat × V) → L2.St
  | [] => σ
  | (i, v) :: r => setS (σ.set i (some v)) r
inductive RAs (K : PySem.W.Frag) (β : List Addr) (H : Hp) : List (Nat × MV) → List (Nat × V) → Prop
  | nil : RAs K β H [] []
  | cons {i : Nat} {d : MV} {v : V} {ds : List (Nat × MV)} {vs : List (Nat × V)} : RV K β H d v → RAs K β H ds vs → RAs K β H ((i, d) :: ds) ((i, v) :: vs)
theorem RE.setAs : ∀ {ds : List (Nat × MV)} {vs : List (Nat × V)}, RAs K β H ds vs → ∀ {ρ : Env} {σ : L2.St}, RE K β H ρ σ → RE K β H (setE ρ ds) (setS σ vs)
  | _, _, .nil, _, _, h => h
  | _, _, .cons v r, _, _, h => RE.setAs r (h.set v)
theorem RAs.app : ∀ {ds es : List (Nat × MV)} {vs us : List (Nat × V)}, RAs K β H ds vs → RAs K β H es us → RAs K β H (ds ++ es) (vs ++ us)
  | _, _, _, _, .nil, q => q
  | _, _, _, _, .cons h r, q => .cons h (RAs.app r q)
theorem RAs.fst : ∀ {ds : List (Nat × MV)} {vs : List (Nat × V)}, RAs K β H ds vs → ds.map (·.1) = vs.map (·.1)
  | _, _, .nil => rfl
  | _, _, .cons _ r => by simp [RAs.fst r]
theorem RAs.ext (R : RM K β H m) {β' : List Addr} {H' : Hp} (e : Ext β H β' H') : ∀ {ds : List (Nat × MV)} {vs : List (Nat × V)}, RAs K β H ds vs → RAs K β' H' ds vs
  | _, _, .nil => .nil
  | _, _, .cons h r => .cons (h.ext R e) (RAs.ext R e r)
/-- what the target does, at the slots themselves -/
def tNG (X : Cx) (g : NG) : TG := fun v σ H Q => ∃ d m β, RV X.K β H d v ∧ RM X.K β H m ∧ ∃ as, g d m = some as ∧ ∀ vs, RAs X.K β H as vs → Q (setS σ vs) H
structure JNG (X : Cx) (tg : Expr) (g : NG) : Prop where
  run : PG X tg (tNG X g)
def ngName (i : Nat) : NG := fun d _ => some [(i, d)]
theorem jn_name (i : Nat) {x : Str} (hN : X.N.Nodup) (hi : X.N[i]? = some x := by rfl) (hx : Loc X.env.scope x := by first | exact Or.inl rfl | exact Or.inr rfl) (hf : X.fn x = true ∨ X.env.scope.names.lookup x = some .local := by first | exact .inl rfl | exact .inr rfl | assumption) : JNG X (.Name x pos) (ngName i) :=
  ⟨pg_imp (pg_name hN hi hx hf) fun v σ H Q ⟨d, m, β, V, hM, as, h, p⟩ => by
    unfold ngName at h
    cases h
    exact p [(i, v)] (.cons V .nil)⟩
/-- several: each a name -/
abbrev NGs := List MV → Mem → Option (List (Nat × MV))
def tNGs (X : Cx) (g : NGs) : TGs := fun us σ H Q => ∃ ds m β, RVs X.K β H ds us ∧ RM X.K β H m ∧ ∃ as, g ds m = some as ∧ ∀ vs, RAs X.K β H as vs → Q (setS σ vs) H
structure JNGs (X : Cx) (tg : List Expr) (g : NGs) : Prop where
  run : PGs X tg (tNGs X g)
def ngNil : NGs := fun ds _ => match ds with
  | [] => some []
  | _ => none
def ngCons (g : NG) (k : NGs) : NGs := fun ds m => match ds with
  | d :: r => match g d m, k r m with
    | some a, some b => some (a ++ b)
    | _, _ => none
  | _ => none
theorem setS_app {σ : L2.St} : ∀ {a b : List (Nat × V)}, setS σ (a ++ b) = setS (setS σ a) b := by
  intro a
  induction a generalizing σ with
  | nil => intro b; rfl
  | cons p r ih => intro b; obtain ⟨i, v⟩ := p; exact ih
theorem jn_nil : JNGs X [] ngNil := ⟨pgs_imp pgs_nil fun v σ H Q ⟨ds, m, β, V, hM, as, h, p⟩ => by
  cases V with
  | nil => cases h; exact ⟨rfl, p [] .nil⟩
  | cons _ _ => cases h⟩
theorem jn_cons {e : Expr} {es : List Expr} {g : NG} {k : NGs} (h1 : JNG X e g) (h2 : JNGs X es k) (hs : (assignEach (e :: es) X.env).map (·.2) = assign e X.env :: (assignEach es X.env).map (·.2) := by rfl) : JNGs X (e :: es) (ngCons g k) :=
  ⟨pgs_imp (pgs_cons h1.run h2.run hs) fun us σ H Q ⟨ds, m, β, V, hM, as, h, p⟩ => by
    cases V with
    | nil => cases h
    | @cons d v ds vs q r =>
      unfold ngCons at h
      have h : (match g d m, k ds m with | some a, some b => some (a ++ b) | _, _ => none) = some as := h
      split at h
      · rename_i a b e1 e2
        cases h
        exact ⟨v, vs, rfl, d, m, β, q, hM, a, e1, fun ws hw => ⟨ds, m, β, r, hM, b, e2, fun zs hz => by rw [← setS_app]; exact p _ (hw.app hz)⟩⟩
      · cases h⟩
def ngTup (n : Nat) (k : NGs) : NG := fun d m => match seqOf m d with
  | some l => if l.length = n then k l m else none
  | none => none
theorem jn_tup {es : List Expr} {k : Nat} {g : NGs} {n : Nat} (hc : X.calm = true) (h : JNGs X es g) (hn : (assignEach es X.env).length = n := by rfl) (hst : (assignEach es X.env).findIdx? (·.1) = none := by rfl) : JNG X (.Tuple es k pos) (ngTup n g) :=
  ⟨pg_imp (pg_or (pg_tup hc h.run hn hst) (pg_unl hc h.run hn hst)) fun v σ H Q ⟨d, m, β, V, hM, as, h, p⟩ => by
    unfold ngTup at h
    cases e : seqOf m d with
    | none => rw [e] at h; cases h
    | some l =>
      rw [e] at h
      obtain ⟨a, vs, rfl, hs, hr⟩ := hM.seq V e
      by_cases q : l.length = n
      · simp only [q, if_true] at h
        rcases hs with hs | hs
        · exact .inr ⟨a, vs, rfl, hs, by rw [← hr.length]; exact q, l, m, β, hr, hM, as, h, p⟩
        · exact .inl ⟨a, vs, rfl, hs, by rw [← hr.length]; exact q, l, m, β, hr, hM, as, h, p⟩
      · simp only [q, if_false] at h; cases h⟩
def wipeM (ρ : Env) : List Nat → Env
  | [] => ρ
  | v :: vs => (wipeM ρ vs).set v none
theorem RE.wipe {ρ : Env} {σ : L2.St} (h : RE K β H ρ σ) : ∀ vs : List Nat, RE K β H (wipeM ρ vs) (L2.wipe σ vs)
  | [] => h
  | v :: vs => by
    have ih := RE.wipe h vs
    refine ⟨by show ((wipeM ρ vs).set v none).length = ((L2.wipe σ vs).set v none).length; simp [ih.len], fun i d e => ?_⟩
    have e : ((wipeM ρ vs).set v none)[i]? = some (some d) := e
    show ∃ u, ((L2.wipe σ vs).set v none)[i]? = some (some u) ∧ _
    by_cases q : v = i
    · subst q
      rw [List.getElem?_set_self'] at e
      cases z : (wipeM ρ vs)[v]? with
      | none => rw [z] at e; cases e
      | some w => rw [z] at e; cases e
    · rw [List.getElem?_set_ne q] at e ⊢
      exact ih.at_ i d e
theorem wipe_set {σ : L2.St} {i : Nat} {o : Option V} : ∀ {vs : List Nat}, i ∈ vs → L2.wipe (σ.set i o) vs = L2.wipe σ vs := by
  intro vs
  induction vs with
  | nil => intro h; cases h
  | cons v vs ih =>
    intro h
    show (L2.wipe (σ.set i o) vs).set v none = (L2.wipe σ vs).set v none
    by_cases q : i ∈ vs
    · rw [ih q]
    · have hv : i = v := by
        rcases List.mem_cons.mp h with z | z
        · exact z
        · exact absurd z q
      subst hv
      have comm : ∀ (ws : List Nat), i ∉ ws → L2.wipe (σ.set i o) ws = (L2.wipe σ ws).set i o := by
        intro ws
        induction ws with
        | nil => intro _; rfl
        | cons w ws ih2 =>
          intro hn
          show (L2.wipe (σ.set i o) ws).set w none = ((L2.wipe σ ws).set w none).set i o
          rw [ih2 (fun z => hn (List.mem_cons_of_mem _ z)), List.set_comm]
          intro z
          exact hn (by rw [z]; exact List.mem_cons_self)
      rw [comm vs q, List.set_set]
theorem wipe_setS {vs : List Nat} : ∀ {as : List (Nat × V)} {σ : L2.St}, (∀ p ∈ as, p.1 ∈ vs) → L2.wipe (setS σ as) vs = L2.wipe σ vs
  | [], _, _ => rfl
  | (i, v) :: r, σ, h => by
    show L2.wipe (setS (σ.set i (some v)) r) vs = _
    rw [wipe_setS (as := r) fun p hp => h p (List.mem_cons_of_mem _ hp)]
    exact wipe_set (h (i, v) List.mem_cons_self)
theorem wipe_wipe {σ : L2.St} {vs : List Nat} : L2.wipe (L2.wipe σ vs) vs = L2.wipe σ vs := by
  have gen : ∀ (ws us : List Nat) (σ : L2.St), (∀ w ∈ ws, w ∈ us) → L2.wipe (L2.wipe σ ws) us = L2.wipe σ us := by
    intro ws
    induction ws with
    | nil => intro us σ _; rfl
    | cons w ws ih =>
      intro us σ h
      show L2.wipe ((L2.wipe σ ws).set w none) us = _
      rw [wipe_set (h w List.mem_cons_self)]
      exact ih us σ fun z hz => h z (List.mem_cons_of_mem _ hz)
  exact gen vs vs σ fun _ h => h
open Classical in
noncomputable def lcM (chk : Mem → Prop) (g : NG) (t : MT) (e : ME) (ρ : Env) : List MV → List MV → Mem → Re (List MV)
  | [], acc, m => if chk m then .ok acc m else .stuck
  | d :: r, acc, m => if chk m then (match g d m with
    | some as => match t (setE ρ as) m with
      | .ok true m2 => match e (setE ρ as) m2 with
        | .ok y m3 => if acc.length < sizeLine then lcM chk g t e ρ r (acc ++ [y]) m3 else .stuck
        | _ => .stuck
      | .ok false m2 => lcM chk g t e ρ r acc m2
      | _ => .stuck
    | none => .stuck) else .stuck
noncomputable def mLc (h : MI') (g : NG) (t : MT) (e : ME) (vs : List Nat) : ME := fun ρ m => (h ρ m).bind fun it m1 => (lcM it.chk g t e (wipeM ρ vs) it.items [] m1).bind fun l m2 => alloc (.lst l) m2
end
end MI
namespace MI
open PySem L2
variable [Nms]
section
variable {X : Cx} {W : WX} {pos : Pos} {K : PySem.W.Frag} {β : List Addr} {H : Hp} {m : Mem}
structure JTs (X : Cx) (W : WX) (es : List Expr) (f : MT) : Prop where
  run : PTs X es (tT X W f)
theorem pts_imp {e : List Expr} {t t' : TT} (h : PTs X e t) (i : ∀ σ H Q, t' σ H Q → t σ H Q) : PTs X e t' := ⟨fun pins s σ H Q I q => h.run pins s σ H Q I (i σ H Q q)⟩
def mYes : MT := fun _ m => .ok true m
theorem jts_nil : JTs X W [] mYes := ⟨pts_imp pts_nil fun σ H Q ⟨ρ, m, β, hE, hM, p⟩ => p.ok hM rfl⟩
theorem jts_one {c : Expr} {f : MT} (h : JT X W c f) : JTs X W [c] f := ⟨pts_one h.run⟩
/-- nothing is raised -/
abbrev W0 : WX := fun _ _ _ _ => False
abbrev blk (X : Cx) (scope : Scope) (s : Shared) (H : Hp) (C : Addr) (cl : List (Str × Addr)) (fp : List Addr) : Cx := X.blk s H scope (PySem.compEnvC scope cl C X.env) fp
mutual
theorem RV.grow {β β' : List Addr} {H H' : Hp} (hb : ∀ (n : Nat) a, β[n]? = some a → β'[n]? = some a) (ht : ∀ a xs, SqT K H a xs → SqT K H' a xs) (hk : ∀ a xs, KL K β H a xs → KL K β' H' a xs) : ∀ {d : MV} {v : V}, RV K β H d v → RV K β' H' d v
  | _, _, .non => .non
  | _, _, .bl b => .bl b
  | _, _, .int i => .int i
  | _, _, .str x => .str x
  | _, _, .tup h r => .tup (ht _ _ h) (RVs.grow hb ht hk r)
  | _, _, .ref h => .ref (hb _ _ h)
  | _, _, .kl h r => .kl (hk _ _ h) (RVs.grow hb ht hk r)
  | _, _, .clo h => .clo fun n a q => hb n a (h n a q)
theorem RVs.grow {β β' : List Addr} {H H' : Hp} (hb : ∀ (n : Nat) a, β[n]? = some a → β'[n]? = some a) (ht : ∀ a xs, SqT K H a xs → SqT K H' a xs) (hk : ∀ a xs, KL K β H a xs → KL K β' H' a xs) : ∀ {d : List MV} {v : List V}, RVs K β H d v → RVs K β' H' d v
  | _, _, .nil => .nil
  | _, _, .cons h r => .cons (RV.grow hb ht hk h) (RVs.grow hb ht hk r)
end
theorem RKs.grow {β β' : List Addr} {H H' : Hp} (hb : ∀ (n : Nat) a, β[n]? = some a → β'[n]? = some a) (ht : ∀ a xs, SqT K H a xs → SqT K H' a xs) (hk : ∀ a xs, KL K β H a xs → KL K β' H' a xs) : ∀ {d : List (Key × MV)} {v : List (Key × V)}, RKs K β H d v → RKs K β' H' d v
  | _, _, .nil => .nil
  | _, _, .cons h r => .cons (RV.grow hb ht hk h) (RKs.grow hb ht hk r)
theorem RFs.grow {β β' : List Addr} {H H' : Hp} (hb : ∀ (n : Nat) a, β[n]? = some a → β'[n]? = some a) (ht : ∀ a xs, SqT K H a xs → SqT K H' a xs) (hk : ∀ a xs, KL K β H a xs → KL K β' H' a xs) : ∀ {d : List (Str × MV)} {v : List (Str × V)}, RFs K β H d v → RFs K β' H' d v
  | _, _, .nil => .nil
  | _, _, .cons h r => .cons (RV.grow hb ht hk h) (RFs.grow hb ht hk r)
theorem RNs.grow {β β' : List Addr} {H H' : Hp} (hb : ∀ (n : Nat) a, β[n]? = some a → β'[n]? = some a) (ht : ∀ a xs, SqT K H a xs → SqT K H' a xs) (hk : ∀ a xs, KL K β H a xs → KL K β' H' a xs) : ∀ {d : List (MV × MV)} {v : List (NestedKey × Addr × Value)}, RNs K β H d v → RNs K β' H' d v
  | _, _, .nil => .nil
  | _, _, .cons h1 h2 h3 h4 h5 r => .cons h1 h2 (RV.grow hb ht hk h3) h4 (RV.grow hb ht hk h5) (RNs.grow hb ht hk r)
theorem RO.grow {β β' : List Addr} {H H' : Hp} (hb : ∀ (n : Nat) a, β[n]? = some a → β'[n]? = some a) (ht : ∀ a xs, SqT K H a xs → SqT K H' a xs) (hk : ∀ a xs, KL K β H a xs → KL K β' H' a xs) {o : MO} {a : Addr} (ha : H' a = H a) (r : RO K β H o a) : RO K β' H' o a := by
  cases o with
  | lst l => obtain ⟨vs, h, q⟩ := r; exact ⟨vs, by rw [ha]; exact h, q.grow hb ht hk⟩
  | frz l => obtain ⟨vs, ob, h, q⟩ := r; exact ⟨vs, ob, by rw [ha]; exact h, q.grow hb ht hk⟩
  | dct l => obtain ⟨vs, h, q⟩ := r; exact ⟨vs, by rw [ha]; exact h, q.grow hb ht hk⟩
  | exn x => obtain ⟨C, h1, h2⟩ := r; exact ⟨C, h1, by rw [ha]; exact h2⟩
  | own c l => obtain ⟨C, dx, vs, h1, h2, h3⟩ := r; exact ⟨C, dx, vs, h1, by rw [ha]; exact h2, h3.grow hb ht hk⟩
  | dN l => obtain ⟨xs, h, h2, q⟩ := r; exact ⟨xs, by rw [ha]; exact h, h2, q.grow hb ht hk⟩
/-- a list that the small world does not number is written -/
theorem sqt_off {H : Hp} {D a : Addr} {l l' xs : List V} (hD : H D = some (.lst l)) (h : SqT K H a xs) : SqT K (upd H D (.lst l')) a xs := by
  rcases h with (h | ⟨o, h⟩) | h
  · exact .inl (.inl (by rw [upd_ne (ne_of h hD (by intro z; cases z))]; exact h))
  · exact .inl (.inr ⟨o, by rw [upd_ne (ne_of h hD (by intro z; cases z))]; exact h⟩)
  · exact .inr h
theorem kl_off {H : Hp} {D a : Addr} {l l' xs : List V} {β : List Addr} (hD : H D = some (.lst l)) (h : KL K β H a xs) : KL K β (upd H D (.lst l')) a xs := by
  rcases h with ⟨n, o, h⟩ | h
  · exact .inl ⟨n, o, by rw [upd_ne (ne_of h hD (by intro z; cases z))]; exact h⟩
  · exact .inr h
theorem kl_adopt {H : Hp} {D a : Addr} {l xs : List V} {β : List Addr} (hD : H D = some (.lst l)) (h : KL K β H a xs) : KL K (β ++ [D]) H a xs := by
  rcases h with ⟨n, o, h⟩ | h
  · refine .inl ⟨fun z => ?_, o, h⟩
    rcases List.mem_append.mp z with z | z
    · exact n z
    · simp at z
      subst z
      rw [hD] at h
      cases h
  · exact .inr h
theorem RM.off {β : List Addr} {H : Hp} {m : Mem} (R : RM K β H m) {D : Addr} {l l' : List V} (n : D ∉ β) (hD : H D = some (.lst l)) : RM K β (upd H D (.lst l')) m :=
  ⟨R.tabs.upd ⟨fun _ z => (by cases z), fun _ z => (by unfold CodeF at z; cases z)⟩ (fun u e => (by rw [hD] at e; cases e; exact ⟨fun _ z => (by cases z), fun _ z => (by unfold CodeF at z; cases z)⟩)), R.len, R.nd, fun i o a h1 h2 => (R.ob i o a h1 h2).grow (fun _ _ h => h) (fun _ _ h => sqt_off hD h) (fun _ _ h => kl_off hD h) (upd_ne fun z => n (z ▸ List.mem_of_getElem? h2))⟩
/-- .. and gets a number -/
theorem RM.adopt {β : List Addr} {H : Hp} {m : Mem} (R : RM K β H m) {D : Addr} {l : List V} {ds : List MV} (n : D ∉ β) (hD : H D = some (.lst l)) (r : RVs K β H ds l) : RM K (β ++ [D]) H (m ++ [.lst ds]) := by
  have hb : ∀ (n : Nat) a, β[n]? = some a → (β ++ [D])[n]? = some a := fun n a h => by rw [List.getElem?_append_left (List.getElem?_eq_some_iff.mp h).1]; exact h
  refine ⟨R.tabs, by simp [R.len], ?_, fun i ob a h1 h2 => ?_⟩
  · rw [List.nodup_append]
    refine ⟨R.nd, by simp, fun a ha b hb => ?_⟩
    simp at hb
    subst hb
    intro z
    subst z
    exact n ha
  · by_cases hn : i < m.length
    · rw [List.getElem?_append_left hn] at h1
      rw [List.getElem?_append_left (by rw [R.len]; exact hn)] at h2
      exact (R.ob i ob a h1 h2).grow hb (fun _ _ h => h) (fun _ _ h => kl_adopt hD h) rfl
    · rw [List.getElem?_append_right (by omega)] at h1
      rw [List.getElem?_append_right (by rw [R.len]; omega), R.len] at h2
      cases hk : i - m.length with
      | zero =>
        rw [hk] at h1 h2
        simp at h1 h2
        subst h1; subst h2
        exact ⟨l, hD, r.grow hb (fun _ _ h => h) fun _ _ h => kl_adopt hD h⟩
      | succ k => rw [hk] at h1; simp at h1
theorem Ext.later {β β' : List Addr} {H H' : Hp} (e : Ext β H β' H') {D : Addr} {o : HO} (h : H D = none) : Ext β H β' (upd H' D o) :=
  ⟨e.pre, fun a u q n t => by rw [upd_ne (ne_of_none q h)]; exact e.old a u q n t, fun a ps q n => by rw [upd_ne (ne_of_none q h)]; exact e.tab a ps q n, e.new⟩
theorem Ext.adopt {β β' : List Addr} {H H' : Hp} (e : Ext β H β' H') {D : Addr} (h : H D = none) : Ext β H (β' ++ [D]) H' :=
  ⟨by obtain ⟨r, rfl⟩ := e.pre; exact ⟨r ++ [D], by simp⟩, e.old, e.tab, fun a q => by
    rcases List.mem_append.mp q with q | q
    · exact e.new a q
    · simp at q; subst q; exact .inr h⟩
theorem lc_imp {h : MI'} {g : NG} {t : MT} {e : ME} (own : List (Str × Nat)) (hgs : ∀ d m as, g d m = some as → ∀ p ∈ as, p.1 ∈ own.map (·.2)) {σ : L2.St} {H : Hp} {Q : VK} (q : tE X W (mLc h g t e (own.map (·.2))) σ H Q) :
    tLc (tI X W h) (tNG X g) (tT X W0 t) (tE X W0 e) (own.map (·.2)) σ H Q := by
  obtain ⟨ρ, m, β, hE, hM, p⟩ := q
  refine ⟨ρ, m, β, hE, hM, ?_⟩
  have p : Post X W ((h ρ m).bind fun it m1 => (lcM it.chk g t e (wipeM ρ (own.map (·.2))) it.items [] m1).bind fun l m2 => alloc (.lst l) m2) β H σ (fun β' H' d v => RV X.K β' H' d v) Q := p
  cases hh : h ρ m with
  | stuck => rw [hh] at p; exact p.elim
  | ex x m1 => rw [hh] at p; exact p
  | ok it m1 =>
    rw [hh] at p
    intro H1 β1 J e1 M1 w1 D hD
    have p1 : Post X W ((lcM it.chk g t e (wipeM ρ (own.map (·.2))) it.items [] m1).bind fun l m2 => alloc (.lst l) m2) β1 H1 σ (fun β' H' d v => RV X.K β' H' d v) Q := Post.later p e1
    obtain ⟨G, Y, wk, hG, hY⟩ := w1.ex
    have hE1 := hE.ext hM e1
    have old : ∀ {β2 : List Addr} {H2 : Hp}, Ext β1 H1 β2 H2 → D ∉ β2 → True := fun _ _ => trivial
    -- what holds at turn i
    let Pv : Nat → Hp → Prop := fun i H2 => ∃ m2 β2 acc accV, Ext β1 H1 β2 H2 ∧ D ∉ β2 ∧ RM X.K β2 H2 m2 ∧ H2 D = some (.lst accV) ∧ RVs X.K β2 H2 acc accV ∧
      Post X W ((lcM it.chk g t e (wipeM ρ (own.map (·.2))) (it.items.drop i) acc m2).bind fun l m2 => alloc (.lst l) m2) β1 H1 σ (fun β' H' d v => RV X.K β' H' d v) Q
    have nD : D ∉ β1 := M1.fresh hD
    refine lc_it wk Pv ⟨m1, β1, [], [], Ext.tup hD, nD, M1.tup hD, upd_same, .nil, by rw [List.drop_zero]; exact p1⟩ (fun i H2 hi ⟨m2, β2, acc, accV, e2, n2, M2, h2, r2, p2⟩ => ?_) (fun i x H2 H3 hi ⟨m2, β2, acc, accV, e2, n2, M2, h2, r2, p2⟩ y => ?_) (fun H2 ⟨m2, β2, acc, accV, e2, n2, M2, h2, r2, p2⟩ => ?_)
    · refine hG β2 H2 m2 e2 M2 (Classical.byContradiction fun nc => ?_)
      cases hd : it.items.drop i with
      | nil => rw [hd] at p2; unfold lcM at p2; rw [if_neg nc] at p2; exact p2
      | cons d r => rw [hd] at p2; unfold lcM at p2; rw [if_neg nc] at p2; exact p2
    · have hdr : it.items.drop i = it.items[i] :: it.items.drop (i + 1) := List.drop_eq_getElem_cons hi
      rw [hdr] at p2
      unfold lcM at p2
      by_cases hk : it.chk m2
      · rw [if_pos hk] at p2
        obtain ⟨e3, M3, V3⟩ := hY i H2 x H3 β2 m2 it.items[i] e2 M2 hk (by simp [hi]) y
        have h3 : H3 D = some (.lst accV) := e3.old D _ h2 n2 fun _ z => (by cases z)
        cases hgd : g it.items[i] m2 with
        | none => rw [hgd] at p2; exact p2.elim
        | some as =>
          rw [hgd] at p2
          dsimp only at p2
          refine ⟨it.items[i], m2, β2, V3, M3, as, hgd, fun ws hw => ⟨?_, ?_⟩⟩
          · rw [wipe_setS fun q hq => ?_, wipe_wipe]
            have hm : q.1 ∈ ws.map (·.1) := List.mem_map_of_mem hq
            rw [← hw.fst] at hm
            obtain ⟨q', hq', e'⟩ := List.mem_map.mp hm
            rw [← e']
            exact hgs _ _ _ hgd q' hq'
          · have hW : RE X.K β2 H3 (wipeM ρ (own.map (·.2))) (L2.wipe σ (own.map (·.2))) := ((hE1.ext M1 e2).ext M2 e3).wipe _
            have hW2 := RE.setAs (ρ := wipeM ρ (own.map (·.2))) (σ := L2.wipe σ (own.map (·.2))) hw hW
            refine ⟨_, m2, β2, hW2, M3, ?_⟩
            cases hT : t (setE (wipeM ρ (own.map (·.2))) as) m2 with
            | stuck => rw [hT] at p2; exact p2.elim
            | ex x m => rw [hT] at p2; exact p2.elim
            | ok b m4 =>
              rw [hT] at p2
              intro b' H4 β4 e4 M4 V4
              subst V4
              have h4 : H4 D = some (.lst accV) := e4.old D _ h3 n2 fun _ z => (by cases z)
              have n4 : D ∉ β4 := fun z => by
                rcases e4.new D z with z | z
                · exact n2 z
                · rw [h3] at z; cases z
              cases b with
              | false =>
                exact ⟨m4, β4, acc, accV, (e2.trans e3).trans e4, n4, M4, h4, (r2.ext M2 e3).ext M3 e4, p2⟩
              | true =>
                rw [if_pos rfl]
                refine ⟨_, m4, β4, hW2.ext M3 e4, M4, ?_⟩
                cases hv : e (setE (wipeM ρ (own.map (·.2))) as) m4 with
                | stuck => simp only [hv] at p2; exact p2.elim
                | ex x m => simp only [hv] at p2; exact p2.elim
                | ok d m5 =>
                  simp only [hv] at p2
                  intro v H5 β5 e5 M5 V5
                  have h5 : H5 D = some (.lst accV) := e5.old D _ h4 n4 fun _ z => (by cases z)
                  have n5 : D ∉ β5 := fun z => by
                    rcases e5.new D z with z | z
                    · exact n4 z
                    · rw [h4] at z; cases z
                  have r5 := ((r2.ext M2 e3).ext M3 e4).ext M4 e5
                  by_cases hl : acc.length < sizeLine
                  · rw [if_pos hl] at p2
                    -- D grows; it is no object of the small world
                    have e15 : Ext β1 H1 β5 H5 := ((e2.trans e3).trans e4).trans e5
                    exact ⟨accV, h5, by rw [← r5.length]; exact hl, m5, β5, acc ++ [d], accV ++ [v], e15.later hD, n5, M5.off n5 h5, upd_same, (r5.app (.cons V5 .nil)).grow (fun _ _ h => h) (fun _ _ h => sqt_off h5 h) (fun _ _ h => kl_off h5 h), p2⟩
                  · rw [if_neg hl] at p2; exact p2.elim
      · rw [if_neg hk] at p2; exact p2.elim
    · rw [List.drop_length] at p2
      unfold lcM at p2
      by_cases hk : it.chk m2
      · rw [if_pos hk] at p2
        exact p2 (.ref D) H2 (β2 ++ [D]) (e2.adopt hD) (M2.adopt n2 h2 r2) (.ref (by rw [← M2.len]; simp))
      · rw [if_neg hk] at p2; exact p2.elim
theorem je_lc {elt tg iter : Expr} {ifs : List Expr} {scope : Scope} {h : MI'} {g : NG} {t : MT} {e : ME} {vs : List Nat} (own : List (Str × Nat)) (hvs : own.map (·.2) = vs) (hc : X.calm = true) (hN : X.N.Nodup) (hi : JI X W tg iter h) (ok : BlkOk X.N X.env.scope scope own)
    (hg : ∀ s H C cl fp, JNG (blk X scope s H C cl fp) tg g) (ht : ∀ s H C cl fp, JTs (blk X scope s H C cl fp) W0 ifs t) (he : ∀ s H C cl fp, JE (blk X scope s H C cl fp) W0 elt e)
    (hgs : ∀ d m as, g d m = some as → ∀ p ∈ as, p.1 ∈ vs) (hs : ∀ x, foldedSetIterable iter X.env x = pure x := by intro _; rfl) :
    JE X W (.ListComp elt [⟨tg, iter, ifs, 0⟩] scope pos) (mLc h g t e vs) := by
  subst hvs
  exact ⟨pe_imp (pe_lc (g := tNG X g) (tt := tT X W0 t) (te := tE X W0 e) hc hN hi.run ok (fun s H C cl fp => (hg s H C cl fp).run) (fun s H C cl fp => (ht s H C cl fp).run) (fun s H C cl fp => (he s H C cl fp).run) hs) fun σ H Q q => lc_imp own hgs q⟩
/-- name = [..] -/
theorem js_setLc (i : Nat) {y : Str} {py spos : Pos} {elt tg iter : Expr} {ifs : List Expr} {scope : Scope} {h : MI'} {g : NG} {t : MT} {e : ME} {vs : List Nat} (own : List (Str × Nat)) (hvs : own.map (·.2) = vs) (hc : X.calm = true) (hN : X.N.Nodup) (hi : JI X W tg iter h) (ok : BlkOk X.N X.env.scope scope own)
    (hg : ∀ s H C cl fp, JNG (blk X scope s H C cl fp) tg g) (ht : ∀ s H C cl fp, JTs (blk X scope s H C cl fp) W0 ifs t) (he : ∀ s H C cl fp, JE (blk X scope s H C cl fp) W0 elt e)
    (hgs : ∀ d m as, g d m = some as → ∀ p ∈ as, p.1 ∈ vs) (hy : X.N[i]? = some y := by rfl) (hyl : X.env.scope.names.lookup y = some .local := by rfl) (hsw : swapsWith (.ListComp elt [⟨tg, iter, ifs, 0⟩] scope pos) (some (.Name y py)) spos.line X.env = pure true := by rfl) (hs : ∀ x, foldedSetIterable iter X.env x = pure x := by intro _; rfl) :
    JS X W (.Assign [.Name y py] (.ListComp elt [⟨tg, iter, ifs, 0⟩] scope pos) spos) (mAsg (mLc h g t e vs) (nName i)) := by
  subst hvs
  refine ⟨ps_imp (ps_setLc (g := tNG X g) (tt := tT X W0 t) (te := tE X W0 e) hc hN hy hyl hsw hi.run ok (fun s H C cl fp => (hg s H C cl fp).run) (fun s H C cl fp => (ht s H C cl fp).run) (fun s H C cl fp => (he s H C cl fp).run) hs) fun D σ H ⟨ρ, m, β, hE, hM, p⟩ => ?_⟩
  refine lc_imp own hgs (Q := fun x H1 => gName i x σ H1 D.nx) ⟨ρ, m, β, hE, hM, ?_⟩
  exact PostS.on (D := D) (R := fun β' H' d v => RV X.K β' H' d v) hE hM p fun d m1 v H1 β1 _ e M V q => q _ H1 β1 Ext.refl M ((hE.ext hM e).set V)
end
end MI
namespace MI
open PySem L2
variable [Nms]
section
variable {X : Cx} {W : WX} {pos : Pos} {K : PySem.W.Frag} {β : List Addr} {H : Hp} {m : Mem}
def CrM (X : Cx) (r : List V → Hp → VK → Prop) (g : List MV → Mem → Re MV) : Prop := ∀ (W : WX) (σ : L2.St) (ds : List MV) (m : Mem) (β : List Addr) (H : Hp) (vs : List V) (Q : VK), RM X.K β H m → RVs X.K β H ds vs →
  Post X W (g ds m) β H σ (fun β' H' d v => RV X.K β' H' d v) Q → r vs H Q
theorem cr_or {f : Value} {r r' : List V → Hp → VK → Prop} (h : CallR X f r) (h' : CallR X f r') : CallR X f (fun xs H Q => r xs H Q ∨ r' xs H Q) := by
  intro pins s σ H vs us Q I rv q
  rcases q with q | q
  · exact h pins s σ H vs us Q I rv q
  · exact h' pins s σ H vs us Q I rv q
theorem je_callB {id : String} {r : List V → Hp → VK → Prop} {g : List MV → Mem → Re MV} {ga : MA} {x : Str} {p : Pos} {e : Expr} {es : List Expr} (hc : CallR X (.builtin id) r) (hm : CrM X r g) (mg : X.mg x = none) (hv : bootBuiltins x = some (.builtin id)) (ha : JA X W (e :: es) ga) (hg : Gl X x := by rfl)
    (hn : x ≠ "__name__" := by decide) (hdb : (x == ("__debug__" : Str)) = false := by decide) (he : starEach (e :: es) X.env = (false, eval e X.env) :: starEach es X.env := by rfl) (hpl : (backTo pos (starEach es X.env)).any (·.1) = false := by rfl) :
    JE X W (.Call (.Name x p) (e :: es) [] pos) (mCall g ga) :=
  ⟨pe_imp (pe_callB hc hg mg hv ha.run hn hdb he hpl) fun σ H Q ⟨ρ, m, β, hE, hM, p⟩ => ⟨ρ, m, β, hE, hM, p.bind fun ds m1 vs H1 β1 _ e1 M1 V1 p1 => hm W σ ds m1 β1 H1 vs Q M1 V1 p1⟩⟩
theorem je_callTy {T : String} {r : List V → Hp → VK → Prop} {g : List MV → Mem → Re MV} {ga : MA} {x : Str} {p : Pos} {e : Expr} {es : List Expr} (hc : CallR X (.type T) r) (hm : CrM X r g) (mg : X.mg x = none) (hv : bootBuiltins x = some (.type T)) (ha : JA X W (e :: es) ga) (hg : Gl X x := by rfl)
    (hn : x ≠ "__name__" := by decide) (hdb : (x == ("__debug__" : Str)) = false := by decide) (he : starEach (e :: es) X.env = (false, eval e X.env) :: starEach es X.env := by rfl) (hpl : (backTo pos (starEach es X.env)).any (·.1) = false := by rfl) :
    JE X W (.Call (.Name x p) (e :: es) [] pos) (mCall g ga) :=
  ⟨pe_imp (pe_callTy hc hg mg hv ha.run hn hdb he hpl) fun σ H Q ⟨ρ, m, β, hE, hM, p⟩ => ⟨ρ, m, β, hE, hM, p.bind fun ds m1 vs H1 β1 _ e1 M1 V1 p1 => hm W σ ds m1 β1 H1 vs Q M1 V1 p1⟩⟩
/-- len -/
def lenM (m : Mem) : MV → Option Nat
  | .str z => if z.length ≤ sizeLine then some z.length else none
  | .ref n => match dctOf m (.ref n) with
    | some (_, l) => some l.length
    | none => (lstOf m (.ref n)).map List.length
  | d => (seqOf m d).map List.length
def gLen : List MV → Mem → Re MV
  | [d], m => match lenM m d with
    | some n => .ok (.int (n : Int)) m
    | none => .stuck
  | _, _ => .stuck
abbrev rLenA (K : PySem.W.Frag) : List V → Hp → VK → Prop := fun xs H Q => (∃ p ys, xs = [V.ref p] ∧ (SqL K H p ys ∨ SqT K H p ys) ∧ Q (V.int ys.length) H) ∨ (∃ z, xs = [V.str z] ∧ z.length ≤ sizeLine ∧ Q (V.int z.length) H) ∨ (∃ a kvs, xs = [V.ref a] ∧ H a = some (.dK kvs) ∧ Q (V.int kvs.length) H)
theorem cr_len : CallR X (.builtin "len") (rLenA X.K) := cr_or call_len_seq (cr_or call_len_str call_lenD)
theorem cm_len : CrM X (rLenA X.K) gLen := by
  intro W σ ds m β H vs Q M V p
  unfold gLen at p
  split at p
  · cases V with
    | cons h r =>
      cases r
      split at p
      · rename_i n e
        have p : Q (V.int (n : Int)) H := p.ok M (.int _)
        unfold lenM at e
        split at e
        · cases h
          split at e
          · rename_i q
            cases e
            exact .inr (.inl ⟨_, rfl, q, p⟩)
          · cases e
        · split at e
          · rename_i n' l e1
            cases e
            obtain ⟨a, vs, rfl, h1, h2, h3⟩ := M.dct h e1
            exact .inr (.inr ⟨a, vs, rfl, h2, by rw [← h3.length]; exact p⟩)
          · cases q : lstOf m (.ref ‹Nat›) with
            | none => rw [q] at e; cases e
            | some l =>
              rw [q] at e
              cases e
              obtain ⟨a, vs, rfl, h1, h2⟩ := M.lst h q
              exact .inl ⟨a, vs, rfl, .inl h1, by rw [← h2.length]; exact p⟩
        · obtain ⟨l, q, e2⟩ := Option.map_eq_some_iff.mp e
          subst e2
          obtain ⟨a, vs, rfl, h1, h2⟩ := M.seq h q
          exact .inl ⟨a, vs, rfl, h1, by rw [← h2.length]; exact p⟩
      · exact p.not_stuck
  · exact p.not_stuck
/-- int of an int, of a bool -/
def gInt : List MV → Mem → Re MV
  | [.int i], m => .ok (.int i) m
  | [.bl b], m => .ok (.int (if b = true then 1 else 0)) m
  | _, _ => .stuck
theorem cm_int : CrM X (fun xs H Q => (∃ i, xs = [V.int i] ∧ Q (V.int i) H) ∨ ∃ k, xs = [V.bl k] ∧ Q (V.int (if k = true then 1 else 0)) H) gInt := by
  intro W σ ds m β H vs Q M V p
  unfold gInt at p
  split at p
  · cases V with | cons h r => cases r; cases h; exact .inl ⟨_, rfl, p.ok M (.int _)⟩
  · cases V with | cons h r => cases r; cases h; exact .inr ⟨_, rfl, p.ok M (.int _)⟩
  · exact p.not_stuck
def gAbs : List MV → Mem → Re MV
  | [.int i], m => .ok (.int (if i < 0 then -i else i)) m
  | _, _ => .stuck
theorem cm_abs : CrM X (fun xs H Q => ∃ i, xs = [V.int i] ∧ Q (V.int (if i < 0 then -i else i)) H) gAbs := by
  intro W σ ds m β H vs Q M V p
  unfold gAbs at p
  split at p
  · cases V with | cons h r => cases r; cases h; exact ⟨_, rfl, p.ok M (.int _)⟩
  · exact p.not_stuck
/-- list(..), tuple(..) -/
def gList : List MV → Mem → Re MV
  | [d], m => match seqOf m d with
    | some l => alloc (.lst l) m
    | none => .stuck
  | _, _ => .stuck
theorem cm_list : CrM X (fun xs H Q => ∃ p ys, xs = [V.ref p] ∧ (SqL X.K H p ys ∨ SqT X.K H p ys) ∧ ∀ l, H l = none → Q (V.ref l) (upd H l (.lst ys))) gList := by
  intro W σ ds m β H vs Q M V p
  unfold gList at p
  split at p
  · cases V with
    | cons h r =>
      cases r
      split at p
      · rename_i l e
        obtain ⟨a, vs, rfl, h1, h2⟩ := M.seq h e
        exact ⟨a, vs, rfl, h1, fun q hq => p.alloc M hq ⟨_, upd_same, h2.ext M (Ext.push hq)⟩⟩
      · exact p.not_stuck
  · exact p.not_stuck
def gTuple : List MV → Mem → Re MV
  | [d], m => match seqOf m d with
    | some l => .ok (.tup l) m
    | none => .stuck
  | _, _ => .stuck
theorem cm_tuple : CrM X (fun xs H Q => ∃ p ys, xs = [V.ref p] ∧ ((SqL X.K H p ys ∧ ∀ l, H l = none → Q (V.ref l) (upd H l (.tup ys))) ∨ (SqT X.K H p ys ∧ Q (V.ref p) H))) gTuple := by
  intro W σ ds m β H vs Q M V p
  unfold gTuple at p
  split at p
  · cases V with
    | cons h r =>
      cases r
      split at p
      · rename_i l e
        obtain ⟨a, vs, rfl, h1, h2⟩ := M.seq h e
        rcases h1 with h1 | h1
        · exact ⟨a, vs, rfl, .inl ⟨h1, fun q hq => p.newtup M hq h2⟩⟩
        · exact ⟨a, vs, rfl, .inr ⟨h1, p.ok M (.tup h1 h2)⟩⟩
      · exact p.not_stuck
  · exact p.not_stuck
/-- ints alone, bools alone -/
def intsOf : List MV → Option (List Int)
  | [] => some []
  | .int i :: r => (intsOf r).map (i :: ·)
  | _ :: _ => none
def blsOf : List MV → Option (List Bool)
  | [] => some []
  | .bl i :: r => (blsOf r).map (i :: ·)
  | _ :: _ => none
def strsOf : List MV → Option (List Str)
  | [] => some []
  | .str i :: r => (strsOf r).map (i :: ·)
  | _ :: _ => none
theorem RVs.bls : ∀ {l : List MV} {vs : List V} {ns : List Bool}, RVs K β H l vs → blsOf l = some ns → vs = ns.map V.bl
  | [], _, _, .nil, h => by cases h; rfl
  | .bl i :: r, _, _, .cons (.bl _) q, h => by
    unfold blsOf at h
    cases e : blsOf r with
    | none => rw [e] at h; cases h
    | some ns => rw [e] at h; cases h; rw [RVs.bls q e]; rfl
def gSum : List MV → Mem → Re MV
  | [d], m => match (lstOf m d).bind intsOf with
    | some ns => .ok (.int ns.sum) m
    | none => .stuck
  | _, _ => .stuck
theorem lst_bls {d : MV} {ns : List Bool} (h : (lstOf m d).bind blsOf = some ns) : ∃ l, lstOf m d = some l ∧ blsOf l = some ns := by
  cases e : lstOf m d with
  | none => rw [e] at h; cases h
  | some l => rw [e] at h; exact ⟨l, rfl, h⟩
def gAll : List MV → Mem → Re MV
  | [d], m => match (lstOf m d).bind blsOf with
    | some bs => .ok (.bl (bs.all id)) m
    | none => .stuck
  | _, _ => .stuck
theorem cm_all : CrM X (rAll X.K) gAll := by
  intro W σ ds m β H vs Q M V p
  unfold gAll at p
  split at p
  · cases V with
    | cons h r =>
      cases r
      split at p
      · rename_i ns e
        obtain ⟨l, h1, h2⟩ := lst_bls e
        obtain ⟨a, vs, rfl, q1, q2⟩ := M.lst h h1
        exact ⟨a, ns, rfl, by rw [← q2.bls h2]; exact q1, p.ok M (.bl _)⟩
      · exact p.not_stuck
  · exact p.not_stuck
/-- the greatest -/
def maxL : List Int → Option Int
  | [] => none
  | a :: r => some (r.foldl (fun x y => if x < y then y else x) a)
def gMax : List MV → Mem → Re MV
  | [d], m => match ((lstOf m d).bind intsOf).bind maxL with
    | some k => .ok (.int k) m
    | none => .stuck
  | _, _ => .stuck
end
end MI
namespace MI
open PySem L2
variable [Nms]
section
variable {X : Cx} {W : WX} {pos : Pos} {K : PySem.W.Frag} {β : List Addr} {H : Hp} {m : Mem}
theorem pe_or' {e : Expr} {t t' : TE} (h : PE X e t) (h' : PE X e t') : PE X e (fun σ H Q => t σ H Q ∨ t' σ H Q) := ⟨fun pins s σ H Q I q => q.elim (h.run pins s σ H Q I) (h'.run pins s σ H Q I)⟩
theorem pt_or' {e : Expr} {t t' : TT} (h : PT X e t) (h' : PT X e t') : PT X e (fun σ H Q => t σ H Q ∨ t' σ H Q) := ⟨fun pins s σ H Q I q => q.elim (h.run pins s σ H Q I) (h'.run pins s σ H Q I)⟩
theorem ps_or' {e : Stmt} {t t' : TS} (h : PS X e t) (h' : PS X e t') : PS X e (fun D σ H => t D σ H ∨ t' D σ H) := ⟨fun pins s σ H D I q => q.elim (h.run pins s σ H D I) (h'.run pins s σ H D I)⟩
/-- one of two works, by what the small world says -/
theorem JE.or {e : Expr} {f f1 f2 : ME} (h1 : JE X W e f1) (h2 : JE X W e f2) (hh : ∀ ρ m, f ρ m = .stuck ∨ f ρ m = f1 ρ m ∨ f ρ m = f2 ρ m) : JE X W e f :=
  ⟨pe_imp (pe_or' h1.run h2.run) fun σ H Q ⟨ρ, m, β, hE, hM, p⟩ => by
    rcases hh ρ m with q | q | q
    · rw [q] at p; exact p.elim
    · rw [q] at p; exact .inl ⟨ρ, m, β, hE, hM, p⟩
    · rw [q] at p; exact .inr ⟨ρ, m, β, hE, hM, p⟩⟩
theorem JT.or {e : Expr} {f f1 f2 : MT} (h1 : JT X W e f1) (h2 : JT X W e f2) (hh : ∀ ρ m, f ρ m = .stuck ∨ f ρ m = f1 ρ m ∨ f ρ m = f2 ρ m) : JT X W e f :=
  ⟨pt_imp (pt_or' h1.run h2.run) fun σ H Q ⟨ρ, m, β, hE, hM, p⟩ => by
    rcases hh ρ m with q | q | q
    · rw [q] at p; exact p.elim
    · rw [q] at p; exact .inl ⟨ρ, m, β, hE, hM, p⟩
    · rw [q] at p; exact .inr ⟨ρ, m, β, hE, hM, p⟩⟩
theorem JS.or {e : Stmt} {f f1 f2 : MS} (h1 : JS X W e f1) (h2 : JS X W e f2) (hh : ∀ ρ m, f ρ m = .stuck ∨ f ρ m = f1 ρ m ∨ f ρ m = f2 ρ m) : JS X W e f :=
  ⟨ps_imp (ps_or' h1.run h2.run) fun D σ H ⟨ρ, m, β, hE, hM, p⟩ => by
    rcases hh ρ m with q | q | q
    · rw [q] at p; exact p.elim
    · rw [q] at p; exact .inl ⟨ρ, m, β, hE, hM, p⟩
    · rw [q] at p; exact .inr ⟨ρ, m, β, hE, hM, p⟩⟩
/-- an operation on two values, of which one of two serves -/
theorem mBin_or {g g1 g2 : MV → MV → Mem → Re MV} {fa fb : ME} (h : ∀ a b m, g a b m = g1 a b m ∨ g a b m = g2 a b m) (ρ : Env) (m : Mem) : mBin g fa fb ρ m = .stuck ∨ mBin g fa fb ρ m = mBin g1 fa fb ρ m ∨ mBin g fa fb ρ m = mBin g2 fa fb ρ m := by
  unfold mBin
  cases fa ρ m with
  | stuck => exact .inl rfl
  | ex x m1 => exact .inr (.inl rfl)
  | ok a m1 =>
    show ((fb ρ m1).bind fun b m2 => g a b m2) = .stuck ∨ ((fb ρ m1).bind fun b m2 => g a b m2) = ((fb ρ m1).bind fun b m2 => g1 a b m2) ∨ ((fb ρ m1).bind fun b m2 => g a b m2) = ((fb ρ m1).bind fun b m2 => g2 a b m2)
    cases fb ρ m1 with
    | stuck => exact .inl rfl
    | ex x m1 => exact .inr (.inl rfl)
    | ok b m2 =>
      rcases h a b m2 with q | q
      · exact .inr (.inl q)
      · exact .inr (.inr q)
/-- x[i]: a dict's, or of a list, a tuple, a text -/
def gItem (a b : MV) (m : Mem) : Re MV := match dctOf m a with
  | some _ => gDGet a b m
  | none => gIx a b m
theorem je_item {a b : Expr} {fa fb : ME} (hu : X.A.units + 1 < cLine) (ha : JE X W a fa) (hb : JE X W b fb) (hs : PlainIx b := by intro _ _; rfl) : JE X W (.Subscript a b pos) (mBin gItem fa fb) :=
  JE.or (je_dget hu ha hb hs) (je_ix ha hb hs) (mBin_or fun a b m => by
    unfold gItem
    cases dctOf m a with
    | none => exact .inr rfl
    | some q => exact .inl rfl)
def toV : MV → V
  | .non => .non
  | .bl b => .bl b
  | .int i => .int i
  | .str s => .str s
  | _ => .ref 0
def flat (d : MV) : Bool := match d with
  | .non => true
  | .bl _ => true
  | .int _ => true
  | .str _ => true
  | _ => false
theorem RV.flat {d : MV} {v : V} (h : RV K β H d v) (f : flat d = true) : v = toV d ∧ flatV v = true := by
  cases h with
  | non => exact ⟨rfl, rfl⟩
  | bl b => exact ⟨rfl, rfl⟩
  | int i => exact ⟨rfl, rfl⟩
  | str s => exact ⟨rfl, rfl⟩
  | tup _ _ => cases f
  | ref _ => cases f
  | kl _ _ => cases f
  | clo _ => cases f
theorem RVs.flat : ∀ {ds : List MV} {vs : List V}, RVs K β H ds vs → ds.all flat = true → vs = ds.map toV ∧ vs.all flatV = true
  | _, _, .nil, _ => ⟨rfl, rfl⟩
  | _, _, .cons h r, f => by
    rw [List.all_cons, Bool.and_eq_true] at f
    obtain ⟨e1, e2⟩ := h.flat f.1
    obtain ⟨e3, e4⟩ := RVs.flat r f.2
    exact ⟨by rw [e1, e3]; rfl, by rw [List.all_cons, e2, e4]; rfl⟩
/-- x in a list or a tuple of flat things -/
def gInF (neg : Bool) (a b : MV) (m : Mem) : Re MV := match seqOf m b with
  | some l => if flat a = true ∧ l.all flat = true then .ok (.bl (if neg then !inV (toV a) (l.map toV) else inV (toV a) (l.map toV))) m else .stuck
  | none => .stuck
theorem om_inF {neg : Bool} : OpM X (rIn X.K neg) (gInF neg) := by
  intro W σ d e m β H x y Q M rx ry p
  unfold gInF at p
  split at p
  · rename_i l hl
    split at p
    · rename_i hf
      obtain ⟨a, vs, rfl, hs, hr⟩ := M.seq ry hl
      obtain ⟨e1, e2⟩ := rx.flat hf.1
      obtain ⟨e3, e4⟩ := hr.flat hf.2
      exact ⟨a, vs, rfl, hs, e2, e4, by rw [e1, e3]; exact p.ok M (.bl _)⟩
    · exact p.not_stuck
  · exact p.not_stuck
/-- a sign in a text -/
def gInS (neg : Bool) (a b : MV) (m : Mem) : Re MV := match a, b with
  | .str z, .str y => match z.cps.toList with
    | [c] => .ok (.bl (if neg then !decide (c ∈ y.cps.toList) else decide (c ∈ y.cps.toList))) m
    | _ => .stuck
  | _, _ => .stuck
theorem om_inS : OpM X (fun x y H Q => ∃ (c : Nat) (z : Str), x = V.str ⟨#[c]⟩ ∧ y = V.str z ∧ Q (V.bl (decide (c ∈ z.cps.toList))) H) (gInS false) := by
  intro W σ d e m β H x y Q M rx ry p
  unfold gInS at p
  split at p
  · cases rx; cases ry
    split at p
    · rename_i c hc
      rename_i z y _
      refine ⟨c, y, ?_, rfl, p.ok M (.bl _)⟩
      cases z with
      | mk cps => simp at hc; rw [show cps = #[c] from by apply Array.toList_inj.mp; rw [hc]]
    · exact p.not_stuck
  · exact p.not_stuck
theorem om_ninS : OpM X (fun x y H Q => ∃ (c : Nat) (z : Str), x = V.str ⟨#[c]⟩ ∧ y = V.str z ∧ Q (V.bl (!decide (c ∈ z.cps.toList))) H) (gInS true) := by
  intro W σ d e m β H x y Q M rx ry p
  unfold gInS at p
  split at p
  · cases rx; cases ry
    split at p
    · rename_i c hc
      rename_i z y _
      refine ⟨c, y, ?_, rfl, p.ok M (.bl _)⟩
      cases z with
      | mk cps => simp at hc; rw [show cps = #[c] from by apply Array.toList_inj.mp; rw [hc]]
    · exact p.not_stuck
  · exact p.not_stuck
/-- data in a list -/
def gInD (neg : Bool) (a b : MV) (m : Mem) : Re MV := match dat m fuel a, dat m fuel b with
  | some d, some (.list ds) => if SeqAt.shaped d = true ∧ SeqAt.shaped (.list ds) = true then .ok (.bl (if neg then !ds.any (fun z => PyData.eqv z d) else ds.any (fun z => PyData.eqv z d))) m else .stuck
  | _, _ => .stuck
theorem om_inD : OpM X (rInD X.K) (gInD false) := by
  intro W σ d e m β H x y Q M rx ry p
  unfold gInD at p
  split at p
  · rename_i a b e1 e2
    split at p
    · rename_i h
      exact ⟨a, b, M.dat1 rx e1, M.dat1 ry e2, h.1, h.2, p.ok M (.bl _)⟩
    · exact p.not_stuck
  · exact p.not_stuck
theorem om_ninD : OpM X (rNotInD X.K) (gInD true) := by
  intro W σ d e m β H x y Q M rx ry p
  unfold gInD at p
  split at p
  · rename_i a b e1 e2
    split at p
    · rename_i h
      exact ⟨a, b, M.dat1 rx e1, M.dat1 ry e2, h.1, h.2, p.ok M (.bl _)⟩
    · exact p.not_stuck
  · exact p.not_stuck
open Classical in
noncomputable def gInA (neg : Bool) (a b : MV) (m : Mem) : Re MV :=
  if (∃ z, b = .str z) then gInS neg a b m else if (dctOf m b).isSome = true then gDIn neg a b m else if (∃ l, seqOf m b = some l ∧ flat a = true ∧ l.all flat = true) then gInF neg a b m else gInD neg a b m
theorem je_in {a b : Expr} {fa fb : ME} (hu : X.A.units + 1 < cLine) (hu2 : X.A.units + 65 < cLine) (ha : JE X W a fa) (hb : JE X W b fb) (hk : behindInMarks .In b = false := by rfl) : JE X W (.Compare a [.In] [b] pos) (mBin (gInA false) fa fb) := by
  have j1 : JE X W (.Compare a [.In] [b] pos) (mBin (gInS false) fa fb) := j_cmp op_in_sign om_inS ha hb hk
  have j2 : JE X W (.Compare a [.In] [b] pos) (mBin (gDIn false) fa fb) := je_din hu ha hb hk
  have j3 : JE X W (.Compare a [.In] [b] pos) (mBin (gInF false) fa fb) := j_cmp op_in_seq om_inF ha hb hk
  have j4 : JE X W (.Compare a [.In] [b] pos) (mBin (gInD false) fa fb) := j_cmp (op_inD hu2) om_inD ha hb hk
  classical
  have j34 : JE X W (.Compare a [.In] [b] pos) (mBin (fun a b m => if (∃ l, seqOf m b = some l ∧ flat a = true ∧ l.all flat = true) then gInF false a b m else gInD false a b m) fa fb) := JE.or j3 j4 (mBin_or fun a b m => by split <;> simp)
  have j234 : JE X W (.Compare a [.In] [b] pos) (mBin (fun a b m => if (dctOf m b).isSome = true then gDIn false a b m else if (∃ l, seqOf m b = some l ∧ flat a = true ∧ l.all flat = true) then gInF false a b m else gInD false a b m) fa fb) := JE.or j2 j34 (mBin_or fun a b m => by
    by_cases q : (dctOf m b).isSome = true
    · exact .inl (if_pos q)
    · exact .inr (if_neg q))
  exact JE.or j1 j234 (mBin_or fun a b m => by
    unfold gInA
    by_cases q : ∃ z, b = .str z
    · exact .inl (if_pos q)
    · exact .inr (if_neg q))
theorem je_nin {a b : Expr} {fa fb : ME} (hu : X.A.units + 1 < cLine) (hu2 : X.A.units + 65 < cLine) (ha : JE X W a fa) (hb : JE X W b fb) (hk : behindInMarks .NotIn b = false := by rfl) : JE X W (.Compare a [.NotIn] [b] pos) (mBin (gInA true) fa fb) := by
  have j1 : JE X W (.Compare a [.NotIn] [b] pos) (mBin (gInS true) fa fb) := j_cmp op_notIn_sign om_ninS ha hb hk
  have j2 : JE X W (.Compare a [.NotIn] [b] pos) (mBin (gDIn true) fa fb) := je_dnotin hu ha hb hk
  have j3 : JE X W (.Compare a [.NotIn] [b] pos) (mBin (gInF true) fa fb) := j_cmp op_notIn_seq om_inF ha hb hk
  have j4 : JE X W (.Compare a [.NotIn] [b] pos) (mBin (gInD true) fa fb) := j_cmp (op_notInD hu2) om_ninD ha hb hk
  classical
  have j34 : JE X W (.Compare a [.NotIn] [b] pos) (mBin (fun a b m => if (∃ l, seqOf m b = some l ∧ flat a = true ∧ l.all flat = true) then gInF true a b m else gInD true a b m) fa fb) := JE.or j3 j4 (mBin_or fun a b m => by split <;> simp)
  have j234 : JE X W (.Compare a [.NotIn] [b] pos) (mBin (fun a b m => if (dctOf m b).isSome = true then gDIn true a b m else if (∃ l, seqOf m b = some l ∧ flat a = true ∧ l.all flat = true) then gInF true a b m else gInD true a b m) fa fb) := JE.or j2 j34 (mBin_or fun a b m => by
    by_cases q : (dctOf m b).isSome = true
    · exact .inl (if_pos q)
    · exact .inr (if_neg q))
  exact JE.or j1 j234 (mBin_or fun a b m => by
    unfold gInA
    by_cases q : ∃ z, b = .str z
    · exact .inl (if_pos q)
    · exact .inr (if_neg q))
def MtMm (X : Cx) (r : V → List V → Hp → VK → Prop) (g : MV → List MV → Mem → Re MV) : Prop := ∀ (W : WX) (σ : L2.St) (d : MV) (ds : List MV) (m : Mem) (β : List Addr) (H : Hp) (x : V) (vs : List V) (Q : VK), RM X.K β H m → RV X.K β H d x → RVs X.K β H ds vs →
  Post X W (g d ds m) β H σ (fun β' H' d v => RV X.K β' H' d v) Q → r x vs H Q
def mBM (g : MV → List MV → Mem → Re MV) (fo : ME) (ga : MA) : ME := fun ρ m => (fo ρ m).bind fun d m1 => if (lstOf m1 d).isSome = true then (ga ρ m1).bind fun ds m2 => g d ds m2 else .stuck
theorem je_bmL {o e : Expr} {es : List Expr} {fo : ME} {ga : MA} {name : Str} {apos : Pos} {id : String} {r : V → List V → Hp → VK → Prop} {g : MV → List MV → Mem → Re MV} (slot : Slot "list" name id) (hty : typeOf (.builtin id) = pure (.type "method_descriptor")) (hm : MtR X id r) (hg : MtMm X r g) (ho : JE X W o fo) (ha : JA X W (e :: es) ga)
    (h1 : attributeBase o name X.env (eval o X.env) = eval o X.env := by rfl) (h2 : (((((backTo pos (starEach (e :: es) X.env)).all fun x => !x.fst) && (backToKw pos (keywordEach [] X.env)).all fun x => x.fst.isSome) && decide (((e :: es).length + ([] : List Keyword).length + if ([] : List Keyword).isEmpty = true then 0 else 1) < 30)) = true) := by rfl) (h3 : (apos.endLine == pos.line) = true := by rfl)
    (h4 : starEach (e :: es) X.env = (false, eval e X.env) :: starEach es X.env := by rfl) (h5 : (backTo pos (starEach es X.env)).any (·.1) = false := by rfl) : JE X W (.Call (.Attribute o name apos) (e :: es) [] pos) (mBM g fo ga) :=
  ⟨pe_imp (pe_bm PySem.F.plainAttrs_list slot hty hm ho.run ha.run h1 h2 h3 h4 h5) fun σ H Q ⟨ρ, m, β, hE, hM, p⟩ => ⟨ρ, m, β, hE, hM, p.bind fun d m1 x H1 β1 _ e1 M1 V1 p1 => by
    split at p1
    · rename_i q
      obtain ⟨l, hl⟩ := Option.isSome_iff_exists.mp q
      obtain ⟨a, vs, rfl, hs, _⟩ := M1.lst V1 hl
      exact ⟨.inl ⟨rfl, vs, hs⟩, ρ, m1, β1, hE.ext hM e1, M1, p1.bind fun ds m2 us H2 β2 _ e2 M2 V2 p2 => hg W σ d ds m2 β2 H2 _ us Q M2 (V1.ext M1 e2) V2 p2⟩
    · exact p1.not_stuck⟩⟩
def gAppend (d : MV) (ds : List MV) (m : Mem) : Re MV := match ds with
  | [e] => match mutOf m d with
    | some (n, l) => if l.length < sizeLine then .ok .non (m.set n (.lst (l ++ [e]))) else .stuck
    | none => .stuck
  | _ => .stuck
theorem mm_append : MtMm X rAppend gAppend := by
  intro W σ d ds m β H x vs Q M rx rv p
  unfold gAppend at p
  split at p
  · cases rv with
    | @cons _ y _ _ h r =>
      cases r
      split at p
      · rename_i n l e
        split at p
        · rename_i hl
          obtain ⟨a, us, rfl, hb, hH, hr⟩ := M.mut rx e
          have eE : Ext β H β (upd H a (.lst (us ++ [y]))) := Ext.wr (List.mem_of_getElem? hb)
          exact ⟨a, us, _, rfl, rfl, hH, by rw [← hr.length]; exact hl, p .non _ β eE (M.wr hb ⟨_, upd_same, (hr.app (.cons h .nil)).ext M eE⟩) .non⟩
        · exact p.not_stuck
      · exact p.not_stuck
  · exact p.not_stuck
def gExtend (d : MV) (ds : List MV) (m : Mem) : Re MV := match ds with
  | [e] => match mutOf m d, mutOf m e with
    | some (n, l), some (_, k) => if l.length + k.length ≤ sizeLine then .ok .non (m.set n (.lst (l ++ k))) else .stuck
    | _, _ => .stuck
  | _ => .stuck
theorem RVs.dropLast : ∀ {ds : List MV} {vs : List V}, RVs K β H ds vs → RVs K β H ds.dropLast vs.dropLast := fun {ds vs} h => by
  rw [List.dropLast_eq_take, List.dropLast_eq_take, ← h.length]
  exact h.take _
def gPop (d : MV) (ds : List MV) (m : Mem) : Re MV := match ds with
  | [] => match mutOf m d with
    | some (n, l) => match l[l.length - 1]? with
      | some e => .ok e (m.set n (.lst l.dropLast))
      | none => .stuck
    | none => .stuck
  | _ => .stuck
theorem jg_subL {o i : Expr} {fo fi : ME} (ho : JE X W0 o fo) (hi : JE X W0 i fi)
    (ha : ∀ v, assign (.Subscript o i pos) X.env v = (do
      let ov ← holding [v] (eval o X.env)
      let iv ← holding [v, ov] (eval i X.env)
      standAt pos
      holding [v, ov, iv] (setItem ov iv v)
      release [v, ov, iv] []) := by intro _; rfl) : JG X (.Subscript o i pos) (nSubL fo fi) :=
  ⟨pg_imp (pg_sub ho.run hi.run set_list ha) fun v σ H Q ⟨d, ρ, m, β, V, hE, hM, p⟩ => by
    refine ⟨ρ, m, β, hE, hM, ?_⟩
    unfold nSubL at p
    cases e1 : fo ρ m with
    | stuck => rw [e1] at p; exact p.elim
    | ex x m1 => rw [e1] at p; exact p.elim
    | ok od m1 =>
      rw [e1] at p
      dsimp only at p
      intro ov H1 β1 x1 M1 V1
      refine ⟨ρ, m1, β1, hE.ext hM x1, M1, ?_⟩
      cases e2 : fi ρ m1 with
      | stuck => rw [e2] at p; exact p.elim
      | ex x m1 => rw [e2] at p; exact p.elim
      | ok id m2 =>
        rw [e2] at p
        intro iv H2 β2 x2 M2 V2
        cases id with
        | int k =>
          dsimp only at p
          cases V2
          cases e3 : mutOf m2 od with
          | none => rw [e3] at p; exact p.elim
          | some nl =>
            obtain ⟨n, l⟩ := nl
            rw [e3] at p
            dsimp only at p
            obtain ⟨a, us, rfl, hb, hH, hr⟩ := M2.mut (V1.ext M1 x2) e3
            cases e4 : ixN l.length k with
            | none => rw [e4] at p; exact p.elim
            | some j =>
              rw [e4] at p
              have eE : Ext β2 H2 β2 (upd H2 a (.lst (us.set j v))) := Ext.wr (List.mem_of_getElem? hb)
              refine ⟨a, us, k, j, rfl, rfl, hH, by rw [← hr.length]; exact e4, p σ _ β2 ((x1.trans x2).trans eE) (M2.wr hb ⟨_, upd_same, (hr.set j ((V.ext hM x1).ext M1 x2)).ext M2 eE⟩) (((hE.ext hM x1).ext M1 x2).ext M2 eE)⟩
        | _ => exact p.elim⟩
/-- d[k] = v in a dict -/
def mDPut (fd fk fv : ME) : MS := fun ρ m => onE ρ (fv ρ m) fun v m1 => onE ρ (fd ρ m1) fun d m2 => onE ρ (fk ρ m2) fun k m3 => match dctOf m3 d, keyOf k with
  | some (n, l), some q => if l.length < sizeLine then .ok (.nx ρ) (m3.set n (.dct (putM l q v))) else .stuck
  | _, _ => .stuck
theorem js_dput {o i value : Expr} {pos' : Pos} {fo fi fv : ME} (hu : X.A.units + 1 < cLine) (ho : JE X W o fo) (hi : JE X W i fi) (hv : JE X W value fv) (hs : swapsWith value (some (.Subscript o i pos')) pos.line X.env = pure false := by rfl) : JS X W (.Assign [.Subscript o i pos'] value pos) (mDPut fo fi fv) :=
  ⟨ps_imp (ps_dput hu ho.run hi.run hv.run hs) fun D σ H ⟨ρ, m, β, hE, hM, p⟩ => ⟨ρ, m, β, hE, hM, PostS.on (D := D) (R := fun β' H' d v => RV X.K β' H' d v) hE hM p fun d1 m1 v1 H1 β1 _ e1 M1 V1 p1 => ⟨ρ, m1, β1, hE.ext hM e1, M1, PostS.on (D := D) (R := fun β' H' d v => RV X.K β' H' d v) (hE.ext hM e1) M1 p1 fun d2 m2 v2 H2 β2 _ e2 M2 V2 p2 => ⟨ρ, m2, β2, (hE.ext hM e1).ext M1 e2, M2,
    PostS.on (D := D) (R := fun β' H' d v => RV X.K β' H' d v) ((hE.ext hM e1).ext M1 e2) M2 p2 fun d3 m3 v3 H3 β3 _ e3 M3 V3 p3 => by
      split at p3
      · rename_i n l q h1 h2
        split at p3
        · rename_i hl
          obtain ⟨a, us, rfl, hb, hH, hr⟩ := M3.dct (V2.ext M2 e3) h1
          have hk := keyOf_some V3 h2
          subst hk
          have eE : Ext β3 H3 β3 (upd H3 a (.dK (putK us q v1))) := Ext.wr (List.mem_of_getElem? hb)
          exact ⟨a, _, rfl, .inl ⟨us, q, hH, rfl, by rw [← hr.length]; exact hl, rfl⟩, p3 σ _ β3 eE (M3.wr hb ⟨_, upd_same, (hr.put ((V1.ext M1 e2).ext M2 e3)).ext M3 eE⟩) ((((hE.ext hM e1).ext M1 e2).ext M2 e3).ext M3 eE)⟩
        · exact p3.elim
      · exact p3.elim⟩⟩⟩⟩
end
end MI
namespace MI
open PySem L2
variable [Nms]
section
variable {X : Cx} {W : WX} {pos : Pos} {K : PySem.W.Frag} {β : List Addr} {H : Hp} {m : Mem}
theorem OpM.or {r1 r2 : R2} {g g1 g2 : MV → MV → Mem → Re MV} (h1 : OpM X r1 g1) (h2 : OpM X r2 g2) (h : ∀ a b m, g a b m = .stuck ∨ g a b m = g1 a b m ∨ g a b m = g2 a b m) : OpM X (fun x y H Q => r1 x y H Q ∨ r2 x y H Q) g := by
  intro W σ d e m β H x y Q M rx ry p
  rcases h d e m with q | q | q
  · rw [q] at p; exact p.elim
  · rw [q] at p; exact .inl (h1 W σ d e m β H x y Q M rx ry p)
  · rw [q] at p; exact .inr (h2 W σ d e m β H x y Q M rx ry p)
/-- equal scalars -/
def eqS : MV → MV → Option Bool
  | .non, .non => some true
  | .non, .int _ => some false
  | .int _, .non => some false
  | .non, .bl _ => some false
  | .bl _, .non => some false
  | .non, .str _ => some false
  | .str _, .non => some false
  | .int i, .int j => some (decide (i = j))
  | .bl i, .bl j => some (decide (i = j))
  | .str i, .str j => some (decide (i = j))
  | .int _, .str _ => some false
  | .str _, .int _ => some false
  | .bl _, .str _ => some false
  | .str _, .bl _ => some false
  | _, _ => none
def gEqS (neg : Bool) (a b : MV) (m : Mem) : Re MV := match eqS a b with
  | some k => .ok (.bl (if neg then !k else k)) m
  | none => .stuck
theorem eqS_scal {a b : MV} {k : Bool} {x y : V} (h : eqS a b = some k) (rx : RV K β H a x) (ry : RV K β H b y) : scal x y = true ∧ decide (x = y) = k := by
  cases rx <;> cases ry <;> first | (cases h; exact ⟨rfl, by simp⟩) | (cases h)
theorem om_eqS : OpM X rEq (gEqS false) := by
  intro W σ d e m β H x y Q M rx ry p
  unfold gEqS at p
  split at p
  · rename_i k hk
    obtain ⟨h1, h2⟩ := eqS_scal hk rx ry
    exact ⟨h1, by rw [h2]; exact p.ok M (.bl _)⟩
  · exact p.not_stuck
theorem om_neS : OpM X rNe (gEqS true) := by
  intro W σ d e m β H x y Q M rx ry p
  unfold gEqS at p
  split at p
  · rename_i k hk
    obtain ⟨h1, h2⟩ := eqS_scal hk rx ry
    exact ⟨h1, by rw [h2]; exact p.ok M (.bl _)⟩
  · exact p.not_stuck
def gEqA (neg : Bool) (a b : MV) (m : Mem) : Re MV := match eqS a b with
  | some _ => gEqS neg a b m
  | none => gEq neg a b m
abbrev rEqAll (K : PySem.W.Frag) : R2 := fun x y H Q => rEq x y H Q ∨ rEqD K x y H Q
abbrev rNeAll (K : PySem.W.Frag) : R2 := fun x y H Q => rNe x y H Q ∨ rNeD K x y H Q
theorem om_eqA : OpM X (rEqAll X.K) (gEqA false) := om_eqS.or om_eq fun a b m => by
  unfold gEqA
  cases eqS a b with
  | none => exact .inr (.inr rfl)
  | some k => exact .inr (.inl rfl)
theorem om_neA : OpM X (rNeAll X.K) (gEqA true) := om_neS.or om_ne fun a b m => by
  unfold gEqA
  cases eqS a b with
  | none => exact .inr (.inr rfl)
  | some k => exact .inr (.inl rfl)
theorem op_eqA (hu : X.A.units + 64 < cLine) : OpR X (compareOp .Eq) (rEqAll X.K) := OpR.or op_eq (op_eqD hu)
theorem op_neA (hu : X.A.units + 64 < cLine) : OpR X (compareOp .NotEq) (rNeAll X.K) := OpR.or op_ne (op_neD hu)
theorem hu1 {k : Nat} (hr : Room k X.A) : X.A.units + 1 < cLine := hu_of hr
theorem hu64 {k : Nat} (hr : Room k X.A) : X.A.units + 64 < cLine := by have := hr.un; omega
theorem hu65 {k : Nat} (hr : Room k X.A) : X.A.units + 65 < cLine := by have := hr.un; omega
theorem mB_or {g g1 g2 : MV → MV → Mem → Re MV} {fa fb : ME} (h : ∀ a b m, g a b m = g1 a b m ∨ g a b m = g2 a b m) (ρ : Env) (m : Mem) : mB (mBin g fa fb) ρ m = .stuck ∨ mB (mBin g fa fb) ρ m = mB (mBin g1 fa fb) ρ m ∨ mB (mBin g fa fb) ρ m = mB (mBin g2 fa fb) ρ m := by
  unfold mB
  rcases mBin_or (fa := fa) (fb := fb) h ρ m with q | q | q
  · rw [q]; exact .inl rfl
  · rw [q]; exact .inr (.inl rfl)
  · rw [q]; exact .inr (.inr rfl)
theorem jt_of {op : CmpOp} {a b : Expr} {t : TE} {f : ME} (h : PC X op a b t) (hk : behindInMarks op b = false) (i : ∀ σ H (Q : VK), tE X W f σ H Q → t σ H Q) : JT X W (.Compare a [op] [b] pos) (mB f) :=
  ⟨pt_imp (pt_cmp h hk) fun σ H Q ⟨ρ, m, β, hE, hM, p⟩ => i σ H _ ⟨ρ, m, β, hE, hM, by
    unfold mB at p
    exact p.bind fun d m1 x H1 β1 _ e1 M1 V1 p1 => by
      split at p1
      · cases V1; exact ⟨_, rfl, p1.ok M1 rfl⟩
      · exact p1.not_stuck⟩⟩
theorem tdin {neg : Bool} {fa fb : ME} {σ : L2.St} {H : Hp} {Q : VK} (h : tE X W (mBin (gDIn neg) fa fb) σ H Q) : (fun σ H (Q : VK) => tE X W fa σ H fun y H1 => tE X W fb σ H1 fun x H2 => ∃ a o, x = V.ref a ∧ DGet H2 a y o ∧ Q (.bl (if neg then !o.isSome else o.isSome)) H2) σ H Q := by
  obtain ⟨ρ, m, β, hE, hM, p⟩ := h
  exact ⟨ρ, m, β, hE, hM, p.bind fun d m1 x H1 β1 _ e1 M1 V1 p1 => ⟨ρ, m1, β1, hE.ext hM e1, M1, p1.bind fun d2 m2 y H2 β2 _ e2 M2 V2 p2 => by
    unfold gDIn at p2
    split at p2
    · rename_i n l q h1 h2
      obtain ⟨a, vs, rfl, hb, hH, hr⟩ := M2.dct V2 h1
      have hy := keyOf_some (V1.ext M1 e2) h2
      subst hy
      exact ⟨a, valV vs q, rfl, .inl ⟨vs, q, .inl hH, rfl, rfl⟩, p2.ok M2 (by rw [hr.isSome]; exact .bl _)⟩
    · exact p2.not_stuck⟩⟩
theorem jt_in {a b : Expr} {fa fb : ME} (hu : X.A.units + 1 < cLine) (hu2 : X.A.units + 65 < cLine) (ha : JE X W a fa) (hb : JE X W b fb) (hk : behindInMarks .In b = false := by rfl) : JT X W (.Compare a [.In] [b] pos) (mB (mBin (gInA false) fa fb)) := by
  have j1 : JT X W (.Compare a [.In] [b] pos) (mB (mBin (gInS false) fa fb)) := jt_cmp op_in_sign om_inS ha hb hk
  have j2 : JT X W (.Compare a [.In] [b] pos) (mB (mBin (gDIn false) fa fb)) := jt_of (pc_din hu ha.run hb.run) hk fun σ H Q h => tdin h
  have j3 : JT X W (.Compare a [.In] [b] pos) (mB (mBin (gInF false) fa fb)) := jt_cmp op_in_seq om_inF ha hb hk
  have j4 : JT X W (.Compare a [.In] [b] pos) (mB (mBin (gInD false) fa fb)) := jt_cmp (op_inD hu2) om_inD ha hb hk
  classical
  have j34 : JT X W (.Compare a [.In] [b] pos) (mB (mBin (fun a b m => if (∃ l, seqOf m b = some l ∧ flat a = true ∧ l.all flat = true) then gInF false a b m else gInD false a b m) fa fb)) := JT.or j3 j4 (mB_or fun a b m => by split <;> simp)
  have j234 : JT X W (.Compare a [.In] [b] pos) (mB (mBin (fun a b m => if (dctOf m b).isSome = true then gDIn false a b m else if (∃ l, seqOf m b = some l ∧ flat a = true ∧ l.all flat = true) then gInF false a b m else gInD false a b m) fa fb)) := JT.or j2 j34 (mB_or fun a b m => by
    by_cases q : (dctOf m b).isSome = true
    · exact .inl (if_pos q)
    · exact .inr (if_neg q))
  exact JT.or j1 j234 (mB_or fun a b m => by
    unfold gInA
    by_cases q : ∃ z, b = .str z
    · exact .inl (if_pos q)
    · exact .inr (if_neg q))
def mStore (fo fi fv : ME) : MS := fun ρ m => onE ρ (fv ρ m) fun v m1 => onE ρ (fo ρ m1) fun d m2 => match dctOf m2 d with
  | some _ => onE ρ (fi ρ m2) fun k m3 => match dctOf m3 d, keyOf k with
    | some (n, l), some q => if l.length < sizeLine then .ok (.nx ρ) (m3.set n (.dct (putM l q v))) else .stuck
    | _, _ => .stuck
  | none => match fi ρ m2 with
    | .ok (.int k) m3 => match mutOf m3 d with
      | some (n, l) => match ixN l.length k with
        | some j => .ok (.nx ρ) (m3.set n (.lst (l.set j v)))
        | none => .stuck
      | none => .stuck
    | _ => .stuck
theorem js_store {o i value : Expr} {pos' : Pos} {fo fi fv : ME} (hu : X.A.units + 1 < cLine) (ho : JE X W o fo) (hi : JE X W i fi) (ho0 : JE X W0 o fo) (hi0 : JE X W0 i fi) (hv : JE X W value fv)
    (hs : swapsWith value (some (.Subscript o i pos')) pos.line X.env = pure false := by rfl) (hs1 : swapsWithSole [.Subscript o i pos'] value pos.line X.env = pure false := by rfl) (hw : swappedStores [.Subscript o i pos'] value X.env = pure none := by rfl)
    (h1 : (assignEach [.Subscript o i pos'] X.env).map (·.2) = [assign (.Subscript o i pos') X.env] := by rfl)
    (ha : ∀ v, assign (.Subscript o i pos') X.env v = (do
      let ov ← holding [v] (eval o X.env)
      let iv ← holding [v, ov] (eval i X.env)
      standAt pos'
      holding [v, ov, iv] (setItem ov iv v)
      release [v, ov, iv] []) := by intro _; rfl) : JS X W (.Assign [.Subscript o i pos'] value pos) (mStore fo fi fv) := by
  have j1 : JS X W (.Assign [.Subscript o i pos'] value pos) (mDPut fo fi fv) := js_dput hu ho hi hv hs
  have j2 : JS X W (.Assign [.Subscript o i pos'] value pos) (mAsg fv (nSubL fo fi)) := js_asg hv (jg_subL ho0 hi0 ha) hs1 hw h1
  refine JS.or j1 j2 fun ρ m => ?_
  unfold mStore mDPut mAsg nSubL
  cases fv ρ m with
  | stuck => exact .inl rfl
  | ex x m1 => exact .inr (.inl rfl)
  | ok v m1 =>
    dsimp only [onE]
    cases fo ρ m1 with
    | stuck => exact .inl rfl
    | ex x m2 => exact .inr (.inl rfl)
    | ok d m2 =>
      dsimp only
      cases hd : dctOf m2 d with
      | some q => exact .inr (.inl rfl)
      | none =>
        dsimp only
        cases fi ρ m2 with
        | stuck => exact .inl rfl
        | ex x m3 => exact .inl rfl
        | ok k m3 =>
          cases k with
          | int k =>
            dsimp only
            cases mutOf m3 d with
            | none => exact .inl rfl
            | some nl =>
              obtain ⟨n, l⟩ := nl
              dsimp only
              cases ixN l.length k with
              | none => exact .inl rfl
              | some j => exact .inr (.inr rfl)
          | _ => exact .inl rfl
def mAug (i : Nat) (g : MV → MV → Mem → Re MV) (f : ME) : MS := fun ρ m => match ρ[i]? with
  | some (some d) => onE ρ (f ρ m) fun e m1 => onE ρ (g d e m1) fun r m2 => .ok (.nx (ρ.set i (some r))) m2
  | _ => .stuck
end
end MI
namespace MI
open PySem L2
variable [Nms]
section
variable {X : Cx} {W : WX} {pos : Pos} {K : PySem.W.Frag} {β : List Addr} {H : Hp} {m : Mem}
abbrev gSub := gI0 fun i j => MV.int (i - j)
abbrev gMod := gII (fun _ j => 0 < j) fun i j => MV.int (i % j)
abbrev gDiv := gII CDivW fun i j => MV.int (i / j)
abbrev gPow := gII CPowW fun i j => MV.int (i ^ j.toNat)
abbrev gLt := gI0 fun i j => MV.bl (decide (i < j))
abbrev gGt := gI0 fun i j => MV.bl (decide (j < i))
abbrev gGe := gI0 fun i j => MV.bl (decide (j ≤ i))
/-- -x -/
def mNeg (f : ME) : ME := fun ρ m => (f ρ m).bind fun d m1 => match d with
  | .int i => .ok (.int (-i)) m1
  | _ => .stuck
/-- a < b < c -/
def mChain (g g' : MV → MV → Mem → Re MV) (fa fb fc : ME) : ME := fun ρ m => (fa ρ m).bind fun a m1 => (fb ρ m1).bind fun b m2 => (g a b m2).bind fun r m3 => match r with
  | .bl true => (fc ρ m3).bind fun c m4 => g' b c m4
  | .bl false => .ok (.bl false) m3
  | _ => .stuck
theorem t_chain {r r' : R2} {g g' : MV → MV → Mem → Re MV} {fa fb fc : ME} (hm : OpM X r g) (hm' : OpM X r' g') {σ : L2.St} {H : Hp} {Q : VK} (h : tE X W (mChain g g' fa fb fc) σ H Q) : tChain r r' (tE X W fa) (tE X W fb) (tE X W fc) σ H Q := by
  obtain ⟨ρ, m, β, hE, hM, p⟩ := h
  refine ⟨ρ, m, β, hE, hM, p.bind fun d m1 x H1 β1 _ e1 M1 V1 p1 => ⟨ρ, m1, β1, hE.ext hM e1, M1, p1.bind fun d2 m2 y H2 β2 _ e2 M2 V2 p2 => hm W σ d d2 m2 β2 H2 x y _ M2 (V1.ext M1 e2) V2 (p2.bind fun d3 m3 z H3 β3 _ e3 M3 V3 p3 => ?_)⟩⟩
  split at p3
  · cases V3
    exact ⟨true, rfl, by rw [if_pos rfl]; exact ⟨ρ, m3, β3, ((hE.ext hM e1).ext M1 e2).ext M2 e3, M3, p3.bind fun d4 m4 u H4 β4 _ e4 M4 V4 p4 => hm' W σ d2 d4 m4 β4 H4 y u Q M4 ((V2.ext M2 e3).ext M3 e4) V4 p4⟩⟩
  · cases V3
    exact ⟨false, rfl, by rw [if_neg Bool.false_ne_true]; exact p3.ok M3 (.bl _)⟩
  · exact p3.not_stuck
theorem je_chain {op op' : CmpOp} {r r' : R2} {g g' : MV → MV → Mem → Re MV} {a b c : Expr} {fa fb fc : ME} (ho : OpR X (compareOp op) r) (ho' : OpR X (compareOp op') r') (hm : OpM X r g) (hm' : OpM X r' g') (ha : JE X W a fa) (hb : JE X W b fb) (hc : JE X W c fc) (hk : lastMarks [op, op'] [b, c] = false := by rfl) :
    JE X W (.Compare a [op, op'] [b, c] pos) (mChain g g' fa fb fc) := ⟨pe_imp (pe_chain ho ho' ha.run hb.run hc.run hk) fun σ H Q h => t_chain hm hm' h⟩
theorem jt_chain {op op' : CmpOp} {r r' : R2} {g g' : MV → MV → Mem → Re MV} {a b c : Expr} {fa fb fc : ME} (ho : OpR X (compareOp op) r) (ho' : OpR X (compareOp op') r') (hm : OpM X r g) (hm' : OpM X r' g') (ha : JE X W a fa) (hb : JE X W b fb) (hc : JE X W c fc) (hk : lastMarks [op, op'] [b, c] = false := by rfl) :
    JT X W (.Compare a [op, op'] [b, c] pos) (mB (mChain g g' fa fb fc)) :=
  ⟨pt_imp (pt_chain ho ho' ha.run hb.run hc.run hk) fun σ H Q ⟨ρ, m, β, hE, hM, p⟩ => t_chain hm hm' ⟨ρ, m, β, hE, hM, by
    unfold mB at p
    exact p.bind fun d m1 x H1 β1 _ e1 M1 V1 p1 => by
      split at p1
      · cases V1; exact ⟨_, rfl, p1.ok M1 rfl⟩
      · exact p1.not_stuck⟩⟩
theorem mNil_len : ∀ ρ m ds m1, mNil ρ m = .ok ds m1 → ds.length = 0 := fun _ _ _ _ h => by cases h; rfl
theorem mCons_len {f : ME} {g : MA} {n : Nat} (h : ∀ ρ m ds m1, g ρ m = .ok ds m1 → ds.length = n) : ∀ ρ m ds m1, mCons f g ρ m = .ok ds m1 → ds.length = n + 1 := fun ρ m ds m1 e => by
  unfold mCons at e
  cases e1 : f ρ m with
  | stuck => rw [e1] at e; cases e
  | ex x m2 => rw [e1] at e; cases e
  | ok d m2 =>
    rw [e1] at e
    have e : ((g ρ m2).bind fun ds m2 => .ok (d :: ds) m2) = .ok ds m1 := e
    cases e2 : g ρ m2 with
    | stuck => rw [e2] at e; cases e
    | ex x m3 => rw [e2] at e; cases e
    | ok es m3 =>
      rw [e2] at e
      cases e
      rw [List.length_cons, h ρ m2 es _ e2]
def mRetN : MS := fun _ m => .ok (.rt .non) m
def gMin : List MV → Mem → Re MV
  | [.int i, .int j], m => .ok (.int (if j < i then j else i)) m
  | [.int i, .int j, .int k], m => .ok (.int (if k < (if j < i then j else i) then k else (if j < i then j else i))) m
  | _, _ => .stuck
abbrev gAddI := gI0 fun i j => MV.int (i + j)
/-- more turns than any while here takes -/
def turns : Nat := 1000000
theorem hgs_name {i : Nat} : ∀ d m as, ngName i d m = some as → ∀ p ∈ as, p.1 ∈ [i] := fun d m as h p hp => by
  unfold ngName at h
  cases h
  simp at hp
  subst hp
  simp
end
end MI
namespace MI
open PySem L2
variable [Nms]
section
variable {X : Cx} {W : WX} {pos : Pos} {K : PySem.W.Frag} {β : List Addr} {H : Hp} {m : Mem}
def tyO : Option MO → Option String
  | some (.lst _) => some "list"
  | some (.frz _) => some "list"
  | some (.dct _) => some "dict"
  | _ => none
def tyM (m : Mem) : MV → Option String
  | .non => some "NoneType"
  | .bl _ => some "bool"
  | .int _ => some "int"
  | .str _ => some "str"
  | .tup _ => some "tuple"
  | .ref n => tyO m[n]?
  | .kl _ => none
  | .clo _ _ => none
theorem RM.ty (R : RM K β H m) {d : MV} {v : V} {t : String} (r : RV K β H d v) (h : tyM m d = some t) : TyX K H v (.type t) := by
  cases r with
  | non => cases h; exact .base .non
  | bl k => cases h; exact .base (.bl k)
  | int i => cases h; exact .base (.int i)
  | str x => cases h; exact .base (.str x)
  | tup h1 h2 =>
    cases h
    rcases h1 with (h1 | ⟨o, h1⟩) | ⟨o, its, n, h1, h2, _⟩
    · exact .base (.tup h1)
    · exact .fTuple h1
    · exact .kTuple h1 h2
  | @ref n a hb =>
    have h' : tyO m[n]? = some t := h
    cases e : m[n]? with
    | none => rw [e] at h'; cases h'
    | some o =>
      rw [e] at h'
      have q := R.ob n o a e hb
      cases o with
      | lst l => cases h'; obtain ⟨vs, q1, q2⟩ := q; exact .base (.lst q1)
      | frz l => cases h'; obtain ⟨vs, ob, q1, q2⟩ := q; exact .base (.frz q1)
      | dct l => cases h'; obtain ⟨vs, q1, q2⟩ := q; exact .base (.dK q1)
      | exn x => cases h'
      | own c l => cases h'
      | dN l => cases h'
  | kl _ _ => cases h
  | clo _ => cases h
def mIsi (T : String) (f : ME) : ME := fun ρ m => (f ρ m).bind fun d m1 => match (tyM m1 d).bind fun t => kitB t T with
  | some b => .ok (.bl b) m1
  | none => .stuck
theorem je_isi (T : String) {e : Expr} {x : Str} {p q : Pos} {f : ME} (h : JE X W e f) (hm : X.mg "isinstance" = none) (hmt : X.mg x = none) (hv : bootBuiltins x = some (.type T)) (hg : Gl X "isinstance" := by rfl) (hgt : Gl X x := by rfl) (hn : x ≠ "__name__" := by decide) (hd : (x == ("__debug__" : Str)) = false := by decide)
    (he : starEach (e :: [.Name x q]) X.env = (false, eval e X.env) :: starEach [.Name x q] X.env := by rfl) (hpl : (backTo pos (starEach [.Name x q] X.env)).any (·.1) = false := by rfl) : JE X W (.Call (.Name "isinstance" p) [e, .Name x q] [] pos) (mIsi T f) :=
  ⟨pe_imp (pe_callB call_isi hg hm (by decide +kernel) (pa_cons h.run (pa_cons (pe_bltn (v := .ty T) hgt hmt hv rfl hn hd) pa_nil) he) (by decide) (by decide) he hpl) fun σ H Q ⟨ρ, m, β, hE, hM, p⟩ => ⟨ρ, m, β, hE, hM, p.bind fun d m1 x H1 β1 _ e1 M1 V1 p1 => by
    split at p1
    · rename_i b hb
      cases ht : tyM m1 d with
      | none => rw [ht] at hb; cases hb
      | some t =>
        rw [ht] at hb
        exact ⟨x, _, _, _, b, rfl, .ty T, M1.ty V1 ht, kit_ty hb, p1.ok M1 (.bl _)⟩
    · exact p1.not_stuck⟩⟩
end
end MI
namespace MI
open PySem L2
variable [Nms]
/-- what a class of the text must say, to be raised with a text -/
structure ExF (K : PySem.W.Frag) (mg : Str → Option Value) (x : Str) : Prop where
  ex : ∃ C : Addr, ClsN K x C ∧ mg x = some (.ref C) ∧ PySem.W.excIn K C [.type "ValueError", .type "Exception", .type "BaseException", .type "object"] "ValueError.__new__" = true ∧ PySem.W.keepIn K (.ref C) = true ∧
    PySem.W.subIn K (.ref C) (.type "BaseException") = some true ∧ PySem.W.typeIn K (.ref C) = some (.type "type")
structure Mode where
  CX : Program → World → CXT
  Tk : Cx → WX → Prop
  tk0 : ∀ {X : Cx}, Tk X fun _ _ _ _ => False
  pass : ∀ {X : Cx} {W : WX}, Tk X W → ∀ σ, PassesAt (CX X.prog X.w) X σ (WE W σ)
  raise : ∀ {X : Cx} {W : WX} {x m : Str} {j : Nat} {p p2 pos pos' : Pos} {C : Addr}, X.calm = true → Tk X W → PySem.W.excIn X.K C [.type "ValueError", .type "Exception", .type "BaseException", .type "object"] "ValueError.__new__" = true → X.mg x = some (.ref C) → PySem.W.keepIn X.K (.ref C) = true → Raises X (.ref C) → Gl X x → (x == ("__debug__" : Str)) = false →
    PS X (.Raise (some (.Call (.Name x p) [.Constant (.str m) j p2] [] pos)) none pos') (fun _ σ H => W (.ref C) none σ H)
  no : ∀ {P : Program} {w : World} {st : List PySem.Env} {H : Hp} {s : Shared} {e : Value} {s' : Shared}, CX P w st H s (fun _ _ _ => False) e s' → False
  of : ∀ {X : Cx} {E : XK} {E₁ : Value → Shared → Prop}, X.stack = X.env :: X.outer → X.env.frame = some X.env.locals → X.ex = [] →
    (X.xe = fun e s' => wpAny (model X.prog X.w) X.A (leaving X.env e) (fun _ s'' => CX X.prog X.w X.outer X.H_0 X.s_0 E e s'') E₁ s') → Tk X (fun cls d _ H => E cls d H)
def M2 : Mode where
  CX := L2.CX
  Tk := L2.Takes
  tk0 := takes0
  pass := fun tk σ => L2.passAt tk σ
  raise := fun hc tk q gC kC r hg hd => L2.ps_raise hc tk (L2.pmk_own PySem.F.excBase_ValueError q gC kC r hg hd)
  no := fun ⟨_, _, _, _, _, _, _, _, _, _, _, _, z⟩ => z
  of := fun hs hf hex hx => L2.takes_of hs hf hex hx
def MN : Mode where
  CX := L2N.CX
  Tk := L2N.Takes
  tk0 := fun u s' ⟨_, _, _, _, _, _, _, _, _, _, _, _, _, _, _, _, h⟩ => h.elim
  pass := fun tk σ => L2N.passAt tk σ
  raise := fun hc tk q gC kC r hg hd => L2N.ps_raise hc tk (L2N.pmk_own PySem.F.excBase_ValueError q gC kC r hg hd)
  no := fun ⟨_, _, _, _, _, _, _, _, _, _, _, _, z⟩ => z
  of := fun hs hf hex hx => L2N.takes_of hs hf hex hx
/-- a global def that does F, at level k, with n parameters -/
structure FnX (M : Mode) (P : Program) (w : World) (K : PySem.W.Frag) (mg : Str → Option Value) (base : Heap) (k : Nat) (x : Str) (n : Nat) (F : MF) : Prop where
  ex : ∃ (f : Addr) (fd : FuncData) (ps : List Str), FnOk P w K mg base (M.CX P w) k f fd ps (spM K n F) ∧ mg x = some (.ref f) ∧ PySem.W.keepIn K (.ref f) = true ∧ Binds K fd ps []
section
variable {M : Mode} {X : Cx} {W : WX} {pos : Pos} {K : PySem.W.Frag} {β : List Addr} {H : Hp} {m : Mem}
def mRaise (x : Str) : MS := fun ρ m => .ok (.ex ⟨x⟩ ρ) m
theorem jx_raise {x msg : Str} {j : Nat} {p p2 pos pos' : Pos} (T : ExF X.K X.mg x) (hc : X.calm = true) (tk : M.Tk X W) (hg : Gl X x := by rfl) (hd : (x == ("__debug__" : Str)) = false := by decide) : JS X W (.Raise (some (.Call (.Name x p) [.Constant (.str msg) j p2] [] pos)) none pos') (mRaise x) := by
  obtain ⟨C, h1, h2, h3, h4, h5, h6⟩ := T.ex
  exact ⟨ps_imp (M.raise hc tk h3 h2 h4 (raises_own h5 h6) hg hd) fun D σ H ⟨ρ, m, β, hE, hM, p⟩ => p _ _ σ H β Ext.refl hM hE ⟨C, rfl, h1, rfl⟩⟩
theorem jx_call {k j n : Nat} {x : Str} {F : MF} {e : Expr} {es : List Expr} {g : MA} {p pos : Pos} (Fk : FnX M X.prog X.w X.K X.mg X.base k x n F) (hr : Room j X.A) (hk : k ≤ j) (tk : M.Tk X W) (ha : JA X W (e :: es) g)
    (hg : Gl X x := by rfl) (hdb : (x == ("__debug__" : Str)) = false := by decide) (he : starEach (e :: es) X.env = (false, eval e X.env) :: starEach es X.env := by rfl) (hpl : (backTo pos (starEach es X.env)).any (·.1) = false := by rfl)
    (hlen : ∀ ρ m ds m1, g ρ m = .ok ds m1 → ds.length = n) : JE X W (.Call (.Name x p) (e :: es) [] pos) (mCall F g) := by
  obtain ⟨f, fd, ps, h1, h2, h3, h4⟩ := Fk.ex
  refine ⟨pe_imp (pe_callS h1 (hr.mono hk) hg h2 h3 h4 (fun σ => M.pass tk σ) ha.run hdb he hpl) fun σ H Q ⟨ρ, m, β, hE, hM, p⟩ => ⟨ρ, m, β, hE, hM, ?_⟩⟩
  refine p.bind fun ds m1 vs H1 β1 e0 e1 M1 V1 p1 => ⟨by rw [← V1.length]; exact hlen ρ m ds m1 e0, ds, m1, β1, V1, M1, ?_⟩
  revert p1
  generalize F ds m1 = r
  intro p1
  cases r with
  | ok d m2 => exact p1
  | ex x m2 => exact p1
  | stuck => exact p1
theorem jx_call0 {k j : Nat} {x : Str} {F : MF} {p : Pos} (Fk : FnX M X.prog X.w X.K X.mg X.base k x 0 F) (hr : Room j X.A) (hk : k ≤ j) (tk : M.Tk X W) (hg : Gl X x := by rfl) (hdb : (x == ("__debug__" : Str)) = false := by decide) : JE X W (.Call (.Name x p) [] [] pos) (mCall F mNil) := by
  obtain ⟨f, fd, ps, h1, h2, h3, h4⟩ := Fk.ex
  refine ⟨⟨fun pins s σ H Q I q => ?_⟩⟩
  obtain ⟨ρ, m, β, hE, hM, p⟩ := q
  refine wpAny_Call_Name_kw (ld_glob I hg h2 ?_ hdb)
  refine PySem.W.callWith_K0 I.kIn h3 (run_fnSD (E := WE W) (us := []) h1 (hr.mono hk) h4 .nil (M.pass tk σ) I .nil ?_)
  refine ⟨rfl, [], m, β, .nil, hM, ?_⟩
  have p : Post X W (F [] m) β H σ (fun β' H' d v => RV X.K β' H' d v) Q := p
  revert p
  generalize F [] m = r
  intro p
  cases r with
  | ok d m2 => exact p
  | ex x m2 => exact p
  | stuck => exact p
end
section
variable {M : Mode} {P : Program} {w : World} {K : PySem.W.Frag} {mg : Str → Option Value} {base : Heap}
theorem fnx_ok {x qual : Str} {st : Stmt} {f : Addr} {fd : FuncData} {N ps : List Str} {k n : Nat} {g : MS} {F : MF} (Fu : Fun K x qual st f fd) (S : FnScope N ps (defScope st)) (hn : ps.length = n)
    (hF : ∀ ds m, ds.length = n → F ds m = endOf (g (startM N.length ds) m))
    (hb : ∀ (cdv : Value) (A : Around) (outer : List PySem.Env) (s : Shared) (H : Hp) (E : XK), Room k (A.deeper (PyProof.Rows.envOfC qual (defScope st) s.heap.objs.size f cdv)) →
      ∀ W, M.Tk (cxOf (M.CX P w) P w K mg base N qual (defScope st) f cdv A outer s H E) W → PassesOwn (model P w) (cxOf (M.CX P w) P w K mg base N qual (defScope st) f cdv A outer s H E).A (cxOf (M.CX P w) P w K mg base N qual (defScope st) f cdv A outer s H E).env (cxOf (M.CX P w) P w K mg base N qual (defScope st) f cdv A outer s H E).xe →
        JB (cxOf (M.CX P w) P w K mg base N qual (defScope st) f cdv A outer s H E) W (defBody st) g) :
    FnOk P w K mg base (M.CX P w) (k + 1) f fd ps (spM K n F) := by
  obtain ⟨oc, od, kV, doc, pm, an, cdv, ct, osl, rfl, lk, hcd⟩ := Fu.ex
  refine fn_of lk hcd S (fun vs H Q E h => by rw [hn]; exact h.1) fun A outer s H vs Q E hr hsp => ?_
  obtain ⟨hl, ds, m, β, V, Mm, p⟩ := hsp
  have tk : M.Tk (cxOf (M.CX P w) P w K mg base N qual (defScope st) f cdv A outer s H E) (fun cls d _ H' => E cls d H') := M.of rfl rfl rfl rfl
  refine ⟨_, (hb cdv A outer s H E hr _ tk (passes_of rfl)).run, ?_⟩
  refine ⟨startM N.length ds, m, β, RE.start V, Mm, ?_⟩
  rw [hF ds m (by rw [V.length]; exact hl)] at p
  revert p
  generalize g (startM N.length ds) m = r
  intro p
  cases r with
  | ok a m' =>
    cases a with
    | nx ρ => exact fun σ' H' β' e M' _ => p .non H' β' e M' .non
    | bk ρ => exact p.elim
    | ct ρ => exact p.elim
    | rt d => exact fun v H' β' e M' V' => p v H' β' e M' V'
    | ex x ρ => exact fun c d σ' H' β' e M' _ z => p c d H' β' e M' z
  | ex x m' => exact p.elim
  | stuck => exact p
/-- level 0: nothing is promised -/
theorem fnx_0 {x : Str} {n : Nat} {f : Addr} {fd : FuncData} {ps : List Str} (hn : ps.length = n) (h2 : mg x = some (.ref f)) (h3 : PySem.W.keepIn K (.ref f) = true) (h4 : Binds K fd ps []) : FnX M P w K mg base 0 x n (fun _ _ => .stuck) :=
  ⟨f, fd, ps, ⟨fun vs H Q E h => by rw [hn]; exact h.1, fun A outer s H args us vs Q E _ _ _ _ h => by obtain ⟨_, _, _, _, _, _, q⟩ := h; exact q.elim⟩, h2, h3, h4⟩
end
section
variable {X : Cx} {W : WX} {pos : Pos} {K : PySem.W.Frag} {β : List Addr} {H : Hp} {m : Mem}
/-- which classes a clause takes -/
def Exm (K : PySem.W.Frag) (c : Value) (P : Str → Option Bool) : Prop := ∀ (y : Str) (C : Addr) (b : Bool), ClsN K y C → P y = some b → PySem.W.exmOne K (.ref C) c = some b
end
end MI
namespace MI
open PySem L2
variable [Nms]
section
variable {X : Cx} {pins : List (Addr × Obj)} {σ : L2.St} {H : Hp} {s : Shared}
/-- an object that was made behind the entry is known from now on -/
theorem track {a : Addr} {oe : Obj} {vs : Array Value} {o : HO} (I : L2.Inv X pins σ H s) (he : s.heap.get? a = some oe) (hd : oe.data = .fields vs) (n : H a = none) (h0 : X.s_0.heap.get? a = none) (nL : a ≠ X.env.locals)
    (np : ∀ p ∈ X.pn ++ pins, p.1 ≠ a) (ok : ObjOk X.prog X.w (upd H a o) s.heap a o) : L2.Inv X pins σ (upd H a o) s where
  ok := I.ok
  os := I.os
  bare := I.bare
  base :=
    { keep := I.base.keep
      slot := I.base.slot
      free := fun b u q z hx => by
        have hb : b ≠ a := fun e => by rw [e, h0] at q; cases q
        rw [upd_ne hb]
        exact I.base.free b u q z hx
      there := I.base.there
      tups := fun b xs q => by
        have q1 := I.base.tups b xs q
        rw [upd_ne (ne_of_none q1 n)]
        exact q1
      frzs := fun b u xs q => by
        have q1 := I.base.frzs b u xs q
        rw [upd_ne (ne_of_none q1 n)]
        exact q1
      tbls := fun b ps q => by
        obtain ⟨more, q1⟩ := I.base.tbls b ps q
        exact ⟨more, by rw [upd_ne (ne_of_none q1 n)]; exact q1⟩ }
  loc := I.loc
  cell := I.cell
  free := by rw [upd_ne (Ne.symm nL)]; exact I.free
  freeC := fun x c e => by
    have hc : c ≠ a := fun z => by
      obtain ⟨v, ob, q1, q2⟩ := I.cell x c e
      rw [z, he] at q1
      cases q1
      rw [hd] at q2
      cases q2
    rw [upd_ne hc]
    exact I.freeC x c e
  pin := fun p hp => by
    obtain ⟨q1, q2, q3⟩ := I.pin p hp
    exact ⟨q1, by rw [upd_ne (np p hp)]; exact q2, q3⟩
  hok := fun b u q => by
    by_cases hb : b = a
    · subst hb
      rw [upd_same] at q
      cases q
      exact ok
    · rw [upd_ne hb] at q
      exact (I.hok b u q).stay (fun _ _ _ z => z) (fun c z => by rw [upd_ne (ne_of_none z n)]; exact z) fun c xs z => by rw [upd_ne (ne_of_none z n)]; exact z
  len := I.len
end
section
variable {X : Cx} {x n y : Str} {c : Value} {i j : Nat} {body : List Stmt} {np py pn' spos pos pos' : Pos} {tb : WX → TS} {Wout : WX}
/-- what is wanted of an exception in the body: it is taken, and then both names have it, the clause's own goes again; or it goes on -/
def wKeep (K : PySem.W.Frag) (c : Value) (i j : Nat) (Wout : WX) (D : Ends) : WX := fun cls d σ H =>
  ∃ b, PySem.W.exmOne K cls c = some b ∧ (b = true → d = none ∧ ∀ a, H a = none → D.nx (((σ.set i (some (.ref a))).set j (some (.ref a))).set i none) (upd H a (ExH cls a))) ∧ (b = false → Wout cls d σ H)
abbrev keepH (x n y : Str) (np py pn' spos pos' : Pos) : ExceptHandler := .ExceptHandler (some (.Name x np)) (some n) [.Assign [.Name y py] (.Name n pn') spos] pos'
theorem ps_try_keep (hs : X.stack = X.env :: X.outer) (hf : X.env.frame = some X.env.locals) (hex : X.ex = []) (hN : X.N.Nodup) (hi : X.N[i]? = some n) (hln : X.env.kindOf n = some .local) (hj : X.N[j]? = some y) (hly : X.env.kindOf y = some .local) (hc : Names X x c) (tk : Takes X Wout)
    (hd1 : (n == ("__debug__" : Str)) = false) (hd2 : (n == ("__classdict__" : Str)) = false)
    (hb : ∀ (W : WX) (pn : List (Addr × Obj)) (xe : Value → Shared → Prop), Takes (X.tr pn xe) W → PassesOwn (model X.prog X.w) X.A X.env xe → PSs (X.tr pn xe) body (tb W)) :
    PS X (.Try body [keepH x n y np py pn' spos pos'] [] [] pos) (fun D σ H => tb (wKeep X.K c i j Wout D) D σ H) := by
  constructor
  intro pins s σ H D I h
  have ok := I.ok
  have fr : X.A.frames = some (X.env :: X.outer) := ok.frames.trans (congrArg some hs)
  apply wpAny_Try_except
  let M := model X.prog X.w
  let Eb : Value → Shared → Prop := fun e s₁ => wpAny M X.A (noteFrame e X.env) (fun _ s₂ => wpAny M X.A (setFlight e none) (fun _ s₃ => wpAny M X.A (handleBy e X.env [keepH x n y np py pn' spos pos']) (SP X pins D) X.xe s₃) X.xe s₂) X.xe s₁
  have catch_ : Takes (X.tr (X.pn ++ pins) Eb) (wKeep X.K c i j Wout D) := by
    rintro u s' ⟨a, B, sI, ps', σ', H', cls, d, rfl, J', nb, up, sky, na, os, ag, b, hb1, yes, no⟩
    have J : L2.Inv X pins σ' H' sI := J'.ofTry ok
    have sky2 : Sky B (X.env :: X.outer) a (Zc cls d) X.env.locals s'.heap := hs ▸ sky
    refine Sky.land Zc.steady fr hf sky2 ?_
    intro h3 fl3 up3
    obtain ⟨oe3, vs3, he3, hz3, hd3⟩ := fl3.there
    -- the object is no frame's
    have apart : ∀ {h : Heap} {o : Obj} {vs : Array Value}, h.FunFrames B (X.env :: X.outer) → h.get? a = some o → o.data = .fields vs → a ∉ frs (X.env :: X.outer) := by
      intro h o vs ff e dd hm
      obtain ⟨_, o', e', far⟩ := ff.mem hm
      rw [e] at e'
      cases e'
      exact far _ dd
    have nfr := apart fl3.2.2.1 he3 hd3
    have nL : a ≠ X.env.locals := by
      intro z
      exact nfr (List.mem_filterMap.mpr ⟨X.env, List.mem_cons_self, hf.trans (by rw [z])⟩)
    have nF : a ∉ X.fs := by
      intro hm
      obtain ⟨e, he, q⟩ := List.mem_filterMap.mp hm
      exact nfr (List.mem_filterMap.mpr ⟨e, List.mem_cons_of_mem _ he, q⟩)
    -- it is new
    have newI : sI.heap.get? a = none := by
      cases q : sI.heap.get? a with
      | none => rfl
      | some o =>
        have := nb a o q (by rw [hs]; exact nfr)
        rw [fl3.2.1] at this
        cases this
    have new0 : X.s_0.heap.get? a = none := by
      cases q : X.s_0.heap.get? a with
      | none => rfl
      | some o =>
        obtain ⟨o', q'⟩ := J.base.there a o q (by rw [hex]; exact List.not_mem_nil)
        rw [newI] at q'
        cases q'
    have newp : ∀ p ∈ X.pn ++ pins, p.1 ≠ a := by
      intro p hp z
      have := (J.pin p hp).1
      rw [z, newI] at this
      cases this
    have J3 : L2.Inv X pins σ' H' { s' with heap := h3 } := J.landed nb fl3.1 (up.trans up3) os ag
    have S3 := J3.suite he3 hd3 na nL nF
    apply wpAny_handleBy_cons (codeAny_handlers_test ?_) (by intro q; cases q)
    have ty : PySem.W.Looks M h3 (typeOf (.ref a)) cls := fun A Q E s k q => wpAny_typeOf_ref (k _ _ he3) (by rw [hz3.1]; exact q)
    have asks := PySem.W.exm_one (M := M) J3.kIn ty hb1
    have clause : ∀ {Q : Value → Shared → Prop} {E : Value → Shared → Prop}, Q c { s' with heap := h3 } → wpAny M (X.A.mark (some (.ref a))) (eval (.Name x np) X.env) Q E { s' with heap := h3 } := by
      intro Q E q
      obtain ⟨hg, hdbg, hm | ⟨hm, hv, hnn⟩⟩ := hc
      · exact ld_glob (X := X.suite a ((a, oe3) :: (X.pn ++ pins))) S3 hg hm q hdbg
      · exact ld_blt (X := X.suite a ((a, oe3) :: (X.pn ++ pins))) S3 hg hm hv q hnn hdbg
    apply clause
    apply asks.here
    cases b with
    | true =>
      obtain ⟨ed, goes⟩ := yes rfl
      subst ed
      apply codeAny_handlers_suite_as
      apply HandSPX.lands_againZ fl3
      intro h4 fl4 up4
      have J4 : L2.Inv X pins σ' H' { s' with heap := h4 } := J.landed nb fl4.1 ((up.trans up3).trans up4) os ag
      obtain ⟨oe4, vs4, he4, hz4, hd4⟩ := fl4.there
      have S4 := J4.suite he4 hd4 na nL nF
      refine store_ok (X := X.suite a ((a, oe4) :: (X.pn ++ pins))) (v := .ref a) S4 hN hi (.inl hln) rfl ?_ (.inr hln)
      intro s5 S5
      have il : i < σ'.length := by rw [J.len]; exact (List.getElem?_eq_some_iff.mp hi).1
      have one : PSs (X.suite a ((a, oe4) :: (X.pn ++ pins))) [.Assign [.Name y py] (.Name n pn') spos] (tAsg (tVar i) (gName j)) :=
        pss_one (ps_set hN hj (.inl hly) (pe_var hi (.inl hln) hd1 hd2) (by rfl) (.inr hly))
      refine wpAny_mono (one.run [] s5 (σ'.set i (some (.ref a))) H' { nx := fun σ6 H6 => σ6 = (σ'.set i (some (.ref a))).set j (some (.ref a)) ∧ H6 = H', rt := fun _ _ => False } S5 ⟨.ref a, List.getElem?_set_self il, rfl, rfl⟩) ?_ (fun _ _ z => z.elim)
      intro f s6 q6
      cases f with
      | next =>
        obtain ⟨σ6, H6, S6, rfl, rfl⟩ := q6
        obtain ⟨p1, p2, p3, p4, _⟩ := S6.pin (a, oe4) (List.mem_append_left _ List.mem_cons_self)
        have J6 : L2.Inv X pins ((σ'.set i (some (.ref a))).set j (some (.ref a))) H6 s6 := S6.unsuite ok
        have known : ObjOk X.prog X.w (upd H6 a (ExH cls a)) s6.heap a (ExH cls a) :=
          ⟨⟨oe4, vs4, p1, hz4.1, hz4.2, hd4⟩, ⟨oe4, p1⟩, fun _ _ ⟨o, v, q1, q2⟩ st => ⟨o, v, st o q1, q2⟩⟩
        have J7 := track J6 p1 hd4 na new0 nL newp known
        exact gone_ok J7 hN hi hln fun s7 J8 => ⟨_, _, J8, goes a na⟩
      | ret u => obtain ⟨v, σ6, H6, _, _, q⟩ := q6; exact q.elim
      | brk => obtain ⟨σ6, H6, _, q⟩ := q6; exact q.elim
      | cont => obtain ⟨σ6, H6, _, q⟩ := q6; exact q.elim
    | false =>
      show wpAny _ X.A (handleBy (.ref a) X.env []) _ _ _
      apply wpAny_handleBy_nil
      obtain ⟨k1, k2, k3, oe, vs, T, oT, ts', he, hz, hd, h1, hr⟩ := id fl3
      unfold PySem.passOn
      apply wpAny_bind
      apply wpAny_field he hd h1
      rw [if_neg (show ¬ ((Value.ref T == Value.none) = true) from by simp)]
      have fin : wpAny M X.A (setFlight (.ref a) X.env.frame) (fun _ s4 => wpAny M X.A (throw (.ref a) : Sem Flow) (SP X pins D) X.xe s4) X.xe { s' with heap := h3 } := by
        rw [hf]
        apply HandSPX.setFlight_upZ fl3
        intro h4 hh4 up4
        apply wpAny_throw
        apply tk
        exact ⟨a, B, sI, pins, σ', H', cls, d, rfl, J, nb, (up.trans up3).trans up4, .inr (.inr (by rw [hs]; exact hh4)), na, os, ag, no rfl⟩
      first
        | exact wpAny_bind (wpAny_pure (wpAny_bind fin))
        | exact wpAny_bind fin
  refine wpAny_mono ((hb _ (X.pn ++ pins) Eb catch_ PassesOwn.looking).run [] s σ H D (I.toTry _) h) ?_ (fun e s1 he => he)
  intro f s1 q1
  cases f with
  | next =>
    obtain ⟨σ1, H1, J1, q⟩ := q1
    exact wpAny_execs_nil ⟨σ1, H1, J1.ofTry ok, q⟩
  | ret u =>
    obtain ⟨v, σ1, H1, J1, r, q⟩ := q1
    exact ⟨v, σ1, H1, J1.ofTry ok, r, q⟩
  | brk =>
    obtain ⟨σ1, H1, J1, q⟩ := q1
    exact ⟨σ1, H1, J1.ofTry ok, q⟩
  | cont =>
    obtain ⟨σ1, H1, J1, q⟩ := q1
    exact ⟨σ1, H1, J1.ofTry ok, q⟩
end
end MI
namespace MI
open PySem L2
variable [Nms]
section
variable {X : Cx} {W : WX} {pos : Pos} {K : PySem.W.Frag} {β : List Addr} {H : Hp} {m : Mem}
theorem RE.setN {ρ : Env} {σ : L2.St} {i : Nat} (r : RE K β H ρ σ) : RE K β H (ρ.set i none) (σ.set i none) := by
  refine ⟨by simp [r.len], fun j e q => ?_⟩
  by_cases hj : i = j
  · subst hj
    rw [List.getElem?_set_self'] at q
    cases z : ρ[i]? with
    | none => rw [z] at q; cases q
    | some w => rw [z] at q; cases q
  · rw [List.getElem?_set_ne hj] at q ⊢
    exact r.at_ j e q
def mTryK (P : Str → Option Bool) (i j : Nat) (f : MS) : MS := fun ρ m => match f ρ m with
  | .ok (.ex x ρ') m' => match P x.cls with
    | some true => .ok (.nx (((ρ'.set i (some (.ref m'.length))).set j (some (.ref m'.length))).set i none)) (m' ++ [.exn x])
    | some false => .ok (.ex x ρ') m'
    | none => .stuck
  | r => r
theorem jx_tryK (i j : Nat) {x n y : Str} {c : Value} {body : List Stmt} {np py pn' spos pos' : Pos} {f : MS} {P : Str → Option Bool} (hs : X.stack = X.env :: X.outer) (hf : X.env.frame = some X.env.locals) (hex : X.ex = []) (hN : X.N.Nodup) (hc : Names X x c) (he : Exm X.K c P) (tk : Takes X W)
    (hb : ∀ (W' : WX) (pn : List (Addr × Obj)) (xe : Value → Shared → Prop), Takes (X.tr pn xe) W' → PassesOwn (model X.prog X.w) X.A X.env xe → JB (X.tr pn xe) W' body f)
    (hi : X.N[i]? = some n := by rfl) (hln : X.env.kindOf n = some .local := by rfl) (hj : X.N[j]? = some y := by rfl) (hly : X.env.kindOf y = some .local := by rfl)
    (hd1 : (n == ("__debug__" : Str)) = false := by decide) (hd2 : (n == ("__classdict__" : Str)) = false := by decide) :
    JS X W (.Try body [.ExceptHandler (some (.Name x np)) (some n) [.Assign [.Name y py] (.Name n pn') spos] pos'] [] [] pos) (mTryK P i j f) := by
  refine ⟨ps_imp (ps_try_keep (tb := fun W' => tS X W' f) hs hf hex hN hi hln hj hly hc tk hd1 hd2 (fun W' pn xe t h => (hb W' pn xe t h).run)) fun D σ H q => ?_⟩
  obtain ⟨ρ, m, β, hE, hM, p⟩ := tS_of q
  refine ⟨ρ, m, β, hE, hM, ?_⟩
  unfold mTryK at p
  cases hf' : f ρ m with
  | stuck => rw [hf'] at p; exact p
  | ex x m' => rw [hf'] at p; exact p
  | ok a m' =>
    rw [hf'] at p
    cases a with
    | nx ρ' => exact p
    | bk ρ' => exact p
    | ct ρ' => exact p
    | rt d => exact p
    | ex x ρ' =>
      intro cls dd σ' H' β' e M E hx
      obtain ⟨C, rfl, hC, rfl⟩ := hx
      dsimp only at p
      cases hP : P x.cls with
      | none => rw [hP] at p; exact p.elim
      | some b =>
        refine ⟨b, he _ C b hC hP, fun hb1 => ⟨rfl, fun a ha => ?_⟩, fun hb0 => ?_⟩
        · subst hb1
          rw [hP] at p
          have V : RV X.K (β' ++ [a]) (upd H' a (ExH (.ref C) a)) (.ref m'.length) (.ref a) := .ref (by rw [← M.len]; simp)
          exact p _ _ _ (e.trans (Ext.push ha)) (M.push ha ⟨C, hC, upd_same⟩) ((((E.ext M (Ext.push ha)).set V).set V).setN)
        · subst hb0
          rw [hP] at p
          exact p _ none σ' H' β' e M E ⟨C, rfl, hC, rfl⟩
def mTryF (P : Str → Option Bool) (y : Str) (f : MS) : MS := fun ρ m => match f ρ m with
  | .ok (.ex x ρ') m' => match P x.cls with
    | some true => .ok (.ex ⟨y⟩ ρ') m'
    | some false => .ok (.ex x ρ') m'
    | none => .stuck
  | r => r
def rIsX (K : PySem.W.Frag) : List V → Hp → VK → Prop := fun xs H Q => ∃ (a D : Addr) (c : V) (cv : Value) (b : Bool), xs = [.ref a, c] ∧ H a = some (ExH (.ref D) a) ∧ ExcC K D ∧ (∀ u, RelV c u → u = cv) ∧ PySem.W.kitOne K (.ref D) cv = some b ∧ Q (.bl b) H
theorem call_isx : CallR X (.builtin "isinstance") (rIsX X.K) := by
  intro pins s σ H xs us Q I r h
  obtain ⟨a, D, c, cv, b, rfl, hH, C, hcv, e, q⟩ := h
  cases r with
  | cons rx rr =>
    cases rr with
    | cons rt rr =>
      cases rr
      cases rx
      obtain rfl := hcv _ rt
      obtain ⟨⟨oe, vs, g1, g2, g3, g4⟩, _, _⟩ := I.hok a _ hH
      have J : PySem.W.InstAt s.heap a oe D none := by
        cases oe
        dsimp only at g2 g3 g4
        subst g2 g3 g4
        exact ⟨g1, rfl, rfl, trivial⟩
      exact PySem.W.kia_one (PySem.W.handS_kitx_exc C.hg C.hk C.hs C.hd C.ha C.hn C.ht C.hm) I.kIn J e (fun z => nomatch z) fun tk => ⟨.bl b, H, I.kept (t' := tk) fun _ _ z => z, rfl, q⟩
/-- what a class says of the exceptions' classes -/
structure Isx (K : PySem.W.Frag) (cv : Value) (P : Str → Option Bool) : Prop where
  one : ∀ (y : Str) (D : Addr) (b : Bool), ClsN K y D → P y = some b → ExcC K D ∧ PySem.W.kitOne K (.ref D) cv = some b
  non : PySem.W.kitOne K (.type "NoneType") cv = some false
def exnOf (m : Mem) : MV → Option Exn
  | .ref n => match m[n]? with
    | some (.exn x) => some x
    | _ => none
  | _ => none
def isxV (P : Str → Option Bool) (m : Mem) : MV → Option Bool
  | .non => some false
  | d => (exnOf m d).bind fun x => P x.cls
def mIsx (P : Str → Option Bool) (f : ME) : ME := fun ρ m => (f ρ m).bind fun d m1 => match isxV P m1 d with
  | some b => .ok (.bl b) m1
  | none => .stuck
theorem je_isx {e ce : Expr} {p : Pos} {f : ME} {c : V} {cv : Value} {P : Str → Option Bool} (h : JE X W e f) (hcv : ∀ u, RelV c u → u = cv) (hcl : ClsV c cv) (hce : PE X ce (tC c)) (T : Isx X.K cv P) (hm : X.mg "isinstance" = none) (hg : Gl X "isinstance" := by rfl)
    (he : starEach (e :: [ce]) X.env = (false, eval e X.env) :: starEach [ce] X.env := by rfl) (he2 : starEach (ce :: []) X.env = (false, eval ce X.env) :: starEach [] X.env := by rfl) (hpl : (backTo pos (starEach [ce] X.env)).any (·.1) = false := by rfl) : JE X W (.Call (.Name "isinstance" p) [e, ce] [] pos) (mIsx P f) :=
  ⟨pe_imp (pe_callB (cr_or call_isi call_isx) hg hm (by decide +kernel) (pa_cons h.run (pa_cons hce pa_nil he2) he) (by decide) (by decide) he hpl) fun σ H Q ⟨ρ, m, β, hE, hM, p⟩ => ⟨ρ, m, β, hE, hM, p.bind fun d m1 x H1 β1 _ e1 M1 V1 p1 => by
    show rIsi X.K [x, c] H1 Q ∨ rIsX X.K [x, c] H1 Q
    split at p1
    · rename_i b hb
      unfold isxV at hb
      split at hb
      · cases hb
        cases V1
        exact .inl ⟨_, _, _, _, false, rfl, hcl, .base .non, T.non, p1.ok M1 (.bl _)⟩
      · cases hx : exnOf m1 d with
        | none => rw [hx] at hb; cases hb
        | some y =>
          rw [hx] at hb
          unfold exnOf at hx
          split at hx
          · split at hx
            · rename_i x' hm1
              cases hx
              cases V1 with
              | ref hbn =>
                obtain ⟨C, hC, hH⟩ := M1.ob _ _ _ hm1 hbn
                obtain ⟨t1, t2⟩ := T.one _ C b hC hb
                exact .inr ⟨_, C, c, cv, b, rfl, hH, t1, hcv, t2, p1.ok M1 (.bl _)⟩
            · cases hx
          · cases hx
    · exact p1.not_stuck⟩⟩
end
end MI
namespace PySem
open Sem (wp)
set_option maxHeartbeats 1000000 in
theorem mi_meets_enum {v : Value} {o : Obj} {H : Heap → Prop} (B : Begins v o H) :
    Meets (Builtin.«enumerate.__new__» ⟨[.type "enumerate", v], []⟩) (fun _ R s => H s.heap ∧
        R (.ok (.ret (.ref (s.heap.push o).objs.size))) { s with heap := (s.heap.push o).push { cls := .type "enumerate", data := .fields #[.none, .bool false, .ref s.heap.objs.size, rawInt 0, .none, .none] } }) :=
  .of_wp fun prog w A R s hh => by
    obtain ⟨hp, gs, ds, ts, oss⟩ := s
    obtain ⟨hb, hR⟩ := hh
    have hsubc := sub_enumerate
    have walk1 : ∀ {A' : Around} {E : Value → Shared → Prop} {Q : Value → Shared → Prop}, Q (.ref hp.objs.size) ⟨hp.push o, gs, ds, ts, oss⟩ → wpAny (model prog w) A' (pyIter v) Q E ⟨hp, gs, ds, ts, oss⟩ := fun z => B.iter prog w _ _ ⟨hp, gs, ds, ts, oss⟩ _ hb z
    wp_walk using walk1
    refine wpAny_stack_any fun st => ?_
    refine wpAny_pure ?_
    split
    next c _ _ _ _ _ =>
      cases (c == Value.type "enumerate") <;> (wp_walk using walk1; exact ⟨_, rfl, hR⟩)
    next => wp_walk using walk1; exact ⟨_, rfl, hR⟩
theorem mi_enum {prog : Program} {w : World} {A : Around} {E : Value → Shared → Prop} {s : Shared} {v : Value} {o : Obj} {H : Heap → Prop} {Q : Value → Shared → Prop} (B : Begins v o H) (h1 : H s.heap)
    (h : ∀ h', IsEnum h' (s.heap.objs.size + 1) s.heap.objs.size 0 .none → h'.get? s.heap.objs.size = some o → (∀ b o, s.heap.get? b = some o → h'.get? b = some o) → Q (.ref (s.heap.objs.size + 1)) { s with heap := h' }) :
    wpAny (model prog w) A (call (.type "enumerate") [v]) Q E s := by
  refine callType_new F.called_enumerate (by decide) (F.typeCall_enumerate_1 _) (F.newCall_enumerate_1 _) (fun obj => F.args_object_init_2 obj _) F.entry_enumerate_new (mi_meets_enum B) ⟨h1, ?_⟩
  have sz : (s.heap.push o).objs.size = s.heap.objs.size + 1 := Heap.size_push ..
  show _ ∧ _
  rw [sz]
  have he := Heap.get?_push_size (s.heap.push o) (o := { cls := .type "enumerate", data := .fields #[.none, .bool false, .ref s.heap.objs.size, rawInt 0, .none, .none] }) rfl
  rw [sz] at he
  exact ⟨⟨_, he, rfl⟩, h _ he (Heap.get?_push_of_some _ (Heap.get?_push_size _ B.free)) fun b o' x => Heap.get?_push_of_some _ (Heap.get?_push_of_some _ x)⟩
end PySem
namespace MI
open PySem L2
variable [Nms]
/-- a tuple's items with their numbers -/
def ItEt (K : PySem.W.Frag) (a : Addr) : It :=
  ⟨fun i H => ∃ (xs : List V) (x : V), SqT K H a xs ∧ xs[i]? = some x, fun i H v H' => ∃ T x, v = .ref T ∧ H T = none ∧ H' = upd H T (.tup [.int (i : Nat), x]) ∧ ∀ xs, SqT K H a xs → xs[i]? = some x, fun i H => ∃ xs : List V, SqT K H a xs ∧ xs.length = i⟩
section
variable {X : Cx} {W : WX} {pos : Pos} {K : PySem.W.Frag} {β : List Addr} {H : Hp} {m : Mem}
theorem mi_turn {P : Program} {w : World} {K : PySem.W.Frag} {elts : List Expr} {kk : Nat} {tpos : Pos} (a e it : Addr) :
    Turn P w K (.Tuple elts kk tpos) (ItEt K a) [e, it] e (fun i h => (∃ old, IsEnum h e it ((i : Nat) : Int) old) ∧ h.IsTupleIter it a i ∧ e ≠ it ∧ a ≠ it ∧ a ≠ e) where
  mem := by simp
  obj := fun i h st b hb => by
    obtain ⟨⟨old, he⟩, ⟨o, ho, hc, hd⟩, _⟩ := st
    rcases (by simpa using hb : b = e ∨ b = it) with rfl | rfl
    · exact ⟨_, he, fun v q => nomatch q⟩
    · exact ⟨o, ho, fun v q => by rw [hd] at q; cases q⟩
  keep := fun i h h' st k => let ⟨⟨old, he⟩, hi, hne⟩ := st; ⟨⟨old, k e (by simp) _ he⟩, hi.at fun o q => k it (by simp) o q, hne⟩
  item := by
    intro X hP hw hK hc i pins s σ H E I hf st hg
    subst hP hw hK
    obtain ⟨⟨old, he⟩, hit, hne, n1, n2⟩ := st
    obtain ⟨xs, x, hq, hx⟩ := hg
    obtain ⟨its, rv, p, hz⟩ := I.tuple hq
    obtain ⟨u, hu, ru⟩ := rv.get hx
    have p' : s.heap.IsTuple a its.toArray := p
    have hel : e < s.heap.objs.size := Heap.lt_size he
    have hil : it < s.heap.objs.size := by obtain ⟨_, q, _⟩ := hit; exact Heap.lt_size q
    have hi : i < its.length := (List.getElem?_eq_some_iff.mp hu).1
    refine wpAny_pyNext_enum_itemD (D := Draws.tuple (prog := X.prog) (w := X.w) (A := X.A.in1) (I.ok.hd hc) it a n1 its.toArray) he ⟨hit, p'⟩ (by simpa using hi) hne (by simp [hne, Ne.symm n2]) fun x' h' tk hP ho hst hT hsz hk => ?_
    have hxu : x' = u := by
      have := hP
      simp only [List.getElem?_toArray] at this
      rw [hu] at this
      exact (Option.some.inj this).symm
    subst hxu
    refine ⟨_, rfl, wpAny_letOwnedTupleGo_enum (s := { s with heap := h', toks := tk + 1 }) ho fun h'' he' sb => ?_⟩
    have hT2 : h''.get? s.heap.objs.size = some { cls := .type "tuple", data := .seq #[.int i tk, x'] } := (sb.2 _ (Nat.ne_of_gt hel)).trans hT
    have new : ObjOk X.prog X.w (upd H s.heap.objs.size (.tup [.int (i : Nat), x])) h'' s.heap.objs.size (.tup [.int (i : Nat), x]) :=
      ⟨by show 2 ≤ sizeLine; decide, [.int i tk, x'], .cons ⟨_, rfl⟩ (.cons ru .nil), ⟨_, hT2, rfl, _, rfl⟩⟩
    have I1 : Inv X pins σ (upd H s.heap.objs.size (.tup [.int (i : Nat), x])) { s with heap := h'', toks := tk + 1 } :=
      I.turnedNew (ch := [e, it]) (fun b ob hb q => (sb.2 b (fun z => hb (by simp [z]))).trans (hk b ob (fun z => hb (by simp [z])) (fun z => hb (by simp [z])) q)) hf (Nat.le_refl _) new
    refine ⟨.ref s.heap.objs.size, _, I1, rfl, ⟨_, x, rfl, I.hok.fresh (Nat.le_refl _), rfl, fun ys hy => by rw [I.tuple_inj hy hq]; exact hx⟩, ⟨⟨x', ?_⟩, hst.1.at fun o q => (sb.2 it (Ne.symm hne)).trans q, hne, n1, n2⟩, fun b hb => ?_⟩
    · have e1 : ((i + 1 : Nat) : Int) = (i : Int) + 1 := by omega
      rw [e1]; exact he'
    · have hb' : b < s.heap.objs.size := by
        rcases (by simpa using hb : b = e ∨ b = it) with rfl | rfl
        · exact hel
        · exact hil
      rw [upd_ne (Nat.ne_of_lt hb')]
      exact (hf b hb).1
  done := by
    intro X hP hw hK hc i pins s σ H E I hf st hg
    subst hP hw hK
    obtain ⟨⟨old, he⟩, hit, hne, n1, n2⟩ := st
    obtain ⟨xs, hq, hx⟩ := hg
    obtain ⟨its, rv, p, hz⟩ := I.tuple hq
    have p' : s.heap.IsTuple a its.toArray := p
    obtain ⟨f0, f1, f2, f3, f4, f5⟩ := hf it (by simp)
    have hl := rv.length
    have D := Draws.tuple (prog := X.prog) (w := X.w) (A := X.A.in1) (I.ok.hd hc) it a n1 its.toArray
    have e0 : i = its.toArray.size := by simp; omega
    rw [e0] at hit
    refine wpAny_pyNext_enum_endD D he ⟨hit, p'⟩ fun h' eb => ⟨rfl, I.turned (t' := s.toks) (fun b o hb q => eb b o hb q) f0 f1 f3 f4 f5⟩
  self := fun A i s Q E st h => let ⟨⟨_, he⟩, _⟩ := st; wpAny_pyIter_enum he h
/-- the items with their numbers -/
def numd (l : List MV) : List MV := (List.range l.length).zipWith (fun (i : Nat) x => .tup [.int i, x]) l
def enumOf : List MV → Mem → Re IterM
  | [.tup l], m => .ok ⟨numd l, fun _ => True⟩ m
  | [.ref n], m => match lstOf m (.ref n) with
    | some l => .ok ⟨numd l, fun m' => lstOf m' (.ref n) = some l⟩ m
    | none => .stuck
  | _, _ => .stuck
def mEnum (g : MA) : MI' := fun ρ m => (g ρ m).bind enumOf
def iEnumA (K : PySem.W.Frag) (ta : TA) : TI := fun σ H R => ta σ H fun vs H1 => ∃ a xs, vs = [.ref a] ∧ ((SqL K H1 a xs ∧ R (Ite K a) H1) ∨ (SqT K H1 a xs ∧ R (ItEt K a) H1))
theorem pi_enumA {e : Expr} {ta : TA} {p tpos : Pos} {elts : List Expr} {kk : Nat} (hg : Gl X "enumerate") (hm : X.mg "enumerate" = none) (ha : PA X [e] ta) (hs : starEach [e] X.env = [(false, eval e X.env)]) :
    PI X (.Tuple elts kk tpos) (.Call (.Name "enumerate" p) [e] [] pos) (iEnumA X.K ta) := by
  refine ⟨fun pins s σ H R I h => ?_⟩
  refine PyProof.Rows.Call_ (ld_blt I hg hm PyProof.Rows.boot_enumerate (PyProof.Rows.callWith_type1 (thn (ha.run pos pins s σ H _ I h) fun us s1 z => ?_) hs rfl))
  obtain ⟨vs, H1, I1, r1, a, xs, ex, q⟩ := z
  subst ex
  cases r1 with
  | cons r rr =>
    cases rr
    cases r
    have fp : ∀ b, b = s1.heap.objs.size + 1 ∨ b = s1.heap.objs.size → ∀ {h' : Heap}, Inv X pins σ H1 { s1 with heap := h' } → FpOk X pins H1 b := by
      intro b hb h' _
      have hle : s1.heap.objs.size ≤ b := by rcases hb with rfl | rfl <;> omega
      exact I1.fpOk hle (I1.hok.fresh hle)
    rcases q with ⟨hq, q⟩ | ⟨hq, q⟩
    · obtain ⟨its, rv, p', hz⟩ := I1.list hq
      refine call_enumerate_list p'.isList fun h' he hit hsz hk => wpAny_pyIter_enum he ?_
      have I2 : Inv X pins σ H1 { s1 with heap := h' } := I1.kept (t' := s1.toks) hk
      exact ⟨s1.heap.objs.size + 1, [s1.heap.objs.size + 1, s1.heap.objs.size], _, _, H1, rfl, I2, turn_enum a (s1.heap.objs.size + 1) s1.heap.objs.size, ⟨⟨.none, he⟩, hit, Nat.succ_ne_self _⟩, fun b hb => fp b (by simpa using hb) I2, q⟩
    · obtain ⟨its, rv, p', hz⟩ := I1.tuple hq
      have p2 : s1.heap.IsTuple a its.toArray := p'
      have la : a < s1.heap.objs.size := by obtain ⟨_, z, _⟩ := p2; exact Heap.lt_size z
      refine mi_enum (begins_tuple a its.toArray) p2 fun h' he hit hk => wpAny_pyIter_enum he ?_
      have I2 : Inv X pins σ H1 { s1 with heap := h' } := I1.kept (t' := s1.toks) hk
      exact ⟨s1.heap.objs.size + 1, [s1.heap.objs.size + 1, s1.heap.objs.size], _, _, H1, rfl, I2, mi_turn a (s1.heap.objs.size + 1) s1.heap.objs.size, ⟨⟨.none, he⟩, ⟨_, hit, rfl, rfl⟩, Nat.succ_ne_self _, Nat.ne_of_lt la, Nat.ne_of_lt (Nat.lt_succ_of_lt la)⟩, fun b hb => fp b (by simpa using hb) I2, q⟩
theorem zw_get {l : List MV} {i : Nat} {d : MV} (h : (numd l)[i]? = some d) : ∃ x, l[i]? = some x ∧ d = .tup [.int (i : Nat), x] := by
  unfold numd at h
  rw [List.getElem?_zipWith] at h
  cases e : l[i]? with
  | none => rw [e] at h; cases h' : (List.range l.length)[i]? <;> rw [h'] at h <;> cases h
  | some x =>
    have hi : i < l.length := (List.getElem?_eq_some_iff.mp e).1
    rw [e, List.getElem?_range hi] at h
    exact ⟨x, rfl, (Option.some.inj h).symm⟩
@[simp] theorem zw_len {l : List MV} : (numd l).length = l.length := by simp [numd]
/-- a new pair is laid -/
theorem lay_pair {x y : MV} {u v : V} {T : Addr} (M : RM K β H m) (h1 : RV K β H x u) (h2 : RV K β H y v) (hT : H T = none) : Ext β H β (upd H T (.tup [u, v])) ∧ RM K β (upd H T (.tup [u, v])) m ∧ RV K β (upd H T (.tup [u, v])) (.tup [x, y]) (.ref T) := by
  have e : Ext β H β (upd H T (.tup [u, v])) := Ext.tup hT
  exact ⟨e, M.tup hT, .tup (.inl (.inl upd_same)) (.cons (h1.ext M e) (.cons (h2.ext M e) .nil))⟩
theorem walkM_enumT {a : Addr} {l : List MV} {vs : List V} (M : RM K β H m) (h : SqT K H a vs) (r : RVs K β H l vs) : WalkM K β H ⟨numd l, fun _ => True⟩ (ItEt K a) := by
  refine ⟨fun H1 => SqT K H1 a vs, fun i H1 x H2 => ∃ T y, x = .ref T ∧ H1 T = none ∧ H2 = upd H1 T (.tup [.int (i : Nat), y]) ∧ vs[i]? = some y, ⟨fun i H1 hi g => ?_, fun H1 g => ?_, fun i H1 x H2 _ g y => ?_⟩, fun β1 H1 m1 e M1 _ => M.sqt e h, fun i H1 x H2 β1 m1 d e M1 _ hi y => ?_⟩
  · have hi : i < vs.length := by rw [← r.length]; simpa using hi
    exact ⟨vs, vs[i], g, by simp [hi]⟩
  · exact ⟨vs, g, by rw [← r.length]; simp⟩
  · obtain ⟨T, x', q1, q2, q3, q4⟩ := y
    exact ⟨T, x', q1, q2, q3, q4 vs g⟩
  · obtain ⟨T, y, rfl, q2, rfl, q4⟩ := y
    obtain ⟨x, hx, rfl⟩ := zw_get hi
    obtain ⟨v, h1, h2⟩ := (r.ext M e).get hx
    rw [h1] at q4; cases q4
    exact lay_pair M1 (.int _) h2 q2
theorem walkM_enumL {a : Addr} {d : MV} {l : List MV} (M : RM K β H m) (rd : RV K β H d (.ref a)) (h : lstOf m d = some l) : WalkM K β H ⟨numd l, fun m' => lstOf m' d = some l⟩ (Ite K a) := by
  refine ⟨fun H1 => ∃ vs, SqL K H1 a vs ∧ vs.length = l.length, fun i H1 x H2 => ∃ T y, x = .ref T ∧ H1 T = none ∧ H2 = upd H1 T (.tup [.int (i : Nat), y]) ∧ ∀ vs, SqL K H1 a vs → vs[i]? = some y, ⟨fun i H1 hi g => ?_, fun H1 g => ?_, fun i H1 x H2 _ g y => y⟩, fun β1 H1 m1 e M1 hc => ?_, fun i H1 x H2 β1 m1 d' e M1 hc hi y => ?_⟩
  · obtain ⟨vs, g1, g2⟩ := g
    have hi' : i < vs.length := by rw [g2]; simpa using hi
    exact ⟨vs, vs[i], g1, by simp [hi']⟩
  · obtain ⟨vs, g1, g2⟩ := g
    exact ⟨vs, g1, by rw [g2]; simp⟩
  · obtain ⟨a', vs, e1, h1, h2⟩ := M1.lst (rd.ext M e) hc
    cases e1
    exact ⟨vs, h1, h2.length.symm⟩
  · obtain ⟨T, y, rfl, q2, rfl, q4⟩ := y
    obtain ⟨x, hx, rfl⟩ := zw_get hi
    obtain ⟨a', vs, e1, h1, h2⟩ := M1.lst (rd.ext M e) hc
    cases e1
    obtain ⟨v, z1, z2⟩ := h2.get hx
    have := q4 vs h1
    rw [z1] at this; cases this
    exact lay_pair M1 (.int _) z2 q2
theorem ji_enum {e : Expr} {g : MA} {p tpos : Pos} {elts : List Expr} {kk : Nat} (hm : X.mg "enumerate" = none) (ha : JA X W [e] g) (hg : Gl X "enumerate" := by rfl) (hs : starEach [e] X.env = [(false, eval e X.env)] := by rfl) : JI X W (.Tuple elts kk tpos) (.Call (.Name "enumerate" p) [e] [] pos) (mEnum g) := by
  refine ⟨pi_imp (pi_enumA hg hm ha.run hs) fun σ H R ⟨ρ, m, β, hE, hM, p⟩ => ⟨ρ, m, β, hE, hM, ?_⟩⟩
  have p : PostI X W ((g ρ m).bind enumOf) β H σ R := p
  cases hf : g ρ m with
  | stuck => rw [hf] at p; exact p.elim
  | ex x m1 => rw [hf] at p; exact p
  | ok ds m1 =>
    rw [hf] at p
    intro vs H1 β1 e1 M1 V1
    have p : PostI X W (enumOf ds m1) β H σ R := p
    unfold enumOf at p
    split at p
    · cases V1 with
      | cons V1 V2 =>
        cases V2
        cases V1 with
        | tup h1 h2 => exact ⟨_, _, rfl, .inr ⟨h1, p _ _ _ e1 M1 (walkM_enumT M1 h1 h2)⟩⟩
    · cases V1 with
      | cons V1 V2 =>
        cases V2
        split at p
        · rename_i l hl
          obtain ⟨a, vs, rfl, h1, h2⟩ := M1.lst V1 hl
          exact ⟨a, vs, rfl, .inl ⟨h1, p _ _ _ e1 M1 (walkM_enumL M1 V1 hl)⟩⟩
        · exact p.elim
    · exact p.elim
end
end MI
namespace PySem
open Sem (wp)
structure ZSet (z TI TO i1 i2 l1 l2 S N : Addr) : Prop where
  D : ZipApart z TI TO i1 i2 l1 l2
  Sz : S ≠ z
  SI : S ≠ TI
  SO : S ≠ TO
  S1 : S ≠ i1
  S2 : S ≠ i2
  Sl1 : S ≠ l1
  Sl2 : S ≠ l2
  Lz : z < N
  LI : TI < N
  LO : TO < N
  L1 : i1 < N
  L2 : i2 < N
  LS : S < N
structure ZFin (h0 : Heap) (S N : Addr) (xs ys acc : Array Value) (h : Heap) : Prop where
  keep : ∀ b o, h0.get? b = some o → h.get? b = some o
  lst : ∃ c, h.get? S = some { cls := .type "list", dict := none, data := .seq acc c, slots := #[] }
  items : ∀ (j : Nat) (v : Value), acc[j]? = some v → ∃ T x y, v = .ref T ∧ N ≤ T ∧ IsPair h T x y ∧ xs[j]? = some x ∧ ys[j]? = some y
  above : h0.objs.size ≤ N
  inc : ∀ (j k T U : Nat), acc[j]? = some (.ref T) → acc[k]? = some (.ref U) → j < k → T < U
structure ZAt (h0 : Heap) (z TI TO i1 i2 l1 l2 S N : Addr) (xs ys : Array Value) (i : Nat) (acc : Array Value) (h : Heap) : Prop extends ZFin h0 S N xs ys acc h where
  zst : IsZip h z TI TO .none ∨ ∃ T f oT, IsZipHeld h z TI TO T f ∧ h.get? T = some oT ∧ N ≤ T
  ti : IsPair h TI (.ref i1) (.ref i2)
  to : ∃ a b, IsPair h TO a b
  it1 : h.IsListIter i1 l1 i
  it2 : h.IsListIter i2 l2 i
  low : N ≤ h.objs.size
  top : ∀ (j T : Nat), acc[j]? = some (.ref T) → T < h.objs.size
  in0 : ∀ b o, h0.get? b = some o → b ≠ z ∧ b ≠ TI ∧ b ≠ TO ∧ b ≠ i1 ∧ b ≠ i2 ∧ b ≠ S
section
variable {prog : Program} {w : World} {A : Around} {R : Result → Shared → Prop} {h0 : Heap} {z TI TO i1 i2 l1 l2 S N : Addr} {xs ys : Array Value}
theorem ZAt.put {i T : Nat} {h : Heap} {acc : Array Value} {x y : Value} {c : Nat} (Z : ZSet z TI TO i1 i2 l1 l2 S N) (a : ZAt h0 z TI TO i1 i2 l1 l2 S N xs ys (i + 1) acc h) (hi : acc.size = i) (hS : h.get? S = some { cls := .type "list", dict := none, data := .seq acc c, slots := #[] })
    (hT : IsPair h T x y) (hN : N ≤ T) (new : ∀ (j U : Nat), acc[j]? = some (.ref U) → U < T) (hx : xs[i]? = some x) (hy : ys[i]? = some y) : ZAt h0 z TI TO i1 i2 l1 l2 S N xs ys (i + 1) (acc.push (.ref T)) (h.update S (Obj.mapSeq (·.push (.ref T)))) := by
  have oth : ∀ b o, b ≠ S → h.get? b = some o → (h.update S (Obj.mapSeq (·.push (.ref T)))).get? b = some o := fun b o hb e => (Heap.get?_update_other _ _ (Ne.symm hb)).trans e
  have ge : ∀ b, N ≤ b → b ≠ S := fun b hb => Nat.ne_of_gt (Nat.lt_of_lt_of_le Z.LS hb)
  exact
    { keep := fun b o e => oth b o (a.in0 b o e).2.2.2.2.2 (a.keep b o e)
      lst := ⟨_, Heap.get?_update_self _ hS rfl⟩
      items := fun j v e => by
        rw [Array.getElem?_push] at e
        split at e
        · rename_i ej
          cases e
          rw [hi] at ej
          subst ej
          exact ⟨T, x, y, rfl, hN, oth _ _ (ge T hN) hT, hx, hy⟩
        · obtain ⟨T', x', y', e1, e2, e3, e4⟩ := a.items j v e
          exact ⟨T', x', y', e1, e2, oth _ _ (ge T' e2) e3, e4⟩
      above := a.above
      inc := fun j k U V e1 e2 hjk => by
        rw [Array.getElem?_push] at e1 e2
        split at e2
        · rename_i ek
          cases e2
          rw [if_neg (by omega)] at e1
          exact new j U e1
        · split at e1
          · have : k < acc.size := by
              rw [Array.getElem?_eq_some_iff] at e2
              exact e2.1
            omega
          · exact a.inc j k U V e1 e2 hjk
      top := fun j U e => by
        rw [Heap.size_update]
        rw [Array.getElem?_push] at e
        split at e
        · cases e; exact Heap.lt_size hT
        · exact a.top j U e
      zst := a.zst.elim (fun q => .inl (oth _ _ (Ne.symm Z.Sz) q)) fun ⟨T', f, oT, q, qT, qN⟩ => .inr ⟨T', f, oT, oth _ _ (Ne.symm Z.Sz) q, oth _ _ (ge T' qN) qT, qN⟩
      ti := oth _ _ (Ne.symm Z.SI) a.ti
      to := let ⟨u, v, q⟩ := a.to; ⟨u, v, oth _ _ (Ne.symm Z.SO) q⟩
      it1 := a.it1.at fun o e => oth _ _ (Ne.symm Z.S1) e
      it2 := a.it2.at fun o e => oth _ _ (Ne.symm Z.S2) e
      low := by rw [Heap.size_update]; exact a.low
      in0 := a.in0 }
end
end PySem
namespace MI
open PySem L2
variable [Nms]
section
variable {X : Cx} {W : WX} {pins : List (Addr × Obj)} {σ : L2.St} {H : Hp} {s : Shared} {pos : Pos} {K : PySem.W.Frag} {β : List Addr} {m : Mem}
/-- the items of both, side by side -/
def gZip : List MV → Mem → Re MV
  | [d, e], m => match lstOf m d, lstOf m e with
    | some l, some k => .ok (.tup ((l.zip k).map fun p => .tup [p.1, p.2])) m
    | _, _ => .stuck
  | _, _ => .stuck
end
end MI
namespace MI
open PySem L2
variable [Nms]
section
variable {X : Cx} {W : WX} {pos : Pos} {K : PySem.W.Frag} {β : List Addr} {H : Hp} {m : Mem}
def rEqE (K : PySem.W.Frag) : R2 := fun x y H Q => ∃ a b xs ys, x = .ref a ∧ y = .ref b ∧ SqL K H a xs ∧ SqL K H b ys ∧ ((xs = [] ∧ Q (.bl ys.isEmpty) H) ∨ (ys = [] ∧ Q (.bl xs.isEmpty) H))
theorem op_eqE (hu : X.A.units < cLine) : OpR X (compareOp .Eq) (rEqE X.K) := by
  intro pins s σ H x y v u Q I rx ry h
  obtain ⟨a, b, xs, ys, rfl, rfl, hx, hy, q⟩ := h
  cases rx
  cases ry
  obtain ⟨i1, r1, p1, _⟩ := I.list hx
  obtain ⟨i2, r2, p2, _⟩ := I.list hy
  have n1 := r1.length
  have n2 := r2.length
  have both : ∀ {c : Bool}, (i1.toArray.size = 0 ∨ i2.toArray.size = 0) → c = (decide (i1.length = i2.length)) → Q (.bl c) H → wpAny (model X.prog X.w) X.A (compareOp .Eq (.ref a) (.ref b)) (EP X pins σ Q) X.xe s := by
    intro c he hc z
    by_cases e : i1.length = i2.length
    · refine SeqAt.eq_listAt (e := fun _ => true) p1.isList p2.isList (by simpa using e) hu (fun j h1 h2 => ?_) ?_
      · rcases he with he | he <;> omega
      · rw [hc, decide_eq_true e] at z
        have : ((List.range i1.toArray.size).all fun _ => true) = true := List.all_eq_true.mpr fun _ _ => rfl
        rw [this]
        exact ⟨.bl true, H, I, rfl, z⟩
    · refine SeqAt.eq_list_lengthsAt p1.isList p2.isList (by simpa using e) hu ?_
      rw [hc, decide_eq_false e] at z
      exact ⟨.bl false, H, I, rfl, z⟩
  rcases q with ⟨rfl, q⟩ | ⟨rfl, q⟩
  · refine both (.inl (by simp; simpa using n1.symm)) ?_ q
    cases ys with
    | nil => simp only [List.isEmpty_nil]; exact (decide_eq_true (by simp at n1 n2; omega)).symm
    | cons y r => simp only [List.isEmpty_cons]; exact (decide_eq_false (by simp at n1 n2; omega)).symm
  · refine both (.inr (by simp; simpa using n2.symm)) ?_ q
    cases xs with
    | nil => simp only [List.isEmpty_nil]; exact (decide_eq_true (by simp at n1 n2; omega)).symm
    | cons y r => simp only [List.isEmpty_cons]; exact (decide_eq_false (by simp at n1 n2; omega)).symm
def gEqE (a b : MV) (m : Mem) : Re MV := match lstOf m a, lstOf m b with
  | some l, some [] => .ok (.bl l.isEmpty) m
  | _, _ => .stuck
theorem om_eqE : OpM X (rEqE X.K) gEqE := by
  intro W σ d e m β H x y Q M rx ry p
  unfold gEqE at p
  split at p
  · rename_i l h1 h2
    obtain ⟨a, xs, rfl, q1, q2⟩ := M.lst rx h1
    obtain ⟨b, ys, rfl, q3, q4⟩ := M.lst ry h2
    have n1 := q2.length
    have n2 := q4.length
    have e2 : ys = [] := by cases ys with | nil => rfl | cons _ _ => simp at n2
    refine ⟨a, b, xs, ys, rfl, rfl, q1, q3, .inr ⟨e2, ?_⟩⟩
    have : xs.isEmpty = l.isEmpty := by cases xs <;> cases l <;> simp_all
    rw [this]
    exact p.ok M (.bl _)
  · exact p.not_stuck
def fV : MV → Option V
  | .non => some .non
  | .bl b => some (.bl b)
  | .int i => some (.int i)
  | .str s => some (.str s)
  | _ => none
theorem RV.fl2 {d : MV} {v u : V} (r : RV K β H d v) (h : fV d = some u) : v = u ∧ flatV v = true := by
  cases r <;> cases h <;> exact ⟨rfl, rfl⟩
def fVs : List MV → Option (List V)
  | [] => some []
  | d :: r => match fV d, fVs r with
    | some v, some vs => some (v :: vs)
    | _, _ => none
theorem RVs.fl2 : ∀ {l : List MV} {vs us : List V}, RVs K β H l vs → fVs l = some us → vs = us ∧ vs.all flatV = true
  | [], _, _, .nil, h => by cases h; exact ⟨rfl, rfl⟩
  | d :: r, _, _, .cons a b, h => by
    unfold fVs at h
    split at h
    · rename_i v vs h1 h2
      cases h
      obtain ⟨rfl, f1⟩ := a.fl2 h1
      obtain ⟨rfl, f2⟩ := RVs.fl2 b h2
      exact ⟨rfl, by rw [List.all_cons, f1, f2]; rfl⟩
    · cases h
def gCnt (d : MV) (ds : List MV) (m : Mem) : Re MV := match ds with
  | [e] => match (lstOf m d).bind fVs, fV e with
    | some us, some u => .ok (.int ((us.countP fun z => eqV z u : Nat) : Int)) m
    | _, _ => .stuck
  | _ => .stuck
theorem lst_flat {d : MV} {us : List V} (h : (lstOf m d).bind fVs = some us) : ∃ l, lstOf m d = some l ∧ fVs l = some us := by
  cases e : lstOf m d with
  | none => rw [e] at h; cases h
  | some l => rw [e] at h; exact ⟨l, rfl, h⟩
def gIdx (d : MV) (ds : List MV) (m : Mem) : Re MV := match ds with
  | [e] => match (lstOf m d).bind fVs, fV e with
    | some us, some u => match us.findIdx? fun z => eqV z u with
      | some j => .ok (.int (j : Nat)) m
      | none => .stuck
    | _, _ => .stuck
  | _ => .stuck
theorem mm_idx : MtMm X (rIndex X.K) gIdx := by
  intro W σ d ds m β H x vs Q M rx rv p
  unfold gIdx at p
  split at p
  · split at p
    · rename_i us u h1 h2
      split at p
      · rename_i j hj
        cases rv with
        | cons r1 r2 =>
          cases r2
          obtain ⟨l, e1, e2⟩ := lst_flat h1
          obtain ⟨a, ys, rfl, q1, q2⟩ := M.lst rx e1
          obtain ⟨rfl, f1⟩ := q2.fl2 e2
          obtain ⟨rfl, f2⟩ := r1.fl2 h2
          obtain ⟨hl, z1, z2⟩ := List.findIdx?_eq_some_iff_getElem.mp hj
          refine ⟨a, _, _, j, _, rfl, rfl, q1, f2, f1, List.getElem?_eq_getElem hl, z1, fun k z hk hz => ?_, p.ok M (.int _)⟩
          have := z2 k hk
          obtain ⟨hk', rfl⟩ := List.getElem?_eq_some_iff.mp hz
          simpa using this
      · exact p.not_stuck
    · exact p.not_stuck
  · exact p.not_stuck
def leS (a b : Str) : Bool := !Spec.ltCps b.cps.toList a.cps.toList
def sortM (xs : List Str) : List Str := xs.mergeSort leS
def gSortS : List MV → Mem → Re MV
  | [d], m => match (lstOf m d).bind strsOf with
    | some xs => if xs.length < 64 then alloc (.lst ((sortM xs).map .str)) m else .stuck
    | none => .stuck
  | _, _ => .stuck
end
end MI
namespace MI
open PySem L2
variable [Nms]
section
variable {X : Cx} {W : WX} {pos : Pos} {K : PySem.W.Frag} {β : List Addr} {H : Hp} {m : Mem}
inductive Ents (K : PySem.W.Frag) : List DictEntry → List (Str × MV) → Prop
  | nil : Ents K [] []
  | cons {e : DictEntry} {k : Str} {t : Tok} {u : Value} {v : V} {d : MV} {l : List DictEntry} {r : List (Str × MV)} : e.key = .str k t → e.val = u → RelV v u → (∀ β H, RV K β H d v) → Ents K l r → Ents K (e :: l) ((k, d) :: r)
structure KTab (K : PySem.W.Frag) (w : World) (mg : Str → Option Value) (x : Str) (tbl : List (Str × MV)) : Prop where
  ex : ∃ (d : Addr) (es : Array DictEntry) (n : Nat), mg x = some (.ref d) ∧ KDict K w d es n ∧ Ents K es.toList tbl
theorem Ents.find {z : Str} : ∀ {l : List DictEntry} {r : List (Str × MV)}, Ents K l r → l.any (·.refKey) = false ∧ match r.lookup z with
    | some d => ∃ (e : DictEntry) (v : V), l.find? (·.key.isStr z) = some e ∧ RelV v e.val ∧ ∀ β H, RV K β H d v
    | none => l.find? (·.key.isStr z) = none
  | _, _, .nil => ⟨rfl, rfl⟩
  | _, _, .cons (e := e) (k := k) (v := v) (d := d) (l := l) (r := r) h1 h2 h3 h4 h5 => by
    obtain ⟨i1, i2⟩ := Ents.find (z := z) h5
    refine ⟨?_, ?_⟩
    · rw [List.any_cons, i1, Bool.or_false]
      unfold DictEntry.refKey
      rw [h1]
    · rw [List.lookup_cons, List.find?_cons]
      have e1 : e.key.isStr z = (k == z) := by rw [h1]; rfl
      rw [e1]
      by_cases hk : k = z
      · subst hk
        simp only [beq_self_eq_true]
        exact ⟨e, v, rfl, by rw [h2]; exact h3, h4⟩
      · rw [beq_eq_false_iff_ne.mpr hk, beq_eq_false_iff_ne.mpr (Ne.symm hk)]
        exact i2
theorem KTab.at_ {w : World} {mg : Str → Option Value} {x : Str} {tbl : List (Str × MV)} (T : KTab K w mg x tbl) : ∃ (d : Addr) (es : Array DictEntry) (n : Nat), mg x = some (.ref d) ∧ KDict K w d es n ∧ ∀ z, match tbl.lookup z with
    | some c => ∃ (u : Value) (v : V), PySem.W.nsIn K d z = some (some u) ∧ RelV v u ∧ ∀ β H, RV K β H c v
    | none => PySem.W.nsIn K d z = some none := by
  obtain ⟨d, es, n, h1, h2, h3⟩ := T.ex
  refine ⟨d, es, n, h1, h2, fun z => ?_⟩
  obtain ⟨i1, i2⟩ := h3.find (z := z)
  have e : PySem.W.nsIn K d z = match es.toList.find? (·.key.isStr z) with
      | some e => some (some e.val)
      | none => if es.toList.any (·.refKey) then none else some none := by
    unfold PySem.W.nsIn
    rw [h2.at_] <;> rfl
  cases hl : tbl.lookup z with
  | some c =>
    rw [hl] at i2
    obtain ⟨en, v, q1, q2, q3⟩ := i2
    exact ⟨en.val, v, by rw [e, q1], q2, q3⟩
  | none =>
    rw [hl] at i2
    rw [e, i2, i1]
    rfl
def mInK (tbl : List (Str × MV)) (f : ME) : ME := fun ρ m => (f ρ m).bind fun d m1 => match d with
  | .str z => .ok (.bl (tbl.lookup z).isSome) m1
  | _ => .stuck
def mItemK (tbl : List (Str × MV)) (f : ME) : ME := fun ρ m => (f ρ m).bind fun d m1 => match d with
  | .str z => match tbl.lookup z with
    | some c => .ok c m1
    | none => .stuck
  | _ => .stuck
end
end MI
namespace MI
open PySem L2
variable [Nms]
section
variable {X : Cx} {W : WX} {pos : Pos} {K : PySem.W.Frag} {β : List Addr} {H : Hp} {m : Mem}
/-- a list, a tuple, or a text by its signs -/
def seqIt : MV → Mem → Re IterM
  | .str z, m => .ok ⟨z.cps.toList.map fun c => .str ⟨#[c]⟩, fun _ => True⟩ m
  | .tup l, m => .ok ⟨l, fun _ => True⟩ m
  | .ref n, m => match lstOf m (.ref n) with
    | some l => .ok ⟨l, fun m' => lstOf m' (.ref n) = some l⟩ m
    | none => .stuck
  | _, _ => .stuck
def mAnyI (f : ME) : MI' := fun ρ m => (f ρ m).bind seqIt
theorem walkM_str {z : Str} : WalkM K β H ⟨z.cps.toList.map fun c => .str ⟨#[c]⟩, fun _ => True⟩ (Its z) := by
  refine ⟨fun _ => True, fun i H v H' => H' = H ∧ ∃ c, z.cps[i]? = some c ∧ v = .str ⟨#[c]⟩, ?_, fun _ _ _ _ _ _ => trivial, fun i H1 x H2 β1 m1 d e M1 _ hi y => ?_⟩
  · show Walk _ (List.map _ _).length _ _
    rw [List.length_map, Array.length_toList]
    exact walk_str
  · obtain ⟨rfl, c, h1, rfl⟩ := y
    rw [List.getElem?_map, Array.getElem?_toList, h1] at hi
    cases hi
    exact ⟨Ext.refl, M1, .str _⟩
theorem ji_any {tg e : Expr} {f : ME} (h : JE X W e f) : JI X W tg e (mAnyI f) := by
  refine ⟨pi_imp (pi_or (pi_str h.run) (pi_or (pi_list h.run) (pi_tup h.run))) fun σ H R ⟨ρ, m, β, hE, hM, p⟩ => ?_⟩
  have p : PostI X W ((f ρ m).bind seqIt) β H σ R := p
  have go : ∀ (t : V → Hp → Prop), (∀ d m1 β1 H1 v, f ρ m = .ok d m1 → Ext β H β1 H1 → RM X.K β1 H1 m1 → RV X.K β1 H1 d v → t v H1) → tE X W f σ H t := by
    intro t q
    refine ⟨ρ, m, β, hE, hM, ?_⟩
    cases hf : f ρ m with
    | stuck => rw [hf] at p; exact p.elim
    | ex x m1 => rw [hf] at p; exact p
    | ok d m1 => exact fun v H1 β1 e1 M1 V1 => q d m1 β1 H1 v hf e1 M1 V1
  cases hf : f ρ m with
  | stuck => rw [hf] at p; exact p.elim
  | ex x m1 => exact .inl (go _ fun d m2 β1 H1 v e => by rw [hf] at e; cases e)
  | ok d m1 =>
    rw [hf] at p
    have p : PostI X W (seqIt d m1) β H σ R := p
    cases d with
    | str z =>
      refine .inl (go _ fun d m2 β1 H1 v e e1 M1 V1 => ?_)
      rw [hf] at e
      cases e
      cases V1
      exact ⟨z, rfl, p _ _ _ e1 M1 walkM_str⟩
    | tup l =>
      refine .inr (.inr (go _ fun d m2 β1 H1 v e e1 M1 V1 => ?_))
      rw [hf] at e
      cases e
      cases V1 with
      | tup h1 h2 => exact ⟨_, rfl, ⟨_, h1⟩, p _ _ _ e1 M1 (walkM_tup M1 h1 h2)⟩
    | ref n =>
      refine .inr (.inl (go _ fun d m2 β1 H1 v e e1 M1 V1 => ?_))
      rw [hf] at e
      cases e
      have p : PostI X W (match lstOf m1 (.ref n) with
        | some l => .ok ⟨l, fun m' => lstOf m' (.ref n) = some l⟩ m1
        | none => .stuck) β H σ R := p
      cases hl : lstOf m1 (.ref n) with
      | none => rw [hl] at p; exact p.elim
      | some l =>
        rw [hl] at p
        obtain ⟨a, vs, rfl, h1, h2⟩ := M1.lst V1 hl
        exact ⟨a, rfl, ⟨vs, h1⟩, p _ _ _ e1 M1 (walkM_lst M1 V1 hl)⟩
    | non => exact p.elim
    | bl _ => exact p.elim
    | int _ => exact p.elim
    | kl _ => exact p.elim
    | clo _ _ => exact p.elim
/-- which classes a clause by that name takes -/
structure HndN (K : PySem.W.Frag) (mg : Str → Option Value) (x : Str) (P : Str → Option Bool) : Prop where
  ex : ∃ C : Addr, mg x = some (.ref C) ∧ Exm K (.ref C) P
/-- what isinstance(.., x) says of exceptions -/
structure IsxN (K : PySem.W.Frag) (mg : Str → Option Value) (x : Str) (P : Str → Option Bool) : Prop where
  ex : ∃ (c : V) (cv : Value), RelV c cv ∧ (∀ u, RelV c u → u = cv) ∧ ClsV c cv ∧ (mg x = some cv ∨ (mg x = none ∧ bootBuiltins x = some cv)) ∧ Isx K cv P
theorem je_isxN {e : Expr} {x : Str} {p q : Pos} {f : ME} {P : Str → Option Bool} (h : JE X W e f) (T : IsxN X.K X.mg x P) (hm : X.mg "isinstance" = none) (hg : Gl X "isinstance" := by rfl) (hgx : Gl X x := by rfl) (hn : x ≠ "__name__" := by decide) (hd : (x == ("__debug__" : Str)) = false := by decide)
    (he : starEach (e :: [.Name x q]) X.env = (false, eval e X.env) :: starEach [.Name x q] X.env := by rfl) (he2 : starEach (.Name x q :: []) X.env = (false, eval (.Name x q) X.env) :: starEach [] X.env := by rfl) (hpl : (backTo pos (starEach [.Name x q] X.env)).any (·.1) = false := by rfl) : JE X W (.Call (.Name "isinstance" p) [e, .Name x q] [] pos) (mIsx P f) := by
  obtain ⟨c, cv, r, hcv, hcl, hx, T⟩ := T.ex
  rcases hx with hx | ⟨hx, hb⟩
  · exact je_isx h hcv hcl (pe_glob hgx hx r hd) T hm hg he he2 hpl
  · exact je_isx h hcv hcl (pe_bltn hgx hx hb r hn hd) T hm hg he he2 hpl
section
variable {body : List Stmt} {f : MS} {P : Str → Option Bool}
theorem jx_tryKN (i j : Nat) {x n y : Str} {np py pn' spos pos' : Pos} (hs : X.stack = X.env :: X.outer) (hf : X.env.frame = some X.env.locals) (hex : X.ex = []) (hN : X.N.Nodup) (T : HndN X.K X.mg x P) (tk : Takes X W)
    (hb : ∀ (W' : WX) (pn : List (Addr × Obj)) (xe : Value → Shared → Prop), Takes (X.tr pn xe) W' → PassesOwn (model X.prog X.w) X.A X.env xe → JB (X.tr pn xe) W' body f)
    (hg : Gl X x := by rfl) (hdb : (x == ("__debug__" : Str)) = false := by decide) (hi : X.N[i]? = some n := by rfl) (hln : X.env.kindOf n = some .local := by rfl) (hj : X.N[j]? = some y := by rfl) (hly : X.env.kindOf y = some .local := by rfl)
    (hd1 : (n == ("__debug__" : Str)) = false := by decide) (hd2 : (n == ("__classdict__" : Str)) = false := by decide) :
    JS X W (.Try body [.ExceptHandler (some (.Name x np)) (some n) [.Assign [.Name y py] (.Name n pn') spos] pos'] [] [] pos) (mTryK P i j f) := by
  obtain ⟨C, h1, h2⟩ := T.ex
  exact jx_tryK i j hs hf hex hN ⟨hg, hdb, .inl h1⟩ h2 tk hb hi hln hj hly hd1 hd2
end
end
end MI
namespace MI
open PySem L2
variable [Nms]
theorem hu0 {k : Nat} {X : L2.Cx} (hr : L2.Room k X.A) : X.A.units < PySem.cLine := Nat.lt_of_succ_lt (hu1 hr)
/-- a def of the module -/
structure DefAt (K : PySem.W.Frag) (mg : Str → Option Value) (x : Str) (st : Stmt) (ps : List Str) : Prop where
  ex : ∃ (f : Addr) (fd : FuncData), Fun K x x st f fd ∧ mg x = some (.ref f) ∧ PySem.W.keepIn K (.ref f) = true ∧ Binds K fd ps []
section
variable {K : PySem.W.Frag} {h : Heap} {mg : Str → Option Value} {w : World}
theorem def_mk {x : Str} {st : Stmt} {ps : List Str} {f : Addr} {oc : Value} {od an : Option Addr} {osl : Array (Option Value)} {kV doc pm cdv ct : Value} (X : K.In h) (G : h.Ns mainGlobals mg)
    (a : PySem.W.nsIn K mainGlobals x = some (some (.ref f))) (l : K.lookup f = some ⟨oc, od, .func (PySem.W.fnOf x x (defArgs st) (defBody st) (defScope st) .none kV doc pm an cdv ct), osl⟩) (c : PySem.W.codeIn K cdv x = true) (k : PySem.W.keepIn K (.ref f) = true)
    (b : ∀ (kV doc pm : Value) (an : Option Addr) (cdv ct : Value) (us : List Value), us.length = ps.length → bindArgs (PySem.W.fnOf x x (defArgs st) (defBody st) (defScope st) .none kV doc pm an cdv ct) ⟨us, []⟩ = pure (ps.zip us)) : DefAt K mg x st ps :=
  ⟨f, _, fun_mk l c k, PySem.W.mg_of X G a, k, (fun_mk l c k).binds b⟩
theorem DefAt.fnx {P : Program} {base : Heap} {M : Mode} {x : Str} {st : Stmt} {ps : List Str} {k n : Nat} {F : MF} (D : DefAt K mg x st ps) (hok : ∀ f fd, Fun K x x st f fd → FnOk P w K mg base (M.CX P w) k f fd ps (spM K n F)) : FnX M P w K mg base k x n F := by
  obtain ⟨f, fd, h1, h2, h3, h4⟩ := D.ex
  exact ⟨f, fd, ps, hok f fd h1, h2, h3, h4⟩
theorem DefAt.fn0 {P : Program} {base : Heap} {M : Mode} {x : Str} {st : Stmt} {ps : List Str} {n : Nat} (D : DefAt K mg x st ps) (hn : ps.length = n) : FnX M P w K mg base 0 x n (fun _ _ => .stuck) := by
  obtain ⟨f, fd, h1, h2, h3, h4⟩ := D.ex
  exact fnx_0 hn h2 h3 h4
/-- a written constant, as it stands in the fragment; n bounds the depth -/
def conB (K : PySem.W.Frag) : Nat → MV → Value → Bool
  | _, .non, .none => true
  | _, .bl a, .bool b => a == b
  | _, .int a, .int b _ => a == b
  | _, .str a, .str b _ => a == b
  | n + 1, .tup l, .ref a => match K.lookup a with
    | some ⟨.type c, _, .seq its _, _⟩ => c == "tuple" && (l.length == its.size && decide (its.size ≤ 1000)) && (l.zip its.toList).all fun p => conB K n p.1 p.2
    | _ => false
  | _, _, _ => false
theorem conB_ok : ∀ {n : Nat} {d : MV} {u : Value}, conB K n d u = true → ∃ v, RelV v u ∧ ∀ β H, RV K β H d v := by
  intro n
  induction n with
  | zero =>
    intro d u e
    cases d <;> cases u <;> simp [conB] at e
    · exact ⟨.non, rfl, fun _ _ => .non⟩
    · subst e; exact ⟨.bl _, rfl, fun _ _ => .bl _⟩
    · subst e; exact ⟨.int _, ⟨_, rfl⟩, fun _ _ => .int _⟩
    · subst e; exact ⟨.str _, ⟨_, rfl⟩, fun _ _ => .str _⟩
  | succ n ih =>
    intro d u e
    cases d <;> cases u <;> simp [conB] at e
    · exact ⟨.non, rfl, fun _ _ => .non⟩
    · subst e; exact ⟨.bl _, rfl, fun _ _ => .bl _⟩
    · subst e; exact ⟨.int _, ⟨_, rfl⟩, fun _ _ => .int _⟩
    · subst e; exact ⟨.str _, ⟨_, rfl⟩, fun _ _ => .str _⟩
    · rename_i l a
      split at e
      · rename_i c dd its k sl hl
        rw [Bool.and_eq_true, Bool.and_eq_true, Bool.and_eq_true, beq_iff_eq, beq_iff_eq, decide_eq_true_eq, List.all_eq_true] at e
        obtain ⟨⟨rfl, e2, e4⟩, e3⟩ := e
        have key : ∀ (l : List MV) (us : List Value), l.length = us.length → (∀ p ∈ l.zip us, conB K n p.1 p.2 = true) → ∃ vs, Vals vs us ∧ ∀ β H, RVs K β H l vs := by
          intro l
          induction l with
          | nil =>
            intro us h1 _
            cases us with
            | nil => exact ⟨[], .nil, fun _ _ => .nil⟩
            | cons _ _ => simp at h1
          | cons d l il =>
            intro us h1 h2
            cases us with
            | nil => simp at h1
            | cons u us =>
              obtain ⟨v, r1, r2⟩ := ih (h2 (d, u) (by simp))
              obtain ⟨vs, r3, r4⟩ := il us (by simpa using h1) fun p hp => h2 p (by simp [hp])
              exact ⟨v :: vs, .cons r1 r3, fun β H => .cons (r2 β H) (r4 β H)⟩
        obtain ⟨vs, r1, r2⟩ := key l its.toList (by simpa using e2) (fun p hp => e3 p hp)
        refine ⟨.ref a, rfl, fun β H => .tup (.inr ⟨_, its, k, hl, rfl, rfl, Nat.le_of_lt (small1000 e4), r1⟩) (r2 β H)⟩
      · cases e
theorem con_any {x : Str} {d : MV} {u : Value} (n : Nat) (X : K.In h) (G : h.Ns mainGlobals mg) (a : PySem.W.nsIn K mainGlobals x = some (some u)) (e : conB K n d u = true) : Con K mg x d := by
  obtain ⟨v, r1, r2⟩ := conB_ok e
  exact ⟨u, v, PySem.W.mg_of X G a, r1, r2⟩
theorem exf_mk {x : Str} {C : Addr} (X : K.In h) (G : h.Ns mainGlobals mg) (a : PySem.W.nsIn K mainGlobals x = some (some (.ref C))) (b : PySem.W.excIn K C [.type "ValueError", .type "Exception", .type "BaseException", .type "object"] "ValueError.__new__" = true)
    (c : PySem.W.keepIn K (.ref C) = true) (d : PySem.W.subIn K (.ref C) (.type "BaseException") = some true) (e : PySem.W.typeIn K (.ref C) = some (.type "type")) : ExF K mg x := ⟨C, a, PySem.W.mg_of X G a, b, c, d, e⟩
def hndB (K : PySem.W.Frag) (c : Value) (l : List (Str × Bool)) : Bool := l.all fun p => match PySem.W.nsIn K mainGlobals p.1 with
  | some (some (.ref C)) => PySem.W.exmOne K (.ref C) c == some p.2
  | _ => false
theorem lookup_mem {α : Type} : ∀ {l : List (Str × α)} {y : Str} {b : α}, l.lookup y = some b → (y, b) ∈ l
  | (k, c) :: l, y, b, h => by
    rw [List.lookup_cons] at h
    split at h
    · rename_i e
      cases h
      rw [eq_of_beq e]
      exact List.mem_cons_self
    · exact List.mem_cons_of_mem _ (lookup_mem h)
theorem hnd_mk {x : Str} {C : Addr} {l : List (Str × Bool)} (X : K.In h) (G : h.Ns mainGlobals mg) (a : PySem.W.nsIn K mainGlobals x = some (some (.ref C))) (e : hndB K (.ref C) l = true) : HndN K mg x (fun y => l.lookup y) := by
  refine ⟨C, PySem.W.mg_of X G a, fun y D b hy hb => ?_⟩
  have q := List.all_eq_true.mp e (y, b) (lookup_mem hb)
  have hy : PySem.W.nsIn K mainGlobals y = some (some (.ref D)) := hy
  simp only [hy] at q
  exact eq_of_beq q
def excB (K : PySem.W.Frag) (D : Addr) : Bool :=
  PySem.W.findIn K (.ref D) "__getattribute__" == some (some (.builtin "BaseException.__getattribute__")) && PySem.W.findIn K (.ref D) "__getattr__" == some none && PySem.W.subIn K (.ref D) (.type "BaseException") == some true && PySem.W.hasDictIn K D &&
    PySem.W.findIn K (.ref D) "__class__" == some (some (.builtin "object.__class__")) && PySem.W.specialIn K (.builtin "object.__class__") "__get__" == some (some (.builtin "getset_descriptor.__get__")) && PySem.W.takesIn K (.builtin "object.__class__") == some true && PySem.W.mroIn K D (.type "object") == some true
theorem excB_ok {D : Addr} (e : excB K D = true) : ExcC K D := by
  unfold excB at e
  simp only [Bool.and_eq_true, beq_iff_eq] at e
  obtain ⟨⟨⟨⟨⟨⟨⟨e1, e2⟩, e3⟩, e4⟩, e5⟩, e6⟩, e7⟩, e8⟩ := e
  exact ⟨e1, e2, e3, e4, e5, e6, e7, e8⟩
def isxB (K : PySem.W.Frag) (c : Value) (l : List (Str × Bool)) : Bool := PySem.W.kitOne K (.type "NoneType") c == some false && l.all fun p => match PySem.W.nsIn K mainGlobals p.1 with
  | some (some (.ref D)) => excB K D && PySem.W.kitOne K (.ref D) c == some p.2
  | _ => false
theorem isx_of {c : Value} {l : List (Str × Bool)} (e : isxB K c l = true) : Isx K c (fun y => l.lookup y) := by
  unfold isxB at e
  rw [Bool.and_eq_true] at e
  refine ⟨fun y D b hy hb => ?_, eq_of_beq e.1⟩
  have q := List.all_eq_true.mp e.2 (y, b) (lookup_mem hb)
  have hy : PySem.W.nsIn K mainGlobals y = some (some (.ref D)) := hy
  simp only [hy, Bool.and_eq_true] at q
  exact ⟨excB_ok q.1, eq_of_beq q.2⟩
theorem isx_own {x : Str} {C : Addr} {l : List (Str × Bool)} (X : K.In h) (G : h.Ns mainGlobals mg) (a : PySem.W.nsIn K mainGlobals x = some (some (.ref C))) (e : isxB K (.ref C) l = true) : IsxN K mg x (fun y => l.lookup y) :=
  ⟨.ref C, .ref C, rfl, fun _ r => r, .own C, .inl (PySem.W.mg_of X G a), isx_of e⟩
theorem kl_of {H : Hp} {a : Addr} {xs : List V} (hO : Only H) (hS : SqL K H a xs) : KL K [] H a xs := by
  rcases hS with (h | ⟨ob, h⟩) | h
  · rcases hO a with z | ⟨o, ys, z⟩
    · rw [z] at h; cases h
    · rw [z] at h; cases h
  · exact .inl ⟨List.not_mem_nil, ob, h⟩
  · exact .inr h
theorem ints_rv {β : List Addr} {H : Hp} : ∀ ns : List Int, RVs K β H (ns.map MV.int) (ns.map V.int)
  | [] => .nil
  | n :: r => .cons (.int n) (ints_rv r)
theorem spM_law {F : MF} {H : Hp} {a : Addr} {ns : List Int} (ht : Nms.tb K = []) (hO : Only H) (hS : SqL K H a (ns.map V.int)) (hF : ∃ m', F [.kl (ns.map .int)] [] = .ok (.bl true) m') : spM K 1 F [.ref a] H (fun v _ => v = .bl true) fun _ _ _ => False := by
  refine ⟨rfl, [.kl (ns.map .int)], [], [], .cons (.kl (kl_of hO hS) (ints_rv ns)) .nil, ⟨fun P r => ?_, rfl, List.nodup_nil, fun n o a h => by simp at h⟩, ?_⟩
  · have no : ∀ Q, Rch (Nms.tb K) H Q → False := fun Q r => by
      induction r with
      | st h => rw [ht] at h; cases h
      | en _ _ _ _ _ ih => exact ih
    exact (no P r).elim
  obtain ⟨m', e⟩ := hF
  rw [e]
  intro v H' β' _ _ V
  cases V
  rfl
end
end MI
namespace MI
open PySem L2
@[irreducible] def W {α : Type} (r : Re α) (Q : α → Mem → Prop) (E : Exn → Mem → Prop) : Prop := match r with
  | .ok a m => Q a m
  | .ex x m => E x m
  | .stuck => False
section
variable {α γ : Type} {Q Q' : α → Mem → Prop} {E E' : Exn → Mem → Prop}
@[simp] theorem W_ok {a : α} {m : Mem} : W (.ok a m) Q E = Q a m := by with_unfolding_all rfl
@[simp] theorem W_ex {x : Exn} {m : Mem} : W (.ex x m : Re α) Q E = E x m := by with_unfolding_all rfl
@[simp] theorem W_stuck : W (.stuck : Re α) Q E = False := by with_unfolding_all rfl
@[simp] theorem W_bind {r : Re γ} {f : γ → Mem → Re α} : W (r.bind f) Q E = W r (fun a m => W (f a m) Q E) E := by with_unfolding_all
  cases r <;> rfl
theorem W.mono {r : Re α} (h : W r Q' E') (hq : ∀ a m, Q' a m → Q a m) (he : ∀ x m, E' x m → E x m := by first | (intro _ _ h; exact h.elim) | (intro _ _ h; exact h)) : W r Q E := by with_unfolding_all
  cases r with
  | ok a m => exact hq a m h
  | ex x m => exact he x m h
  | stuck => exact h
theorem W_ite {c : Prop} [Decidable c] {a b : Re α} : W (if c then a else b) Q E = if c then W a Q E else W b Q E := by with_unfolding_all split <;> rfl
end
abbrev E0 : Exn → Mem → Prop := fun _ _ => False
section
variable {ρ : Env} {m : Mem} {Q : Fl → Mem → Prop} {E : Exn → Mem → Prop}
@[simp] theorem W_onE {α : Type} {r : Re α} {k : α → Mem → Re Fl} : W (onE ρ r k) Q E = W r (fun a m => W (k a m) Q E) (fun x m => Q (.ex x ρ) m) := by with_unfolding_all
  cases r <;> rfl
/-- on to the next statement -/
def nxt (f : MS) (Q : Fl → Mem → Prop) (E : Exn → Mem → Prop) : Fl → Mem → Prop := fun a m => match a with
  | .nx ρ => W (f ρ m) Q E
  | a => Q a m
@[simp] theorem W_seq {f g : MS} : W (mSeq f g ρ m) Q E = W (f ρ m) (nxt g Q E) E := by with_unfolding_all
  unfold mSeq
  cases f ρ m with
  | ok a m => cases a <;> rfl
  | ex x m => rfl
  | stuck => rfl
@[simp] theorem nxt_nx {f : MS} : nxt f Q E (.nx ρ) m = W (f ρ m) Q E := by with_unfolding_all rfl
@[simp] theorem nxt_rt {f : MS} {d : MV} : nxt f Q E (.rt d) m = Q (.rt d) m := rfl
@[simp] theorem nxt_ex {f : MS} {x : Exn} : nxt f Q E (.ex x ρ) m = Q (.ex x ρ) m := rfl
def fin (Q : MV → Mem → Prop) (E : Exn → Mem → Prop) : Fl → Mem → Prop := fun a m => match a with
  | .nx _ => Q .non m
  | .rt d => Q d m
  | .ex x _ => E x m
  | _ => False
@[simp] theorem W_end {r : Re Fl} {Q : MV → Mem → Prop} : W (endOf r) Q E = W r (fin Q E) E0 := by with_unfolding_all
  cases r with
  | ok a m => cases a <;> rfl
  | ex x m => rfl
  | stuck => rfl
@[simp] theorem fin_nx {Q : MV → Mem → Prop} : fin Q E (.nx ρ) m = Q .non m := rfl
@[simp] theorem fin_rt {Q : MV → Mem → Prop} {d : MV} : fin Q E (.rt d) m = Q d m := rfl
@[simp] theorem fin_ex {Q : MV → Mem → Prop} {x : Exn} : fin Q E (.ex x ρ) m = E x m := rfl
@[simp] theorem W_ifS {c : MT} {f g : MS} : W (mIfS c f g ρ m) Q E = W (c ρ m) (fun b m => if b = true then W (f ρ m) Q E else W (g ρ m) Q E) (fun x m => Q (.ex x ρ) m) := by with_unfolding_all
  unfold mIfS
  rw [W_onE]
  congr 1
  funext b m
  rw [W_ite]
@[simp] theorem W_asg {f : ME} {i : Nat} : W (mAsg f (nName i) ρ m) Q E = W (f ρ m) (fun d m => Q (.nx (ρ.set i (some d))) m) (fun x m => Q (.ex x ρ) m) := by with_unfolding_all
  unfold mAsg nName
  rw [W_onE]
  rfl
@[simp] theorem W_ret {f : ME} : W (mRet f ρ m) Q E = W (f ρ m) (fun d m => Q (.rt d) m) (fun x m => Q (.ex x ρ) m) := by with_unfolding_all
  unfold mRet
  rw [W_onE]
  rfl
@[simp] theorem W_drop {f : ME} : W (mDrop f ρ m) Q E = W (f ρ m) (fun _ m => Q (.nx ρ) m) (fun x m => Q (.ex x ρ) m) := by with_unfolding_all
  unfold mDrop
  rw [W_onE]
  rfl
@[simp] theorem W_skip : W (mSkip ρ m) Q E = Q (.nx ρ) m := by with_unfolding_all rfl
@[simp] theorem W_retN : W (mRetN ρ m) Q E = Q (.rt .non) m := by with_unfolding_all rfl
@[simp] theorem W_raise {x : Str} : W (mRaise x ρ m) Q E = Q (.ex ⟨x⟩ ρ) m := by with_unfolding_all rfl
end
section
variable {ρ : Env} {m : Mem} {Q : MV → Mem → Prop} {E : Exn → Mem → Prop}
@[simp] theorem W_C {d : MV} : W (mC d ρ m) Q E = Q d m := by with_unfolding_all rfl
@[simp] theorem W_bin {g : MV → MV → Mem → Re MV} {f k : ME} : W (mBin g f k ρ m) Q E = W (f ρ m) (fun a m => W (k ρ m) (fun b m => W (g a b m) Q E) E) E := by with_unfolding_all
  unfold mBin
  simp only [W_bind]
@[simp] theorem W_call {F : MF} {g : MA} : W (mCall F g ρ m) Q E = W (g ρ m) (fun ds m => W (F ds m) Q E) E := by with_unfolding_all
  unfold mCall
  simp only [W_bind]
@[simp] theorem W_nil {Q : List MV → Mem → Prop} : W (mNil ρ m) Q E = Q [] m := by with_unfolding_all rfl
@[simp] theorem W_cons {f : ME} {g : MA} {Q : List MV → Mem → Prop} : W (mCons f g ρ m) Q E = W (f ρ m) (fun d m => W (g ρ m) (fun ds m => Q (d :: ds) m) E) E := by with_unfolding_all
  unfold mCons
  simp only [W_bind, W_ok]
@[simp] theorem W_B {f : ME} {Q : Bool → Mem → Prop} : W (mB f ρ m) Q E = W (f ρ m) (fun d m => match d with | .bl b => Q b m | _ => False) E := by with_unfolding_all
  unfold mB
  rw [W_bind]
  congr 1
  funext d m
  cases d <;> rfl
@[simp] theorem W_tru {f : ME} {Q : Bool → Mem → Prop} : W (mTru f ρ m) Q E = W (f ρ m) (fun d m => match tru m d with | some b => Q b m | none => False) E := by with_unfolding_all
  unfold mTru
  rw [W_bind]
  congr 1
  funext d m
  cases tru m d <;> rfl
@[simp] theorem W_notT {f : MT} {Q : Bool → Mem → Prop} : W (mNotT f ρ m) Q E = W (f ρ m) (fun b m => Q (!b) m) E := by with_unfolding_all
  unfold mNotT
  rw [W_bind]
  rfl
@[simp] theorem W_andT {f g : MT} {Q : Bool → Mem → Prop} : W (mAndT f g ρ m) Q E = W (f ρ m) (fun b m => if b = true then W (g ρ m) Q E else Q false m) E := by with_unfolding_all
  unfold mAndT
  rw [W_bind]
  congr 1
  funext b m
  rw [W_ite]
  rfl
@[simp] theorem W_orT {f g : MT} {Q : Bool → Mem → Prop} : W (mOrT f g ρ m) Q E = W (f ρ m) (fun b m => if b = true then Q true m else W (g ρ m) Q E) E := by with_unfolding_all
  unfold mOrT
  rw [W_bind]
  congr 1
  funext b m
  rw [W_ite]
  rfl
@[simp] theorem W_and {f g : ME} : W (mAnd f g ρ m) Q E = W (f ρ m) (fun d m => match tru m d with | some true => W (g ρ m) Q E | some false => Q d m | none => False) E := by with_unfolding_all
  unfold mAnd
  rw [W_bind]
  congr 1
  funext d m
  cases tru m d with
  | none => rfl
  | some b => cases b <;> rfl
@[simp] theorem W_or {f g : ME} : W (mOr f g ρ m) Q E = W (f ρ m) (fun d m => match tru m d with | some true => Q d m | some false => W (g ρ m) Q E | none => False) E := by with_unfolding_all
  unfold mOr
  rw [W_bind]
  congr 1
  funext d m
  cases tru m d with
  | none => rfl
  | some b => cases b <;> rfl
@[simp] theorem W_not {f : ME} : W (mNot f ρ m) Q E = W (f ρ m) (fun d m => match tru m d with | some b => Q (.bl (!b)) m | none => False) E := by with_unfolding_all
  unfold mNot
  rw [W_bind]
  congr 1
  funext d m
  cases tru m d <;> rfl
@[simp] theorem W_if {c : MT} {f g : ME} : W (mIf c f g ρ m) Q E = W (c ρ m) (fun b m => if b = true then W (f ρ m) Q E else W (g ρ m) Q E) E := by with_unfolding_all
  unfold mIf
  rw [W_bind]
  congr 1
  funext b m
  rw [W_ite]
@[simp] theorem W_tup {g : MA} : W (mTup g ρ m) Q E = W (g ρ m) (fun ds m => ds.length ≤ sizeLine ∧ Q (.tup ds) m) E := by with_unfolding_all
  unfold mTup
  rw [W_bind]
  congr 1
  funext ds m
  rw [W_ite]
  by_cases h : ds.length ≤ sizeLine
  · rw [if_pos h]; simp [h]
  · rw [if_neg h]; simp [h]
@[simp] theorem W_lst {g : MA} : W (mLst g ρ m) Q E = W (g ρ m) (fun ds m => ds.length ≤ sizeLine ∧ Q (.ref m.length) (m ++ [.lst ds])) E := by with_unfolding_all
  unfold mLst
  rw [W_bind]
  congr 1
  funext ds m
  rw [W_ite]
  by_cases h : ds.length ≤ sizeLine
  · rw [if_pos h]; simp [h, alloc]
  · rw [if_neg h]; simp [h]
@[simp] theorem W_star {f : ME} {g : MA} {Q : List MV → Mem → Prop} : W (mStar f g ρ m) Q E = W (f ρ m) (fun d m => match seqOf m d with | some l => W (g ρ m) (fun ds m => Q (l ++ ds) m) E | none => False) E := by with_unfolding_all
  unfold mStar
  rw [W_bind]
  congr 1
  funext d m
  cases seqOf m d with
  | none => rfl
  | some l => simp
@[simp] theorem W_sl {f : ME} {l h : MO'} : W (mSl f l h ρ m) Q E = W (f ρ m) (fun d m => W (l ρ m) (fun lo m => W (h ρ m) (fun hi m => W (gSl d lo hi m) Q E) E) E) E := by with_unfolding_all
  unfold mSl
  simp only [W_bind]
@[simp] theorem W_no {Q : Option Int → Mem → Prop} : W (mNo ρ m) Q E = Q none m := by with_unfolding_all rfl
@[simp] theorem W_endO {f : ME} {Q : Option Int → Mem → Prop} : W (mEnd f ρ m) Q E = W (f ρ m) (fun d m => match d with | .int i => Q (some i) m | _ => False) E := by with_unfolding_all
  unfold mEnd
  rw [W_bind]
  congr 1
  funext d m
  cases d <;> rfl
@[simp] theorem W_dnew : W (mDNew ρ m) Q E = Q (.ref m.length) (m ++ [.dct []]) := by with_unfolding_all rfl
@[simp] theorem W_isi {T : String} {f : ME} : W (mIsi T f ρ m) Q E = W (f ρ m) (fun d m => match (tyM m d).bind fun t => kitB t T with | some b => Q (.bl b) m | none => False) E := by with_unfolding_all
  unfold mIsi
  rw [W_bind]
  congr 1
  funext d m
  cases (tyM m d).bind fun t => kitB t T <;> rfl
@[simp] theorem W_bm {g : MV → List MV → Mem → Re MV} {f : ME} {a : MA} : W (mBM g f a ρ m) Q E = W (f ρ m) (fun d m => if (lstOf m d).isSome = true then W (a ρ m) (fun ds m => W (g d ds m) Q E) E else False) E := by with_unfolding_all
  unfold mBM
  rw [W_bind]
  congr 1
  funext d m
  rw [W_ite]
  simp only [W_bind, W_stuck]
@[simp] theorem W_chain {g g' : MV → MV → Mem → Re MV} {fa fb fc : ME} : W (mChain g g' fa fb fc ρ m) Q E = W (fa ρ m) (fun a m => W (fb ρ m) (fun b m => W (g a b m) (fun r m => match r with | .bl true => W (fc ρ m) (fun c m => W (g' b c m) Q E) E | .bl false => Q (.bl false) m | _ => False) E) E) E := by with_unfolding_all
  unfold mChain
  simp only [W_bind]
  congr 1
  funext a m
  congr 1
  funext b m
  congr 1
  funext r m
  cases r with
  | bl b => cases b <;> simp
  | _ => rfl
@[simp] theorem W_neg {f : ME} : W (mNeg f ρ m) Q E = W (f ρ m) (fun d m => match d with | .int i => Q (.int (-i)) m | _ => False) E := by with_unfolding_all
  unfold mNeg
  rw [W_bind]
  congr 1
  funext d m
  cases d <;> rfl
end
section
variable {ρ : Env} {m : Mem} {E : Exn → Mem → Prop}
@[simp] theorem W_for {h : MI'} {g : MG} {body : MS} {Q : Fl → Mem → Prop} : W (mFor h g body ρ m) Q E = W (h ρ m) (fun it m => W (loopM it.chk g body it.items ρ m) Q E) (fun x m => Q (.ex x ρ) m) := by with_unfolding_all
  unfold mFor
  rw [W_onE]
@[simp] theorem W_lc {h : MI'} {g : NG} {t : MT} {e : ME} {vs : List Nat} {Q : MV → Mem → Prop} : W (mLc h g t e vs ρ m) Q E = W (h ρ m) (fun it m => W (lcM it.chk g t e (wipeM ρ vs) it.items [] m) (fun l m => Q (.ref m.length) (m ++ [.lst l])) E) E := by with_unfolding_all
  unfold mLc
  simp only [W_bind]
  rfl
/-- a for loop over names: what holds at every turn -/
theorem W_loop {chk : Mem → Prop} {i : Nat} {body : MS} {Q : Fl → Mem → Prop} (I : List MV → Env → Mem → Prop) : ∀ (l : List MV) (ρ : Env) (m : Mem), I l ρ m → (∀ l ρ m, I l ρ m → chk m) →
    (∀ d l ρ m, I (d :: l) ρ m → W (body (ρ.set i (some d)) m) (fun a m => match a with | .nx ρ' => I l ρ' m | .ct ρ' => I l ρ' m | .bk ρ' => Q (.nx ρ') m | a => Q a m) E) → (∀ ρ m, I [] ρ m → Q (.nx ρ) m) → W (loopM chk (nName i) body l ρ m) Q E
  | [], ρ, m, h, hc, _, hd => by with_unfolding_all
    unfold loopM
    rw [if_pos (hc _ _ _ h)]
    exact hd _ _ h
  | d :: l, ρ, m, h, hc, hs, hd => by with_unfolding_all
    unfold loopM
    rw [if_pos (hc _ _ _ h)]
    show W (match body (ρ.set i (some d)) m with
      | .ok (.nx ρ2) m2 => loopM chk (nName i) body l ρ2 m2
      | .ok (.ct ρ2) m2 => loopM chk (nName i) body l ρ2 m2
      | .ok (.bk ρ2) m2 => .ok (.nx ρ2) m2
      | q => q) Q E
    have q := hs d l ρ m h
    cases hb : body (ρ.set i (some d)) m with
    | stuck => rw [hb] at q; exact q
    | ex x m' => rw [hb] at q; exact q
    | ok a m' =>
      rw [hb] at q
      cases a with
      | nx ρ' => exact W_loop I l ρ' m' q hc hs hd
      | ct ρ' => exact W_loop I l ρ' m' q hc hs hd
      | bk ρ' => exact q
      | rt d => exact q
      | ex x ρ' => exact q
/-- a comprehension: what holds at every turn -/
theorem W_lcs {chk : Mem → Prop} {g : NG} {t : MT} {e : ME} {Q : List MV → Mem → Prop} (I : List MV → List MV → Mem → Prop) : ∀ (l acc : List MV) (m : Mem), I l acc m → (∀ l acc m, I l acc m → chk m) →
    (∀ d l acc m, I (d :: l) acc m → ∃ as, g d m = some as ∧ W (t (setE ρ as) m) (fun b m => if b = true then W (e (setE ρ as) m) (fun y m => acc.length < sizeLine ∧ I l (acc ++ [y]) m) E0 else I l acc m) E0) → (∀ acc m, I [] acc m → Q acc m) → W (lcM chk g t e ρ l acc m) Q E
  | [], acc, m, h, hc, _, hd => by with_unfolding_all
    unfold lcM
    rw [if_pos (hc _ _ _ h)]
    exact hd _ _ h
  | d :: l, acc, m, h, hc, hs, hd => by with_unfolding_all
    unfold lcM
    rw [if_pos (hc _ _ _ h)]
    obtain ⟨as, e1, q⟩ := hs d l acc m h
    rw [e1]
    dsimp only
    cases ht : t (setE ρ as) m with
    | stuck => rw [ht] at q; exact q.elim
    | ex x m' => rw [ht] at q; exact q.elim
    | ok b m' =>
      rw [ht] at q
      cases b with
      | false => exact W_lcs I l acc m' q hc hs hd
      | true =>
        have q : W (e (setE ρ as) m') (fun y m => acc.length < sizeLine ∧ I l (acc ++ [y]) m) E0 := q
        dsimp only
        cases he : e (setE ρ as) m' with
        | stuck => rw [he] at q; exact q.elim
        | ex x m2 => rw [he] at q; exact q.elim
        | ok y m2 =>
          rw [he] at q
          dsimp only
          rw [if_pos q.1]
          exact W_lcs I l (acc ++ [y]) m2 q.2 hc hs hd
end
section
variable {ρ : Env} {m : Mem} {E : Exn → Mem → Prop}
@[simp] theorem W_vr {i : Nat} {Q : MV → Mem → Prop} : W (mVar i ρ m) Q E = match ρ[i]? with | some (some d) => Q d m | _ => False := by with_unfolding_all
  unfold mVar
  cases ρ[i]? with
  | none => rfl
  | some o => cases o <;> rfl
theorem W_asgT {f : ME} {n : Nat} {k : MGs} {Q : Fl → Mem → Prop} : W (mAsg f (nTup n k) ρ m) Q E = W (f ρ m) (fun d m => match seqOf m d with
    | some l => if l.length = n then (match k l ρ m with | .ok ρ' m' => Q (.nx ρ') m' | _ => False) else False
    | none => False) (fun x m => Q (.ex x ρ) m) := by with_unfolding_all
  unfold mAsg nTup
  rw [W_onE]
  congr 1
  funext d m
  cases seqOf m d with
  | none => rfl
  | some l =>
    by_cases h : l.length = n
    · simp only [h, if_true]
      cases k l ρ m <;> rfl
    · simp only [h, if_false]
      rfl
@[simp] theorem W_store {fo fi fv : ME} {Q : Fl → Mem → Prop} : W (mStore fo fi fv ρ m) Q E = W (fv ρ m) (fun v m1 => W (fo ρ m1) (fun d m2 => match dctOf m2 d with
    | some _ => W (fi ρ m2) (fun k m3 => match dctOf m3 d, keyOf k with
      | some (n, l), some q => if l.length < sizeLine then Q (.nx ρ) (m3.set n (.dct (putM l q v))) else False
      | _, _ => False) (fun x m => Q (.ex x ρ) m)
    | none => W (fi ρ m2) (fun k m3 => match k with
      | .int k => match mutOf m3 d with
        | some (n, l) => match ixN l.length k with
          | some j => Q (.nx ρ) (m3.set n (.lst (l.set j v)))
          | none => False
        | none => False
      | _ => False) E0) (fun x m => Q (.ex x ρ) m)) (fun x m => Q (.ex x ρ) m) := by with_unfolding_all
  unfold mStore
  simp only [W_onE]
  congr 1
  funext v m1
  congr 1
  funext d m2
  cases dctOf m2 d with
  | some p =>
    simp only [W_onE]
    congr 1
    funext k m3
    cases dctOf m3 d with
    | none => rfl
    | some p =>
      obtain ⟨n, l⟩ := p
      cases keyOf k with
      | none => rfl
      | some q => simp only [W_ite, W_ok, W_stuck]
  | none =>
    dsimp only
    cases fi ρ m2 with
    | stuck => rfl
    | ex x m => rfl
    | ok k m3 =>
      cases k with
      | int k =>
        simp only [W_ok]
        cases mutOf m3 d with
        | none => rfl
        | some p =>
          obtain ⟨n, l⟩ := p
          dsimp only
          cases ixN l.length k <;> rfl
      | _ => rfl
@[simp] theorem W_aug {i : Nat} {g : MV → MV → Mem → Re MV} {f : ME} {Q : Fl → Mem → Prop} : W (mAug i g f ρ m) Q E = match ρ[i]? with
    | some (some d) => W (f ρ m) (fun e m1 => W (g d e m1) (fun r m2 => Q (.nx (ρ.set i (some r))) m2) (fun x m => Q (.ex x ρ) m)) (fun x m => Q (.ex x ρ) m)
    | _ => False := by with_unfolding_all
  unfold mAug
  cases ρ[i]? with
  | none => rfl
  | some o =>
    cases o with
    | none => rfl
    | some d =>
      simp only [W_onE]
      rfl
end
end MI
namespace MI
open PySem L2
section
variable {m : Mem} {Q : MV → Mem → Prop} {E : Exn → Mem → Prop}
@[simp] theorem W_add_i {i j : Int} : W (gAdd (.int i) (.int j) m) Q E = Q (.int (i + j)) m := by with_unfolding_all rfl
@[simp] theorem W_add_t {a b : List MV} : W (gAdd (.tup a) (.tup b) m) Q E = (a.length + b.length ≤ sizeLine ∧ Q (.tup (a ++ b)) m) := by with_unfolding_all
  show W (if a.length + b.length ≤ sizeLine then .ok (.tup (a ++ b)) m else .stuck) Q E = _
  by_cases h : a.length + b.length ≤ sizeLine <;> simp [h]
@[simp] theorem W_addI_i {i j : Int} : W (gAddI (.int i) (.int j) m) Q E = Q (.int (i + j)) m := by with_unfolding_all rfl
theorem W_add_l {a b : Nat} {xs ys : List MV} (h1 : m[a]? = some (.lst xs)) (h2 : m[b]? = some (.lst ys)) : W (gAdd (.ref a) (.ref b) m) Q E = (xs.length + ys.length ≤ sizeLine ∧ Q (.ref m.length) (m ++ [.lst (xs ++ ys)])) := by with_unfolding_all
  have e1 : mutOf m (.ref a) = some (a, xs) := by with_unfolding_all simp [mutOf, h1]
  have e2 : mutOf m (.ref b) = some (b, ys) := by with_unfolding_all simp [mutOf, h2]
  show W (match mutOf m (.ref a), mutOf m (.ref b) with
    | some (_, xs), some (_, ys) => if xs.length + ys.length ≤ sizeLine then alloc (.lst (xs ++ ys)) m else .stuck
    | _, _ => .stuck) Q E = _
  rw [e1, e2]
  by_cases h : xs.length + ys.length ≤ sizeLine <;> simp [h, alloc]
@[simp] theorem W_sub_i {i j : Int} : W (gSub (.int i) (.int j) m) Q E = Q (.int (i - j)) m := by with_unfolding_all rfl
@[simp] theorem W_mul_i {i j : Int} : W (gMul (.int i) (.int j) m) Q E = (((-(2 ^ 64) < i ∧ i < 2 ^ 64) ∨ (-(2 ^ 64) < j ∧ j < 2 ^ 64)) ∧ Q (.int (i * j)) m) := by with_unfolding_all
  show W (if (-(2 ^ 64) < i ∧ i < 2 ^ 64) ∨ (-(2 ^ 64) < j ∧ j < 2 ^ 64) then .ok (.int (i * j)) m else .stuck) Q E = _
  by_cases h : (-(2 ^ 64) < i ∧ i < 2 ^ 64) ∨ (-(2 ^ 64) < j ∧ j < 2 ^ 64)
  · rw [if_pos h]; simp only [W_ok, eq_iff_iff]; exact ⟨fun q => ⟨h, q⟩, fun q => q.2⟩
  · rw [if_neg h]; simp only [W_stuck, eq_iff_iff]; exact ⟨fun q => q.elim, fun q => h q.1⟩
@[simp] theorem W_mul_t {a : List MV} {k : Int} : W (gMul (.tup a) (.int k) m) Q E = ((0 < a.length ∧ 2 ≤ k ∧ k ≤ 1000 ∧ a.length ≤ 1000) ∧ Q (.tup (List.replicate k.toNat a).flatten) m) := by with_unfolding_all
  show W (if 0 < a.length ∧ 2 ≤ k ∧ k ≤ 1000 ∧ a.length ≤ 1000 then .ok (.tup (List.replicate k.toNat a).flatten) m else .stuck) Q E = _
  by_cases h : 0 < a.length ∧ 2 ≤ k ∧ k ≤ 1000 ∧ a.length ≤ 1000
  · rw [if_pos h]; simp only [W_ok, eq_iff_iff]; exact ⟨fun q => ⟨h, q⟩, fun q => q.2⟩
  · rw [if_neg h]; simp only [W_stuck, eq_iff_iff]; exact ⟨fun q => q.elim, fun q => h q.1⟩
@[simp] theorem W_mod_i {i j : Int} : W (gMod (.int i) (.int j) m) Q E = (0 < j ∧ Q (.int (i % j)) m) := by with_unfolding_all
  show W (if 0 < j then .ok (.int (i % j)) m else .stuck) Q E = _
  by_cases h : 0 < j <;> simp [h]
@[simp] theorem W_div_i {i j : Int} : W (gDiv (.int i) (.int j) m) Q E = (CDivW i j ∧ Q (.int (i / j)) m) := by with_unfolding_all
  show W (if CDivW i j then .ok (.int (i / j)) m else .stuck) Q E = _
  by_cases h : CDivW i j <;> simp [h]
@[simp] theorem W_pow_i {i j : Int} : W (gPow (.int i) (.int j) m) Q E = (CPowW i j ∧ Q (.int (i ^ j.toNat)) m) := by with_unfolding_all
  show W (if CPowW i j then .ok (.int (i ^ j.toNat)) m else .stuck) Q E = _
  by_cases h : CPowW i j <;> simp [h]
@[simp] theorem W_lt_i {i j : Int} : W (gLt (.int i) (.int j) m) Q E = Q (.bl (decide (i < j))) m := by with_unfolding_all rfl
@[simp] theorem W_gt_i {i j : Int} : W (gGt (.int i) (.int j) m) Q E = Q (.bl (decide (j < i))) m := by with_unfolding_all rfl
@[simp] theorem W_ge_i {i j : Int} : W (gGe (.int i) (.int j) m) Q E = Q (.bl (decide (j ≤ i))) m := by with_unfolding_all rfl
@[simp] theorem W_le_i {i j : Int} : W (gLeS (.int i) (.int j) m) Q E = Q (.bl (decide (i ≤ j))) m := by with_unfolding_all rfl
@[simp] theorem W_le_s {a b : Str} : W (gLeS (.str a) (.str b) m) Q E = Q (.bl (!decide (b.cps.toList < a.cps.toList))) m := by with_unfolding_all rfl
@[simp] theorem W_isN {d : MV} : W (gIsN d .non m) Q E = Q (.bl (match d with | .non => true | _ => false)) m := by with_unfolding_all rfl
@[simp] theorem W_notN {d : MV} : W (gNotN d .non m) Q E = Q (.bl (match d with | .non => false | _ => true)) m := by with_unfolding_all rfl
@[simp] theorem W_int_i {i : Int} : W (gInt [.int i] m) Q E = Q (.int i) m := by with_unfolding_all rfl
@[simp] theorem W_int_b {b : Bool} : W (gInt [.bl b] m) Q E = Q (.int (if b = true then 1 else 0)) m := by with_unfolding_all rfl
@[simp] theorem W_abs_i {i : Int} : W (gAbs [.int i] m) Q E = Q (.int (if i < 0 then -i else i)) m := by with_unfolding_all rfl
@[simp] theorem W_min2 {i j : Int} : W (gMin [.int i, .int j] m) Q E = Q (.int (if j < i then j else i)) m := by with_unfolding_all rfl
@[simp] theorem W_min3 {i j k : Int} : W (gMin [.int i, .int j, .int k] m) Q E = Q (.int (if k < (if j < i then j else i) then k else (if j < i then j else i))) m := by with_unfolding_all rfl
@[simp] theorem W_len {d : MV} : W (gLen [d] m) Q E = match lenM m d with | some n => Q (.int (n : Int)) m | none => False := by with_unfolding_all
  show W (match lenM m d with | some n => .ok (.int (n : Int)) m | none => .stuck) Q E = _
  cases lenM m d <;> rfl
@[simp] theorem W_list {d : MV} : W (gList [d] m) Q E = match seqOf m d with | some l => Q (.ref m.length) (m ++ [.lst l]) | none => False := by with_unfolding_all
  show W (match seqOf m d with | some l => alloc (.lst l) m | none => .stuck) Q E = _
  cases seqOf m d <;> rfl
@[simp] theorem W_tuple {d : MV} : W (gTuple [d] m) Q E = match seqOf m d with | some l => Q (.tup l) m | none => False := by with_unfolding_all
  show W (match seqOf m d with | some l => .ok (.tup l) m | none => .stuck) Q E = _
  cases seqOf m d <;> rfl
@[simp] theorem lstOf_ref {n : Nat} : lstOf m (.ref n) = match m[n]? with | some (.lst l) => some l | some (.frz l) => some l | _ => none := rfl
@[simp] theorem lstOf_kl {l : List MV} : lstOf m (.kl l) = some l := rfl
@[simp] theorem lstOf_tup {l : List MV} : lstOf m (.tup l) = none := rfl
@[simp] theorem lstOf_str {z : Str} : lstOf m (.str z) = none := rfl
@[simp] theorem lstOf_int {z : Int} : lstOf m (.int z) = none := rfl
@[simp] theorem lstOf_non : lstOf m .non = none := rfl
@[simp] theorem seqOf_tup {l : List MV} : seqOf m (.tup l) = some l := rfl
@[simp] theorem seqOf_ref {n : Nat} : seqOf m (.ref n) = match m[n]? with | some (.lst l) => some l | some (.frz l) => some l | _ => none := rfl
@[simp] theorem seqOf_kl {l : List MV} : seqOf m (.kl l) = some l := rfl
@[simp] theorem mutOf_ref {n : Nat} : mutOf m (.ref n) = match m[n]? with | some (.lst l) => some (n, l) | _ => none := rfl
@[simp] theorem mutOf_tup {l : List MV} : mutOf m (.tup l) = none := rfl
@[simp] theorem dctOf_ref {n : Nat} : dctOf m (.ref n) = match m[n]? with | some (.dct l) => some (n, l) | _ => none := rfl
@[simp] theorem dctOf_tup {l : List MV} : dctOf m (.tup l) = none := rfl
@[simp] theorem dctOf_str {l : Str} : dctOf m (.str l) = none := rfl
@[simp] theorem dctOf_kl {l : List MV} : dctOf m (.kl l) = none := rfl
@[simp] theorem lenM_tup {l : List MV} : lenM m (.tup l) = some l.length := rfl
@[simp] theorem lenM_kl {l : List MV} : lenM m (.kl l) = some l.length := rfl
@[simp] theorem lenM_str {z : Str} : lenM m (.str z) = if z.length ≤ sizeLine then some z.length else none := rfl
@[simp] theorem lenM_ref {n : Nat} : lenM m (.ref n) = match m[n]? with | some (.lst l) => some l.length | some (.frz l) => some l.length | some (.dct l) => some l.length | _ => none := by
  show (match dctOf m (.ref n) with
    | some (_, l) => some l.length
    | none => (lstOf m (.ref n)).map List.length) = _
  simp only [dctOf_ref, lstOf_ref]
  cases m[n]? with
  | none => rfl
  | some o => cases o <;> rfl
@[simp] theorem W_item_t {l : List MV} {i : Int} : W (gItem (.tup l) (.int i) m) Q E = match atM l i with | some e => Q e m | none => False := by with_unfolding_all
  show W (match atM l i with | some e => .ok e m | none => .stuck) Q E = _
  cases atM l i <;> rfl
@[simp] theorem W_item_k {l : List MV} {i : Int} : W (gItem (.kl l) (.int i) m) Q E = match atM l i with | some e => Q e m | none => False := by with_unfolding_all
  show W (match atM l i with | some e => .ok e m | none => .stuck) Q E = _
  cases atM l i <;> rfl
@[simp] theorem W_item_r {n : Nat} {i : Int} : W (gItem (.ref n) (.int i) m) Q E = match m[n]? with
    | some (.lst l) => (match atM l i with | some e => Q e m | none => False)
    | some (.frz l) => (match atM l i with | some e => Q e m | none => False)
    | some (.dct l) => (match valM l (.inl i) with | some e => Q e m | none => False)
    | _ => False := by with_unfolding_all
  unfold gItem gDGet gIx
  simp only [dctOf_ref, seqOf_ref]
  cases h : m[n]? with
  | none => simp [h]
  | some o =>
    cases o with
    | lst l => cases h2 : atM l i <;> simp [h, h2]
    | frz l => cases h2 : atM l i <;> simp [h, h2]
    | dct l => cases h2 : valM l (.inl i) <;> simp [h, h2, keyOf]
    | exn x => simp [h]
    | own c l => simp [h]
    | dN l => simp [h]
@[simp] theorem W_sl_t {l : List MV} {lo hi : Option Int} : W (gSl (.tup l) lo hi m) Q E = Q (.tup (cutM l lo hi)) m := by with_unfolding_all rfl
@[simp] theorem W_sl_k {l : List MV} {lo hi : Option Int} : W (gSl (.kl l) lo hi m) Q E = Q (.ref m.length) (m ++ [.lst (cutM l lo hi)]) := by with_unfolding_all rfl
@[simp] theorem W_append {n : Nat} {e : MV} : W (gAppend (.ref n) [e] m) Q E = match m[n]? with | some (.lst l) => l.length < sizeLine ∧ Q .non (m.set n (.lst (l ++ [e]))) | _ => False := by with_unfolding_all
  unfold gAppend
  simp only [mutOf_ref]
  cases h : m[n]? with
  | none => rfl
  | some o =>
    cases o with
    | lst l => by_cases q : l.length < sizeLine <;> simp [q]
    | _ => rfl
@[simp] theorem W_extend {n k : Nat} : W (gExtend (.ref n) [.ref k] m) Q E = match m[n]?, m[k]? with | some (.lst l), some (.lst l') => l.length + l'.length ≤ sizeLine ∧ Q .non (m.set n (.lst (l ++ l'))) | _, _ => False := by with_unfolding_all
  unfold gExtend
  simp only [mutOf_ref]
  cases h : m[n]? with
  | none => rfl
  | some o =>
    cases o with
    | lst l =>
      cases h2 : m[k]? with
      | none => rfl
      | some o2 =>
        cases o2 with
        | lst l' => by_cases q : l.length + l'.length ≤ sizeLine <;> simp [q]
        | _ => rfl
    | _ => rfl
@[simp] theorem W_pop {n : Nat} : W (gPop (.ref n) [] m) Q E = match m[n]? with | some (.lst l) => (match l[l.length - 1]? with | some e => Q e (m.set n (.lst l.dropLast)) | none => False) | _ => False := by with_unfolding_all
  unfold gPop
  simp only [mutOf_ref]
  cases h : m[n]? with
  | none => rfl
  | some o =>
    cases o with
    | lst l => cases q : l[l.length - 1]? <;> simp [q]
    | _ => rfl
@[simp] theorem W_eq_s {a b : Str} {neg : Bool} : W (gEqA neg (.str a) (.str b) m) Q E = Q (.bl (if neg = true then !decide (a = b) else decide (a = b))) m := by with_unfolding_all
  unfold gEqA gEqS
  simp [eqS]
@[simp] theorem W_eq_i {a b : Int} {neg : Bool} : W (gEqA neg (.int a) (.int b) m) Q E = Q (.bl (if neg = true then !decide (a = b) else decide (a = b))) m := by with_unfolding_all
  unfold gEqA gEqS
  simp [eqS]
@[simp] theorem tru_bl {b : Bool} : tru m (.bl b) = some b := rfl
@[simp] theorem tru_non : tru m .non = some false := rfl
@[simp] theorem tru_int {i : Int} : tru m (.int i) = some (i != 0) := rfl
@[simp] theorem tru_tup {l : List MV} : tru m (.tup l) = some (!l.isEmpty) := rfl
@[simp] theorem tru_ref {n : Nat} : tru m (.ref n) = truO m[n]? := rfl
@[simp] theorem W_any {ρ : Env} {f : ME} {Q : IterM → Mem → Prop} : W (mAnyI f ρ m) Q E = W (f ρ m) (fun d m => W (seqIt d m) Q E) E := by with_unfolding_all
  unfold mAnyI
  simp only [W_bind]
@[simp] theorem W_it_t {l : List MV} {Q : IterM → Mem → Prop} : W (seqIt (.tup l) m) Q E = Q ⟨l, fun _ => True⟩ m := by with_unfolding_all rfl
@[simp] theorem W_it_s {z : Str} {Q : IterM → Mem → Prop} : W (seqIt (.str z) m) Q E = Q ⟨z.cps.toList.map fun c => .str ⟨#[c]⟩, fun _ => True⟩ m := by with_unfolding_all rfl
@[simp] theorem W_it_r {n : Nat} {Q : IterM → Mem → Prop} : W (seqIt (.ref n) m) Q E = match m[n]? with
    | some (.lst l) => Q ⟨l, fun m' => lstOf m' (.ref n) = some l⟩ m
    | some (.frz l) => Q ⟨l, fun m' => lstOf m' (.ref n) = some l⟩ m
    | _ => False := by with_unfolding_all
  unfold seqIt
  simp only [lstOf_ref]
  cases h : m[n]? with
  | none => rfl
  | some o => cases o <;> rfl
@[simp] theorem W_rng {ρ : Env} {g : MA} {Q : IterM → Mem → Prop} : W (mRng g ρ m) Q E = W (g ρ m) (fun ds m => W (rngOf ds m) Q E) E := by with_unfolding_all
  unfold mRng
  simp only [W_bind]
@[simp] theorem W_rng1 {j : Int} {Q : IterM → Mem → Prop} : W (rngOf [.int j] m) Q E = ((-(2 ^ 62) ≤ j ∧ j < 2 ^ 62) ∧ Q ⟨rngL 0 j.toNat, fun _ => True⟩ m) := by with_unfolding_all
  show W (if -(2 ^ 62) ≤ j ∧ j < 2 ^ 62 then .ok ⟨rngL 0 j.toNat, fun _ => True⟩ m else .stuck) Q E = _
  by_cases h : -(2 ^ 62) ≤ j ∧ j < 2 ^ 62
  · rw [if_pos h]; simp only [W_ok, eq_iff_iff]; exact ⟨fun q => ⟨h, q⟩, fun q => q.2⟩
  · rw [if_neg h]; simp only [W_stuck, eq_iff_iff]; exact ⟨fun q => q.elim, fun q => h q.1⟩
@[simp] theorem W_enum {ρ : Env} {g : MA} {Q : IterM → Mem → Prop} : W (mEnum g ρ m) Q E = W (g ρ m) (fun ds m => W (enumOf ds m) Q E) E := by with_unfolding_all
  unfold mEnum
  simp only [W_bind]
@[simp] theorem W_enum_t {l : List MV} {Q : IterM → Mem → Prop} : W (enumOf [.tup l] m) Q E = Q ⟨numd l, fun _ => True⟩ m := by with_unfolding_all rfl
end
end MI
namespace MI
open PySem L2
section
variable {m : Mem} {E : Exn → Mem → Prop}
theorem szl {n : Nat} (h : n ≤ 1000) : n ≤ sizeLine := Nat.le_of_lt (small1000 h)
/-- a comprehension that changes nothing -/
theorem lc_pure {chk : Mem → Prop} {i : Nat} {t : MT} {e : ME} {ρ : Env} (φ : MV → MV) (ψ : MV → Bool) : ∀ (l acc : List MV), chk m → (∀ d ∈ l, t (ρ.set i (some d)) m = .ok (ψ d) m ∧ (ψ d = true → e (ρ.set i (some d)) m = .ok (φ d) m)) → acc.length + l.length ≤ 1000 →
    lcM chk (ngName i) t e ρ l acc m = .ok (acc ++ (l.filter ψ).map φ) m
  | [], acc, hc, _, _ => by
    unfold lcM
    rw [if_pos hc]
    simp
  | d :: l, acc, hc, h, hl => by
    unfold lcM
    rw [if_pos hc]
    obtain ⟨h1, h2⟩ := h d List.mem_cons_self
    show (match t (ρ.set i (some d)) m with
      | .ok true m2 => match e (ρ.set i (some d)) m2 with
        | .ok y m3 => if acc.length < sizeLine then lcM chk (ngName i) t e ρ l (acc ++ [y]) m3 else .stuck
        | _ => .stuck
      | .ok false m2 => lcM chk (ngName i) t e ρ l acc m2
      | _ => .stuck) = _
    rw [h1]
    simp only [List.length_cons] at hl
    cases hp : ψ d with
    | false =>
      dsimp only
      rw [lc_pure φ ψ l acc hc (fun x hx => h x (List.mem_cons_of_mem _ hx)) (by omega), List.filter_cons, hp]
      simp
    | true =>
      dsimp only
      rw [h2 hp]
      dsimp only
      rw [if_pos (Nat.lt_of_lt_of_le (by omega) (szl (n := 1000) (Nat.le_refl _))), lc_pure φ ψ l (acc ++ [φ d]) hc (fun x hx => h x (List.mem_cons_of_mem _ hx)) (by simp; omega), List.filter_cons, hp]
      simp
theorem W_pure {chk : Mem → Prop} {i : Nat} {t : MT} {e : ME} {ρ : Env} {Q : List MV → Mem → Prop} (φ : MV → MV) (ψ : MV → Bool) {l : List MV} (hc : chk m) (h : ∀ d ∈ l, t (ρ.set i (some d)) m = .ok (ψ d) m ∧ (ψ d = true → e (ρ.set i (some d)) m = .ok (φ d) m)) (hl : l.length ≤ 1000) (q : Q ((l.filter ψ).map φ) m) :
    W (lcM chk (ngName i) t e ρ l [] m) Q E := by with_unfolding_all
  rw [lc_pure φ ψ l [] hc h (by simpa using hl)]
  simpa using q
theorem filter_all {l : List MV} : l.filter (fun _ => true) = l := by simp
@[simp] theorem W_inK {tbl : List (Str × MV)} {f : ME} {ρ : Env} {Q : MV → Mem → Prop} : W (mInK tbl f ρ m) Q E = W (f ρ m) (fun d m => match d with | .str z => Q (.bl (tbl.lookup z).isSome) m | _ => False) E := by with_unfolding_all
  unfold mInK
  rw [W_bind]
  congr 1
  funext d m
  cases d <;> rfl
@[simp] theorem W_itemK {tbl : List (Str × MV)} {f : ME} {ρ : Env} {Q : MV → Mem → Prop} : W (mItemK tbl f ρ m) Q E = W (f ρ m) (fun d m => match d with | .str z => (match tbl.lookup z with | some c => Q c m | none => False) | _ => False) E := by with_unfolding_all
  unfold mItemK
  rw [W_bind]
  congr 1
  funext d m
  cases d with
  | str z => dsimp only; cases tbl.lookup z <;> rfl
  | _ => rfl
end
end MI
namespace MI
open PySem L2
mutual
def pu : MV → Bool
  | .non => true
  | .int _ => true
  | .str s => PyData.strOk s
  | .tup l => pus l
  | _ => false
def pus : List MV → Bool
  | [] => true
  | d :: l => pu d && pus l
end
mutual
def pd : MV → PyData
  | .non => .none
  | .int i => .int i
  | .str s => .str s
  | .tup l => .tuple (pds l)
  | _ => .none
def pds : List MV → List PyData
  | [] => []
  | d :: l => pd d :: pds l
end
mutual
/-- the fuel that it takes -/
def fl : MV → Nat
  | .tup l => 1 + fls l
  | _ => 0
def fls : List MV → Nat
  | [] => 0
  | d :: l => 1 + max (fl d) (fls l)
end
mutual
/-- how deep it is -/
def dp : MV → Nat
  | .tup l => dps l + 1
  | _ => 0
def dps : List MV → Nat
  | [] => 0
  | d :: l => max (dp d) (dps l)
end
mutual
theorem dat_pu (m : Mem) : ∀ (d : MV) (n : Nat), pu d = true → fl d ≤ n → dat m n d = some (pd d)
  | .non, n, _, _ => by unfold dat; rfl
  | .int _, n, _, _ => by unfold dat; rfl
  | .str _, n, _, _ => by unfold dat; rfl
  | .bl _, _, h, _ => by simp [pu] at h
  | .ref _, _, h, _ => by simp [pu] at h
  | .kl _, _, h, _ => by simp [pu] at h
  | .clo _ _, _, h, _ => by simp [pu] at h
  | .tup l, 0, _, h => by simp [fl] at h
  | .tup l, n + 1, h, hn => by
    unfold dat
    rw [dats_pu m l n (by simpa [pu] using h) (by simp [fl] at hn; omega)]
    rfl
theorem dats_pu (m : Mem) : ∀ (l : List MV) (n : Nat), pus l = true → fls l ≤ n → dats m n l = some (pds l)
  | [], n, _, _ => by unfold dats; rfl
  | d :: l, 0, _, h => by simp [fls] at h
  | d :: l, n + 1, h, hn => by
    simp [pus] at h
    simp [fls] at hn
    unfold dats
    rw [dat_pu m d n h.1 (by omega), dats_pu m l n h.2 (by omega)]
    rfl
end
mutual
theorem lay_pu : ∀ (d : MV), pu d = true → (pd d).canLay0 = true
  | .non, _ => rfl
  | .int _, _ => rfl
  | .str s, h => by simpa [pd, PyData.canLay0, pu] using h
  | .bl _, h => by simp [pu] at h
  | .ref _, h => by simp [pu] at h
  | .kl _, h => by simp [pu] at h
  | .clo _ _, h => by simp [pu] at h
  | .tup l, h => by
    have := lays_pu l (by simpa [pu] using h)
    simpa [pd, PyData.canLay0] using this
theorem lays_pu : ∀ (l : List MV), pus l = true → PyData.canLayAll0 (pds l) = true
  | [], _ => rfl
  | d :: l, h => by
    simp [pus] at h
    simp [pds, PyData.canLayAll0, lay_pu d h.1, lays_pu l h.2]
end
mutual
theorem depth_pu : ∀ (d : MV), (pd d).depth = dp d
  | .non => by simp [pd, PyData.depth, dp]
  | .int _ => by simp [pd, PyData.depth, dp]
  | .str s => by simp [pd, PyData.depth, dp]
  | .bl _ => by simp [pd, PyData.depth, dp]
  | .ref _ => by simp [pd, PyData.depth, dp]
  | .kl _ => by simp [pd, PyData.depth, dp]
  | .clo _ _ => by simp [pd, PyData.depth, dp]
  | .tup l => by simp [pd, PyData.depth, dp, depths_pu l]
theorem depths_pu : ∀ (l : List MV), PyData.depthAll (pds l) = dps l
  | [] => by simp [pds, PyData.depthAll, dps]
  | d :: l => by simp [pds, PyData.depthAll, dps, depth_pu d, depths_pu l]
end
mutual
theorem eqv_pu : ∀ (a b : MV), pu a = true → pu b = true → (PyData.eqv (pd a) (pd b) = true ↔ a = b)
  | .bl _, _, h, _ => by simp [pu] at h
  | .ref _, _, h, _ => by simp [pu] at h
  | .kl _, _, h, _ => by simp [pu] at h
  | .clo _ _, _, h, _ => by simp [pu] at h
  | .non, b, _, h => by cases b <;> simp_all [pd, PyData.eqv, pu]
  | .int _, b, _, h => by cases b <;> simp_all [pd, PyData.eqv, pu]
  | .str _, b, _, h => by cases b <;> simp_all [pd, PyData.eqv, pu]
  | .tup l, b, h1, h => by
    cases b with
    | tup k =>
      have := eqvs_pu l k (by simpa [pu] using h1) (by simpa [pu] using h)
      simpa [pd, PyData.eqv] using this
    | _ => simp_all [pd, PyData.eqv, pu]
theorem eqvs_pu : ∀ (a b : List MV), pus a = true → pus b = true → (PyData.eqvAll (pds a) (pds b) = true ↔ a = b)
  | [], [], _, _ => by simp [pds, PyData.eqvAll]
  | [], _ :: _, _, _ => by simp [pds, PyData.eqvAll]
  | _ :: _, [], _, _ => by simp [pds, PyData.eqvAll]
  | a :: l, b :: k, h1, h2 => by
    simp [pus] at h1 h2
    simp [pds, PyData.eqvAll, eqv_pu a b h1.1 h2.1, eqvs_pu l k h1.2 h2.2]
end
theorem shaped_pu {d : MV} (h : pu d = true) (hd : dp d ≤ 64) : SeqAt.shaped (pd d) = true := by
  unfold SeqAt.shaped
  rw [lay_pu d h, depth_pu]
  simp [hd]
theorem shaped_pus {l : List MV} (h : pus l = true) (hd : dps l ≤ 63) : SeqAt.shaped (.list (pds l)) = true := by
  unfold SeqAt.shaped
  simp only [PyData.canLay0, PyData.depth, lays_pu l h, depths_pu]
  simp
  omega
/-- data that == can look at -/
structure Da (d : MV) : Prop where
  pu : MI.pu d = true
  fl : MI.fl d ≤ 1900
  dp : MI.dp d ≤ 60
structure Das (l : List MV) : Prop where
  pu : MI.pus l = true
  fl : MI.fls l ≤ 1900
  dp : MI.dps l ≤ 60
section
variable {m : Mem} {E : Exn → Mem → Prop} {Q : MV → Mem → Prop}
theorem eqS_pu {a b : MV} {k : Bool} (ha : pu a = true) (h : eqS a b = some k) : (k = true ↔ a = b) := by
  cases a <;> cases b <;> simp [eqS] at h <;> first | (subst h; simp) | (simp [pu] at ha)
theorem gEqA_pu {a b : MV} {neg : Bool} (ha : Da a) (hb : Da b) : ∃ k : Bool, (k = true ↔ a = b) ∧ gEqA neg a b m = .ok (.bl (if neg = true then !k else k)) m := by
  unfold gEqA
  cases h : eqS a b with
  | some k =>
    refine ⟨k, eqS_pu ha.pu h, ?_⟩
    dsimp only
    unfold gEqS
    rw [h]
  | none =>
    dsimp only
    unfold gEq
    rw [dat_pu m a fuel ha.pu (Nat.le_trans ha.fl (by decide)), dat_pu m b fuel hb.pu (Nat.le_trans hb.fl (by decide))]
    dsimp only
    rw [if_pos ⟨shaped_pu ha.pu (by have := ha.dp; omega), shaped_pu hb.pu (by have := hb.dp; omega)⟩]
    exact ⟨_, eqv_pu a b ha.pu hb.pu, rfl⟩
theorem W_eqD {a b : MV} {neg : Bool} (ha : Da a) (hb : Da b) (q : ∀ k : Bool, (k = true ↔ a = b) → Q (.bl (if neg = true then !k else k)) m) : W (gEqA neg a b m) Q E := by with_unfolding_all
  obtain ⟨k, h1, h2⟩ := gEqA_pu (m := m) (neg := neg) ha hb
  rw [h2]
  exact q k h1
theorem dat_l {n : Nat} {l : List MV} (h : m[n]? = some (.lst l)) (hl : Das l) : dat m fuel (.ref n) = some (.list (pds l)) := by
  show dat m (1999 + 1) (.ref n) = _
  unfold dat
  rw [(show lstOf m (.ref n) = some l by simp [h])]
  dsimp only
  rw [dats_pu m l 1999 hl.pu (Nat.le_trans hl.fl (by decide))]
  rfl
theorem W_eqL {a b : Nat} {l k : List MV} {neg : Bool} (ha : m[a]? = some (.lst l)) (hb : m[b]? = some (.lst k)) (da : Das l) (db : Das k) (q : ∀ z : Bool, (z = true ↔ l = k) → Q (.bl (if neg = true then !z else z)) m) : W (gEqA neg (.ref a) (.ref b) m) Q E := by with_unfolding_all
  unfold gEqA
  show W (gEq neg (.ref a) (.ref b) m) Q E
  unfold gEq
  rw [dat_l ha da, dat_l hb db]
  dsimp only
  rw [if_pos ⟨shaped_pus da.pu (by have := da.dp; omega), shaped_pus db.pu (by have := db.dp; omega)⟩]
  refine q _ ?_
  show (PyData.eqv (.list _) (.list _) = true ↔ _)
  simp only [PyData.eqv]
  exact eqvs_pu l k da.pu db.pu
end
section
variable {m : Mem} {E : Exn → Mem → Prop} {Q : MV → Mem → Prop}
@[simp] theorem W_sl_r {n : Nat} {lo hi : Option Int} : W (gSl (.ref n) lo hi m) Q E = match lstOf m (.ref n) with | some l => Q (.ref m.length) (m ++ [.lst (cutM l lo hi)]) | none => False := by with_unfolding_all
  show W (match lstOf m (.ref n) with | some l => alloc (.lst (cutM l lo hi)) m | none => .stuck) Q E = _
  cases lstOf m (.ref n) <;> rfl
@[simp] theorem W_zip {a b : MV} : W (gZip [a, b] m) Q E = match lstOf m a, lstOf m b with | some l, some k => Q (.tup ((l.zip k).map fun p => .tup [p.1, p.2])) m | _, _ => False := by with_unfolding_all
  show W (match lstOf m a, lstOf m b with | some l, some k => .ok (.tup ((l.zip k).map fun p => .tup [p.1, p.2])) m | _, _ => .stuck) Q E = _
  cases lstOf m a <;> cases lstOf m b <;> rfl
end
end MI
namespace MI
open PySem L2
section
variable {m : Mem} {E : Exn → Mem → Prop} {Q : MV → Mem → Prop} {ρ : Env}
@[simp] theorem W_max {d : MV} : W (gMax [d] m) Q E = match ((lstOf m d).bind intsOf).bind maxL with | some k => Q (.int k) m | none => False := by with_unfolding_all
  show W (match ((lstOf m d).bind intsOf).bind maxL with | some k => .ok (.int k) m | none => .stuck) Q E = _
  cases ((lstOf m d).bind intsOf).bind maxL <;> rfl
@[simp] theorem W_sum {d : MV} : W (gSum [d] m) Q E = match (lstOf m d).bind intsOf with | some ns => Q (.int ns.sum) m | none => False := by with_unfolding_all
  show W (match (lstOf m d).bind intsOf with | some ns => .ok (.int ns.sum) m | none => .stuck) Q E = _
  cases (lstOf m d).bind intsOf <;> rfl
@[simp] theorem W_sortS {d : MV} : W (gSortS [d] m) Q E = match (lstOf m d).bind strsOf with | some xs => xs.length < 64 ∧ Q (.ref m.length) (m ++ [.lst ((sortM xs).map .str)]) | none => False := by with_unfolding_all
  show W (match (lstOf m d).bind strsOf with | some xs => (if xs.length < 64 then alloc (.lst ((sortM xs).map .str)) m else .stuck) | none => .stuck) Q E = _
  cases (lstOf m d).bind strsOf with
  | none => rfl
  | some xs => by_cases h : xs.length < 64 <;> simp [h, alloc]
@[simp] theorem W_isx {P : Str → Option Bool} {f : ME} : W (mIsx P f ρ m) Q E = W (f ρ m) (fun d m => match isxV P m d with | some b => Q (.bl b) m | none => False) E := by with_unfolding_all
  unfold mIsx
  rw [W_bind]
  congr 1
  funext d m
  cases isxV P m d <;> rfl
@[simp] theorem W_cnt {d e : MV} : W (gCnt d [e] m) Q E = match (lstOf m d).bind fVs, fV e with | some us, some u => Q (.int ((us.countP fun z => eqV z u : Nat) : Int)) m | _, _ => False := by with_unfolding_all
  show W (match (lstOf m d).bind fVs, fV e with | some us, some u => .ok (.int ((us.countP fun z => eqV z u : Nat) : Int)) m | _, _ => .stuck) Q E = _
  cases (lstOf m d).bind fVs <;> cases fV e <;> rfl
@[simp] theorem W_idx {d e : MV} : W (gIdx d [e] m) Q E = match (lstOf m d).bind fVs, fV e with | some us, some u => (match us.findIdx? fun z => eqV z u with | some j => Q (.int (j : Nat)) m | none => False) | _, _ => False := by with_unfolding_all
  show W (match (lstOf m d).bind fVs, fV e with | some us, some u => (match us.findIdx? fun z => eqV z u with | some j => .ok (.int (j : Nat)) m | none => .stuck) | _, _ => .stuck) Q E = _
  cases (lstOf m d).bind fVs with
  | none => rfl
  | some us => cases fV e with
    | none => rfl
    | some u => dsimp only; cases us.findIdx? fun z => eqV z u <;> rfl
@[simp] theorem W_eqE {a b : MV} : W (gEqE a b m) Q E = match lstOf m a, lstOf m b with | some l, some [] => Q (.bl l.isEmpty) m | _, _ => False := by with_unfolding_all
  unfold gEqE
  cases lstOf m a with
  | none => rfl
  | some l => cases lstOf m b with
    | none => rfl
    | some k => cases k <;> rfl
theorem inV_str {s : Str} : ∀ {ns : List Str}, (inV (toV (.str s)) ((ns.map MV.str).map toV) = true ↔ s ∈ ns)
  | [] => ⟨(fun h => by cases h), (fun h => by cases h)⟩
  | x :: r => by
    have ih := inV_str (s := s) (ns := r)
    show (((x == s) || inV (toV (.str s)) ((r.map MV.str).map toV)) = true ↔ _)
    rw [Bool.or_eq_true, ih, List.mem_cons, beq_iff_eq, eq_comm]
section
variable {Q : Fl → Mem → Prop}
@[simp] theorem W_tryK {P : Str → Option Bool} {i j : Nat} {f : MS} : W (mTryK P i j f ρ m) Q E = W (f ρ m) (fun a m' => match a with
    | .ex x ρ' => (match P x.cls with
      | some true => Q (.nx (((ρ'.set i (some (.ref m'.length))).set j (some (.ref m'.length))).set i none)) (m' ++ [.exn x])
      | some false => Q (.ex x ρ') m'
      | none => False)
    | a => Q a m') E := by with_unfolding_all
  unfold mTryK
  cases f ρ m with
  | stuck => rfl
  | ex x m => rfl
  | ok a m =>
    cases a with
    | ex x ρ' =>
      simp only [W_ok]
      cases P x.cls with
      | none => rfl
      | some b => cases b <;> rfl
    | _ => rfl
@[simp] theorem W_tryF {P : Str → Option Bool} {y : Str} {f : MS} : W (mTryF P y f ρ m) Q E = W (f ρ m) (fun a m' => match a with
    | .ex x ρ' => (match P x.cls with
      | some true => Q (.ex ⟨y⟩ ρ') m'
      | some false => Q (.ex x ρ') m'
      | none => False)
    | a => Q a m') E := by with_unfolding_all
  unfold mTryF
  cases f ρ m with
  | stuck => rfl
  | ex x m => rfl
  | ok a m =>
    cases a with
    | ex x ρ' =>
      simp only [W_ok]
      cases P x.cls with
      | none => rfl
      | some b => cases b <;> rfl
    | _ => rfl
end
/-- a comprehension that changes nothing, at any memory, with what its function and test are said of each -/
theorem W_pureN {chk : Mem → Prop} {i : Nat} {t : MT} {e : ME} {Q : List MV → Mem → Prop} (φ : MV → MV) (ψ : MV → Bool) {l : List MV} (hc : chk m) (h : ∀ d ∈ l, t (ρ.set i (some d)) m = .ok (ψ d) m ∧ (ψ d = true → e (ρ.set i (some d)) m = .ok (φ d) m)) (hl : l.length ≤ 1000) (q : ∀ k, k = (l.filter ψ).map φ → Q k m) :
    W (lcM chk (ngName i) t e ρ l [] m) Q E := by with_unfolding_all exact (W_pure φ ψ hc h hl (q _ rfl))
end
end MI
namespace MI
open PySem L2
variable [Nms]
section
variable {X : Cx} {W : WX} {pos : Pos} {K : PySem.W.Frag} {β : List Addr} {H : Hp} {m : Mem}
def mStuck : MS := fun _ _ => .stuck
def foldM (tbl acc : List (Key × MV)) : List (Key × MV) := tbl.foldl (fun acc kv => putM acc kv.1 kv.2) acc
def mDisp (tbl : List (Key × MV)) : ME := fun _ m => alloc (.dct (foldM tbl [])) m
def gGet (d k x : MV) (m : Mem) : Re MV := match dctOf m d, keyOf k with
  | some (_, l), some q => .ok ((valM l q).getD x) m
  | _, _ => .stuck
def mGet2 (fd fy fx : ME) : ME := fun ρ m => (fd ρ m).bind fun d m1 => if (dctOf m1 d).isSome = true then (fy ρ m1).bind fun y m2 => (fx ρ m2).bind fun x m3 => gGet d y x m3 else .stuck
def mGet1 (fd fy : ME) : ME := fun ρ m => (fd ρ m).bind fun d m1 => if (dctOf m1 d).isSome = true then (fy ρ m1).bind fun y m2 => gGet d y .non m2 else .stuck
end
section
variable {m : Mem} {ρ : Env} {E : Exn → Mem → Prop} {Q : MV → Mem → Prop}
@[simp] theorem W_disp {tbl : List (Key × MV)} : MI.W (mDisp tbl ρ m) Q E = Q (.ref m.length) (m ++ [.dct (foldM tbl [])]) := by with_unfolding_all rfl
@[simp] theorem W_gGet {d k x : MV} : MI.W (gGet d k x m) Q E = match dctOf m d, keyOf k with | some (_, l), some q => Q ((valM l q).getD x) m | _, _ => False := by with_unfolding_all
  unfold gGet
  cases dctOf m d with
  | none => rfl
  | some p => cases keyOf k <;> rfl
@[simp] theorem W_get2 {fd fy fx : ME} : MI.W (mGet2 fd fy fx ρ m) Q E = MI.W (fd ρ m) (fun d m => if (dctOf m d).isSome = true then MI.W (fy ρ m) (fun y m => MI.W (fx ρ m) (fun x m => MI.W (gGet d y x m) Q E) E) E else False) E := by with_unfolding_all
  unfold mGet2
  rw [W_bind]
  congr 1
  funext d m
  rw [W_ite]
  simp only [W_bind, W_stuck]
@[simp] theorem W_get1 {fd fy : ME} : MI.W (mGet1 fd fy ρ m) Q E = MI.W (fd ρ m) (fun d m => if (dctOf m d).isSome = true then MI.W (fy ρ m) (fun y m => MI.W (gGet d y .non m) Q E) E else False) E := by with_unfolding_all
  unfold mGet1
  rw [W_bind]
  congr 1
  funext d m
  rw [W_ite]
  simp only [W_bind, W_stuck]
@[simp] theorem W_mStuck {Q : Fl → Mem → Prop} : MI.W (mStuck ρ m) Q E = False := by with_unfolding_all rfl
end
end MI
namespace MI
open PySem L2
variable [Nms]
section
variable {X : Cx} {W : WX} {pos : Pos} {K : PySem.W.Frag} {β : List Addr} {H : Hp} {m : Mem}
def rInT (K : PySem.W.Frag) (neg : Bool) : R2 := fun x y H Q => ∃ d ds, Dp K H x d ∧ Dp K H y (.tuple ds) ∧ SeqAt.shaped d = true ∧ SeqAt.shaped (.tuple ds) = true ∧ Q (.bl (if neg = true then !ds.any fun z => PyData.eqv z d else ds.any fun z => PyData.eqv z d)) H
theorem roomT {d : PyData} {ds : List PyData} {A : Around} (sd : SeqAt.shaped d = true) (hu : A.units + 65 < cLine) : A.units + 1 + min (PyData.depthAll ds) d.depth < cLine := by
  have h1 := SeqAt.depth_of_shaped sd
  have h2 : min (PyData.depthAll ds) d.depth ≤ d.depth := Nat.min_le_right _ _
  omega
theorem op_inT (hu : X.A.units + 65 < cLine) : OpR X (compareOp .In) (rInT X.K false) := by
  intro pins s σ H x y v u Q I rx ry h
  obtain ⟨d, ds, hd, he, sd, se, q⟩ := h
  obtain ⟨as, r1⟩ := Dp.reads I d x v hd rx
  obtain ⟨bs, r2⟩ := Dp.reads I (.tuple ds) y u he ry
  exact SeqAt.in_tuple_reads r2 r1 (by simpa [PyData.canLay0] using SeqAt.canLay_of_shaped se) (SeqAt.canLay_of_shaped sd) (roomT sd hu) ⟨.bl _, H, I, rfl, q⟩
theorem op_ninT (hu : X.A.units + 65 < cLine) : OpR X (compareOp .NotIn) (rInT X.K true) := by
  intro pins s σ H x y v u Q I rx ry h
  obtain ⟨d, ds, hd, he, sd, se, q⟩ := h
  obtain ⟨as, r1⟩ := Dp.reads I d x v hd rx
  obtain ⟨bs, r2⟩ := Dp.reads I (.tuple ds) y u he ry
  exact SeqAt.notIn_tuple_reads r2 r1 (by simpa [PyData.canLay0] using SeqAt.canLay_of_shaped se) (SeqAt.canLay_of_shaped sd) (roomT sd hu) ⟨.bl _, H, I, rfl, q⟩
def gInT (neg : Bool) (a b : MV) (m : Mem) : Re MV := match dat m fuel a, dat m fuel b with
  | some d, some (.tuple ds) => if SeqAt.shaped d = true ∧ SeqAt.shaped (.tuple ds) = true then .ok (.bl (if neg = true then !ds.any fun z => PyData.eqv z d else ds.any fun z => PyData.eqv z d)) m else .stuck
  | _, _ => .stuck
theorem om_inT {neg : Bool} : OpM X (rInT X.K neg) (gInT neg) := by with_unfolding_all
  intro W σ d e m β H x y Q M rx ry p
  unfold gInT at p
  split at p
  · rename_i a b e1 e2
    split at p
    · rename_i h
      exact ⟨a, b, M.dat1 rx e1, M.dat1 ry e2, h.1, h.2, p.ok M (.bl _)⟩
    · exact p.not_stuck
  · exact p.not_stuck
open Classical in
/-- x in a list, a dict, a text, a tuple -/
noncomputable def gInB (neg : Bool) (a b : MV) (m : Mem) : Re MV := if (∃ l, b = .tup l) ∧ flat a = false then gInT neg a b m else gInA neg a b m
theorem je_inB {a b : Expr} {fa fb : ME} (hu : X.A.units + 1 < cLine) (hu2 : X.A.units + 65 < cLine) (ha : JE X W a fa) (hb : JE X W b fb) (hk : behindInMarks .In b = false := by with_unfolding_all rfl) : JE X W (.Compare a [.In] [b] pos) (mBin (gInB false) fa fb) :=
  JE.or (j_cmp (op_inT hu2) om_inT ha hb hk) (je_in hu hu2 ha hb hk) (mBin_or fun a b m => by with_unfolding_all
    unfold gInB
    by_cases q : (∃ l, b = .tup l) ∧ flat a = false
    · exact .inl (if_pos q)
    · exact .inr (if_neg q))
theorem je_ninB {a b : Expr} {fa fb : ME} (hu : X.A.units + 1 < cLine) (hu2 : X.A.units + 65 < cLine) (ha : JE X W a fa) (hb : JE X W b fb) (hk : behindInMarks .NotIn b = false := by with_unfolding_all rfl) : JE X W (.Compare a [.NotIn] [b] pos) (mBin (gInB true) fa fb) :=
  JE.or (j_cmp (op_ninT hu2) om_inT ha hb hk) (je_nin hu hu2 ha hb hk) (mBin_or fun a b m => by with_unfolding_all
    unfold gInB
    by_cases q : (∃ l, b = .tup l) ∧ flat a = false
    · exact .inl (if_pos q)
    · exact .inr (if_neg q))
theorem jt_inB {a b : Expr} {fa fb : ME} (hu : X.A.units + 1 < cLine) (hu2 : X.A.units + 65 < cLine) (ha : JE X W a fa) (hb : JE X W b fb) (hk : behindInMarks .In b = false := by with_unfolding_all rfl) : JT X W (.Compare a [.In] [b] pos) (mB (mBin (gInB false) fa fb)) :=
  JT.or (jt_cmp (op_inT hu2) om_inT ha hb hk) (jt_in hu hu2 ha hb hk) (mB_or fun a b m => by with_unfolding_all
    unfold gInB
    by_cases q : (∃ l, b = .tup l) ∧ flat a = false
    · exact .inl (if_pos q)
    · exact .inr (if_neg q))
end
section
variable {m : Mem} {E : Exn → Mem → Prop} {Q : MV → Mem → Prop}
@[simp] theorem gInB_ref {neg : Bool} {a : MV} {n : Nat} : gInB neg a (.ref n) m = gInA neg a (.ref n) m := by
  unfold gInB
  rw [if_neg (by rintro ⟨⟨l, h⟩, _⟩; cases h)]
@[simp] theorem gInB_str {neg : Bool} {a : MV} {z : Str} : gInB neg a (.str z) m = gInA neg a (.str z) m := by
  unfold gInB
  rw [if_neg (by rintro ⟨⟨l, h⟩, _⟩; cases h)]
@[simp] theorem gInB_s {neg : Bool} {s : Str} {b : MV} : gInB neg (.str s) b m = gInA neg (.str s) b m := by
  unfold gInB
  rw [if_neg (by rintro ⟨_, h⟩; cases h)]
end
end MI
namespace MI
open PySem L2
variable [Nms]
section
variable {X : Cx} {W : WX} {pos : Pos} {K : PySem.W.Frag} {β : List Addr} {H : Hp} {m : Mem}
def keyM : Key → MV
  | .inl i => .int i
  | .inr s => .str s
theorem RKs.keys : ∀ {l : List (Key × MV)} {vs : List (Key × V)}, RKs K β H l vs → ∀ {β' : List Addr} {H' : Hp}, RVs K β' H' (l.map fun kv => keyM kv.1) (vs.map fun kv => kV kv.1)
  | _, _, .nil, _, _ => .nil
  | _, _, .cons (k := k) h r, _, _ => by
    refine .cons ?_ (RKs.keys r)
    cases k with
    | inl i => exact .int i
    | inr s => exact .str s
def gListA : List MV → Mem → Re MV
  | [d], m => match dctOf m d with
    | some (_, l) => alloc (.lst (l.map fun kv => keyM kv.1)) m
    | none => gList [d] m
  | _, _ => .stuck
abbrev rListA (K : PySem.W.Frag) : List V → Hp → VK → Prop := fun xs H Q => (∃ (a : Addr) (kvs : List (Key × V)), xs = [.ref a] ∧ Rd H a (.dK kvs) ∧ ∀ p, H p = none → Q (.ref p) (upd H p (.lst (kvs.map fun kv => kV kv.1)))) ∨ ∃ p ys, xs = [.ref p] ∧ (SqL K H p ys ∨ SqT K H p ys) ∧ ∀ l, H l = none → Q (.ref l) (upd H l (.lst ys))
theorem cr_listA (hc : X.calm = true) : CallR X (.type "list") (rListA X.K) := cr_or (call_listD hc) call_list_of
theorem cm_listA : CrM X (rListA X.K) gListA := by with_unfolding_all
  intro W σ ds m β H vs Q M V p
  unfold gListA at p
  split at p
  · rename_i d
    split at p
    · rename_i n l h
      cases V with
      | cons h1 r =>
        cases r
        obtain ⟨a, vs, rfl, hb, hH, hr⟩ := M.dct h1 h
        exact .inl ⟨a, vs, rfl, .inl hH, fun q hq => p.alloc M hq ⟨_, upd_same, hr.keys⟩⟩
    · exact .inr (cm_list W σ _ m β H vs Q M V p)
  · exact p.not_stuck
end
section
variable {m : Mem} {E : Exn → Mem → Prop} {Q : MV → Mem → Prop}
@[simp] theorem W_listA_t {l : List MV} : MI.W (gListA [.tup l] m) Q E = MI.W (gList [.tup l] m) Q E := by with_unfolding_all rfl
@[simp] theorem W_listA_r {n : Nat} : MI.W (gListA [.ref n] m) Q E = match m[n]? with
    | some (.dct l) => Q (.ref m.length) (m ++ [.lst (l.map fun kv => keyM kv.1)])
    | _ => MI.W (gList [.ref n] m) Q E := by with_unfolding_all
  show MI.W (match dctOf m (.ref n) with
    | some (_, l) => alloc (.lst (l.map fun kv => keyM kv.1)) m
    | none => gList [.ref n] m) Q E = _
  simp only [dctOf_ref]
  cases m[n]? with
  | none => rfl
  | some o => cases o <;> rfl
end
end MI
namespace MI
open PySem L2
variable [Nms]
section
variable {X : Cx} {W : WX} {pos : Pos} {K : PySem.W.Frag} {β : List Addr} {H : Hp} {m : Mem}
def gEqT (a b : MV) (m : Mem) : Re MV := match a, b with
  | .tup l, .tup [] => .ok (.bl l.isEmpty) m
  | _, _ => .stuck
end
section
variable {m : Mem} {E : Exn → Mem → Prop} {Q : MV → Mem → Prop}
@[simp] theorem W_eqT {l : List MV} : MI.W (gEqT (.tup l) (.tup []) m) Q E = Q (.bl l.isEmpty) m := by with_unfolding_all rfl
end
end MI
namespace MI
open PySem L2
variable [Nms]
/-- attribute f of the classes that P takes -/
structure FldN (K : PySem.W.Frag) (f : Str) (P : Str → Bool) : Prop where
  ex : ∀ (c : Str) (C : Addr), P c = true → ClsN K c C → Cls K C ∧ NoAttr K C f
def ownOf (m : Mem) : MV → Option (Nat × Str × List (Str × MV))
  | .ref n => match m[n]? with
    | some (.own c l) => some (n, c, l)
    | _ => none
  | _ => none
section
variable {K : PySem.W.Frag} {β : List Addr} {H : Hp} {m : Mem}
theorem RFs.look (f : Str) : ∀ {l : List (Str × MV)} {vs : List (Str × V)}, RFs K β H l vs → ∀ {d : MV}, l.lookup f = some d → ∃ v, vs.lookup f = some v ∧ RV K β H d v
  | _, _, .nil, _, h => by simp at h
  | _, _, @RFs.cons _ _ _ k d' v' ds vs h r, d, q => by
    rw [List.lookup_cons] at q ⊢
    cases hk : f == k with
    | true => rw [hk] at q; cases q; exact ⟨v', by simp, h⟩
    | false => rw [hk] at q; simpa using r.look f q
def putFM (f : Str) (v : MV) : List (Str × MV) → List (Str × MV)
  | [] => [(f, v)]
  | (g, x) :: r => if g = f then (g, v) :: r else (g, x) :: putFM f v r
theorem RFs.put (f : Str) {d : MV} {v : V} (h : RV K β H d v) : ∀ {l : List (Str × MV)} {vs : List (Str × V)}, RFs K β H l vs → RFs K β H (putFM f d l) (putF f v vs)
  | _, _, .nil => .cons h .nil
  | _, _, @RFs.cons _ _ _ k d' v' ds vs h' r => by
    unfold putFM putF
    split
    · exact .cons h r
    · exact .cons h' (r.put f h)
theorem RFs.len : ∀ {l : List (Str × MV)} {vs : List (Str × V)}, RFs K β H l vs → l.length = vs.length
  | _, _, .nil => rfl
  | _, _, .cons _ r => by simp [r.len]
theorem RM.own (R : RM K β H m) {d : MV} {v : V} {n : Nat} {c : Str} {l : List (Str × MV)} (r : RV K β H d v) (h : ownOf m d = some (n, c, l)) : ∃ a C dx vs, v = .ref a ∧ m[n]? = some (.own c l) ∧ β[n]? = some a ∧ ClsN K c C ∧ H a = some (.ins C dx vs) ∧ RFs K β H l vs := by
  cases r with
  | @ref n' a hb =>
    have h : (match m[n']? with | some (.own c l) => some (n', c, l) | _ => none) = some (n, c, l) := h
    split at h
    · rename_i c' l' e
      cases h
      obtain ⟨C, dx, vs, q1, q2, q3⟩ := R.ob n _ a e hb
      exact ⟨a, C, dx, vs, rfl, e, hb, q1, q2, q3⟩
    · cases h
  | _ => cases h
end
section
variable {X : Cx} {W : WX} {pos : Pos}
def gFld (P : Str → Bool) (f : Str) (d : MV) (m : Mem) : Re MV := match ownOf m d with
  | some (_, c, l) => if P c = true then (match l.lookup f with | some v => .ok v m | none => .stuck) else .stuck
  | none => .stuck
def mFld (P : Str → Bool) (f : Str) (g : ME) : ME := fun ρ m => (g ρ m).bind fun d m1 => gFld P f d m1
theorem je_fld {P : Str → Bool} {f : Str} {e : Expr} {g : ME} (h : JE X W e g) (T : FldN X.K f P) (hb : attributeBase e f X.env (eval e X.env) = eval e X.env := by with_unfolding_all rfl) : JE X W (.Attribute e f pos) (mFld P f g) :=
  ⟨pe_imp (pe_fld h.run hb) fun σ H Q ⟨ρ, m, β, hE, hM, p⟩ => ⟨ρ, m, β, hE, hM, p.bind fun d m1 x H1 β1 _ e1 M1 V1 p1 => by with_unfolding_all
    unfold gFld at p1
    split at p1
    · rename_i n c l ho
      obtain ⟨a, C, dx, vs, rfl, h1, h2, h3, h4, h5⟩ := M1.own V1 ho
      split at p1
      · rename_i hP
        split at p1
        · rename_i v hv
          obtain ⟨u, q1, q2⟩ := h5.look f hv
          obtain ⟨c1, c2⟩ := T.ex c C hP h3
          exact ⟨a, C, dx, vs, u, rfl, h4, c1, c2, q1, p1.ok M1 q2⟩
        · exact p1.not_stuck
      · exact p1.not_stuck
    · exact p1.not_stuck⟩⟩
def mFldS (P : Str → Bool) (f : Str) (fo fv : ME) : MS := fun ρ m => onE ρ (fv ρ m) fun y m1 => onE ρ (fo ρ m1) fun d m2 => match ownOf m2 d with
  | some (n, c, l) => if P c = true ∧ l.length < 1000 then .ok (.nx ρ) (m2.set n (.own c (putFM f y l))) else .stuck
  | none => .stuck
theorem js_fld {P : Str → Bool} {f : Str} {o value : Expr} {pos' : Pos} {fo fv : ME} (ho : JE X W o fo) (hv : JE X W value fv) (T : FldN X.K f P) (hs : swapsWith value (some (.Attribute o f pos')) pos.line X.env = pure false := by with_unfolding_all rfl) :
    JS X W (.Assign [.Attribute o f pos'] value pos) (mFldS P f fo fv) :=
  ⟨ps_imp (ps_fld ho.run hv.run hs) fun D σ H ⟨ρ, m, β, hE, hM, p⟩ => ⟨ρ, m, β, hE, hM,
    PostS.on (D := D) (R := fun β' H' d v => RV X.K β' H' d v) hE hM p fun y m1 v H1 β1 _ e M V q => ⟨ρ, m1, β1, hE.ext hM e, M,
      PostS.on (D := D) (R := fun β' H' d v => RV X.K β' H' d v) (hE.ext hM e) M q fun d m2 x H2 β2 _ e2 M2 V2 q2 => by with_unfolding_all
        split at q2
        · rename_i n c l hown
          obtain ⟨a, C, dx, vs, rfl, h1, h2, h3, h4, h5⟩ := M2.own V2 hown
          split at q2
          · rename_i hP
            obtain ⟨c1, c2⟩ := T.ex c C hP.1 h3
            refine ⟨a, C, dx, vs, rfl, h4, c1, c2, by rw [← h5.len]; exact hP.2, ?_⟩
            have eX : Ext β2 H2 β2 (upd H2 a (.ins C dx (putF f v vs))) := Ext.wr (List.mem_of_getElem? h2)
            have V' := V.ext M e2
            exact q2 σ _ β2 eX (M2.wr h2 ⟨C, dx, _, h3, upd_same, (h5.put f V').ext M2 eX⟩) (((hE.ext hM e).ext M e2).ext M2 eX)
          · exact q2.elim
        · exact q2.elim⟩⟩⟩
/-- a class of the module whose __init__ does F; n arguments behind the object itself -/
structure MkX (M : Mode) (P : Program) (w : World) (K : PySem.W.Frag) (mg : Str → Option Value) (base : Heap) (k : Nat) (c : Str) (n : Nat) (F : MF) : Prop where
  ex : ∃ (C f : Addr) (fd : FuncData) (ps : List Str), FnOk P w K mg base (M.CX P w) k f fd ps (spM K (n + 1) F) ∧ ClsN K c C ∧ mg c = some (.ref C) ∧ Mk K C f ∧ Binds K fd ps []
def gMake (c : Str) (F : MF) (ds : List MV) (m : Mem) : Re MV := match F (.ref m.length :: ds) (m ++ [.own c []]) with
  | .ok .non m' => .ok (.ref m.length) m'
  | _ => .stuck
theorem jx_make {M : Mode} {k j n : Nat} {c : Str} {F : MF} {e : Expr} {es : List Expr} {g : MA} {p pos : Pos} (Fk : MkX M X.prog X.w X.K X.mg X.base k c n F) (hr : Room j X.A) (hk : k + 1 ≤ j) (ha : JA X W (e :: es) g)
    (hg : Gl X c := by with_unfolding_all rfl) (hdb : (c == ("__debug__" : Str)) = false := by with_unfolding_all decide) (he : starEach (e :: es) X.env = (false, eval e X.env) :: starEach es X.env := by with_unfolding_all rfl) (hpl : (backTo pos (starEach es X.env)).any (·.1) = false := by with_unfolding_all rfl)
    (hlen : ∀ ρ m ds m1, g ρ m = .ok ds m1 → ds.length = n) : JE X W (.Call (.Name c p) (e :: es) [] pos) (mCall (gMake c F) g) := by with_unfolding_all
  obtain ⟨C, f, fd, ps, h1, h2, h3, h4, h5⟩ := Fk.ex
  refine ⟨pe_imp (pe_make (E := fun _ _ _ => False) h4 h1 (hr.mono hk) hg h3 h5 .nil (fun _ _ _ _ _ _ _ z => (M.no z).elim) ha.run hdb he hpl) fun σ H Q ⟨ρ, m, β, hE, hM, p⟩ => ⟨ρ, m, β, hE, hM, ?_⟩⟩
  refine p.bind fun ds m1 vs H1 β1 e0 e1 M1 V1 p1 x dx nx ndx ne => ?_
  have nx' : upd H1 dx (.own x) x = none := by with_unfolding_all rw [upd_ne (Ne.symm ne)]; exact nx
  have eX : Ext β1 H1 (β1 ++ [x]) (upd (upd H1 dx (.own x)) x (.ins C dx [])) := (Ext.tup ndx).trans (Ext.push nx')
  have MX : RM X.K (β1 ++ [x]) (upd (upd H1 dx (.own x)) x (.ins C dx [])) (m1 ++ [.own c []]) := (M1.tup ndx).push nx' ⟨C, dx, [], h2, upd_same, .nil⟩
  have hx : (β1 ++ [x])[m1.length]? = some x := by with_unfolding_all rw [← M1.len]; simp
  refine ⟨by simp [← V1.length, hlen ρ m ds m1 e0], .ref m1.length :: ds, m1 ++ [.own c []], β1 ++ [x], .cons (.ref hx) (by rw [List.append_nil]; exact V1.ext M1 eX), MX, ?_⟩
  unfold gMake at p1
  revert p1
  generalize F (.ref m1.length :: ds) (m1 ++ [.own c []]) = r
  intro p1
  cases r with
  | ok d m2 =>
    cases d with
    | non =>
      intro v H' β' e' M' V'
      cases V'
      exact ⟨rfl, p1 (.ref x) H' β' (eX.trans e') M' (.ref (e'.get hx))⟩
    | _ => exact p1.not_stuck
  | ex x m2 => exact p1.not_stuck
  | stuck => exact p1.not_stuck
end
def lv (k : Nat) : Nat := Nat.rec 0 (fun _ n => n + 1) k
def clsS (st : Stmt) (j : Nat) : Stmt := match st with
  | .ClassDef _ _ _ body _ _ _ _ _ _ _ => body.getD j (.Pass ⟨0, 0, 0, 0⟩)
  | _ => .Pass ⟨0, 0, 0, 0⟩
/-- __init__ of a class of the module -/
structure IniAt (K : PySem.W.Frag) (mg : Str → Option Value) (c : Str) (qual : Str) (st : Stmt) (ps : List Str) : Prop where
  ex : ∃ (C f : Addr) (fd : FuncData), Fun K "__init__" qual st f fd ∧ ClsN K c C ∧ mg c = some (.ref C) ∧ Mk K C f ∧ Binds K fd ps []
section
variable {K : PySem.W.Frag} {h : Heap} {mg : Str → Option Value} {w : World}
theorem ini_mk {c qual : Str} {st : Stmt} {ps : List Str} {C f : Addr} {oc : Value} {od an : Option Addr} {osl : Array (Option Value)} {kV doc pm cdv ct : Value} (X : K.In h) (G : h.Ns mainGlobals mg)
    (a : PySem.W.nsIn K mainGlobals c = some (some (.ref C))) (i : PySem.W.findIn K (.ref C) "__init__" = some (some (.ref f))) (fn : PySem.W.isFn K (.ref f) = true) (mk : PySem.W.makesIn K C = true) (kp : PySem.W.keepIn K (.ref C) = true)
    (l : K.lookup f = some ⟨oc, od, .func (PySem.W.fnOf "__init__" qual (defArgs st) (defBody st) (defScope st) .none kV doc pm an cdv ct), osl⟩) (cd : PySem.W.codeIn K cdv qual = true) (k : PySem.W.keepIn K (.ref f) = true)
    (b : ∀ (kV doc pm : Value) (an : Option Addr) (cdv ct : Value) (us : List Value), us.length = ps.length → bindArgs (PySem.W.fnOf "__init__" qual (defArgs st) (defBody st) (defScope st) .none kV doc pm an cdv ct) ⟨us, []⟩ = pure (ps.zip us)) : IniAt K mg c qual st ps :=
  ⟨C, f, _, fun_mk l cd k, a, PySem.W.mg_of X G a, ⟨mk, i, fn, kp⟩, (fun_mk l cd k).binds b⟩
theorem IniAt.mkx {P : Program} {base : Heap} {M : Mode} {c qual : Str} {st : Stmt} {ps : List Str} {k n : Nat} {F : MF} (D : IniAt K mg c qual st ps) (hok : ∀ f fd, Fun K "__init__" qual st f fd → FnOk P w K mg base (M.CX P w) k f fd ps (spM K (n + 1) F)) : MkX M P w K mg base k c n F := by
  obtain ⟨C, f, fd, h1, h2, h3, h4, h5⟩ := D.ex
  exact ⟨C, f, fd, ps, hok f fd h1, h2, h3, h4, h5⟩
theorem IniAt.mk0 {P : Program} {base : Heap} {M : Mode} {c qual : Str} {st : Stmt} {ps : List Str} {n : Nat} (D : IniAt K mg c qual st ps) (hn : ps.length = n + 1) : MkX M P w K mg base 0 c n (fun _ _ => .stuck) := by
  obtain ⟨C, f, fd, h1, h2, h3, h4, h5⟩ := D.ex
  exact ⟨C, f, fd, ps, ⟨fun vs H Q E h => by rw [hn]; exact h.1, fun A outer s H args us vs Q E _ _ _ _ h => by obtain ⟨_, _, _, _, _, _, q⟩ := h; exact q.elim⟩, h2, h3, h4, h5⟩
theorem fld_mk {c f : Str} {C : Addr} (a : PySem.W.nsIn K mainGlobals c = some (some (.ref C))) (pg : PySem.W.plainGet K C Str.empty = true) (hd : PySem.W.hasDictIn K C = true) (po : PySem.W.plainOver K C = true)
    (sa : PySem.W.findIn K (.ref C) "__setattr__" = some (some (.builtin "object.__setattr__"))) (n : PySem.W.findIn K (.ref C) f = some none) : FldN K f (fun y => y == c) := by with_unfolding_all
  refine ⟨fun y D hy hD => ?_⟩
  have e : y = c := eq_of_beq hy
  subst e
  have hD : PySem.W.nsIn K mainGlobals y = some (some (.ref D)) := hD
  rw [a] at hD
  cases hD
  exact ⟨⟨pg, hd, po, sa⟩, n⟩
theorem FldN.or {f : Str} {P Q : Str → Bool} (p : FldN K f P) (q : FldN K f Q) : FldN K f (fun y => P y || Q y) :=
  ⟨fun c C h hc => by
    rcases Bool.or_eq_true_iff.mp h with h | h
    · exact p.ex c C h hc
    · exact q.ex c C h hc⟩
end
end MI
namespace MI
open PySem L2
section
variable {E : Exn → Mem → Prop} {ρ : Env} {m : Mem}
@[simp] theorem W_fld {P : Str → Bool} {f : Str} {g : ME} {Q : MV → Mem → Prop} : W (mFld P f g ρ m) Q E = W (g ρ m) (fun d m1 => W (gFld P f d m1) Q E) E := by with_unfolding_all
  unfold mFld
  rw [W_bind]
theorem W_gFld {P : Str → Bool} {f c : Str} {n : Nat} {l : List (Str × MV)} {v : MV} {Q : MV → Mem → Prop} (h : m[n]? = some (.own c l)) (hP : P c = true) (hl : l.lookup f = some v) (q : Q v m) : W (gFld P f (.ref n) m) Q E := by with_unfolding_all
  unfold gFld ownOf
  simp only [h, hP, hl, if_true]
  exact q
@[simp] theorem W_fldS {P : Str → Bool} {f : Str} {fo fv : ME} {Q : Fl → Mem → Prop} : W (mFldS P f fo fv ρ m) Q E = W (fv ρ m) (fun y m1 => W (fo ρ m1) (fun d m2 => match ownOf m2 d with
    | some (n, c, l) => if P c = true ∧ l.length < 1000 then Q (.nx ρ) (m2.set n (.own c (putFM f y l))) else False
    | none => False) (fun x m => Q (.ex x ρ) m)) (fun x m => Q (.ex x ρ) m) := by with_unfolding_all
  unfold mFldS
  simp only [W_onE]
  congr 1
  funext y m1
  congr 1
  funext d m2
  cases h : ownOf m2 d with
  | none => rfl
  | some q =>
    obtain ⟨n, c, l⟩ := q
    simp only
    split <;> rfl
theorem ownOf_at {n : Nat} {c : Str} {l : List (Str × MV)} (h : m[n]? = some (.own c l)) : ownOf m (.ref n) = some (n, c, l) := by
  unfold ownOf
  simp only [h]
end
end MI
section
set_option maxHeartbeats 4000000
namespace MI
open PySem PySem.Spec PyProof.Rows L2
variable [Nms]
theorem tuple_mul1 (l : Addr) (items : Array Value) (n : Nat) (dd : Option Addr) (sl : Array (Option Value)) (u : Tok) :
    Meets (Builtin.«tuple.__mul__» ⟨[.ref l, .int 1 u], []⟩) (fun _ R s => s.heap.get? l = some { cls := .type "tuple", dict := dd, data := .seq items n, slots := sl } ∧ R (.ok (.ret (Value.ref l))) s) :=
  .of_wp fun prog w A R s h => by
    obtain ⟨hp, g, d, tk, os⟩ := s
    obtain ⟨hl, h⟩ := h
    have f1 := AutoSeq1.idx_int
    have c1 : (items.isEmpty || (1 : Int) == 1) = true := by simp
    wp_walk using wpAny_loadPart' hl
    exact ⟨_, rfl, h⟩
theorem tuple_mul0 (l : Addr) (items : Array Value) (n : Nat) (dd : Option Addr) (sl : Array (Option Value)) (u : Tok) (c1 : (items.isEmpty || (0 : Int) == 1) = false) :
    Meets (Builtin.«tuple.__mul__» ⟨[.ref l, .int 0 u], []⟩) (fun _ R s => s.heap.get? l = some { cls := .type "tuple", dict := dd, data := .seq items n, slots := sl } ∧
      R (.ok (.ret (Value.ref s.heap.objs.size))) { s with heap := s.heap.push { cls := Value.type "tuple", data := Data.seq #[] }, toks := s.toks }) :=
  .of_wp fun prog w A R s h => by
    obtain ⟨hp, g, d, tk, os⟩ := s
    obtain ⟨hl, h⟩ := h
    have f1 := AutoSeq1.idx_int
    wp_walk using wpAny_loadPart' hl
    repeat (first
      | (refine wpAny_ite_false (decide_eq_false (by rw [c1]; exact Bool.false_ne_true)) ?_; wp_walk using wpAny_loadPart' hl))
    exact ⟨_, rfl, h⟩
/-- a tuple of something, not at all or once -/
def rRep01 (K : PySem.W.Frag) : R2 := fun x y H Q => ∃ l k xs, x = .ref l ∧ y = .int k ∧ SqT K H l xs ∧ xs ≠ [] ∧ ((k = 1 ∧ Q (.ref l) H) ∨ (k = 0 ∧ ∀ p, H p = none → Q (.ref p) (upd H p (.tup []))))
section
variable {X : Cx}
theorem op_rep01 : OpR X (binaryOp .Mult) (rRep01 X.K) := by
  intro pins s σ H x y v u Q I rx ry h
  obtain ⟨l, k, xs, rfl, rfl, hT, hne, q⟩ := h
  cases rx
  obtain ⟨t, rfl⟩ := ry
  obtain ⟨its, r, ⟨⟨cls, dd, data, sl⟩, ho, hc, n, hd⟩, hs⟩ := I.tuple hT
  simp only at hc hd
  subst hc hd
  have hle : its.length = xs.length := r.length.symm
  have hi : its.toArray.isEmpty = false := by
    cases its with
    | nil => exact absurd (List.eq_nil_of_length_eq_zero hle.symm) hne
    | cons a b => rfl
  rcases q with ⟨rfl, q⟩ | ⟨rfl, q⟩
  · exact wpAny_binaryOp_repeat_ref (T := "tuple") (U := "int") (by decide) ⟨_, ho, rfl⟩ (fun s' => typeIs_int s' 1 t) noFill_tuple_mul F.fills_int_mul F.slot_int_rmul repeat_tuple F.slot_int_index.lookup
      (call_meets F.slot_int_rmul (typeIs_int s 1 t) F.entry_int_rmul (F.args_int_rmul_2 _ _) (int_rmul_tuple 1 t l its.toArray n dd sl)
        ⟨ho, rfl, ⟨_, ho, rfl⟩, call_meets F.slot_tuple_mul ⟨_, ho, rfl⟩ F.entry_tuple_mul (F.args_tuple_mul_2 _ _) (tuple_mul1 l its.toArray n dd sl t) ⟨ho, ⟨.ref l, H, I, rfl, q⟩⟩⟩)
  · exact wpAny_binaryOp_repeat_ref (T := "tuple") (U := "int") (by decide) ⟨_, ho, rfl⟩ (fun s' => typeIs_int s' 0 t) noFill_tuple_mul F.fills_int_mul F.slot_int_rmul repeat_tuple F.slot_int_index.lookup
      (call_meets F.slot_int_rmul (typeIs_int s 0 t) F.entry_int_rmul (F.args_int_rmul_2 _ _) (int_rmul_tuple 0 t l its.toArray n dd sl)
        ⟨ho, rfl, ⟨_, ho, rfl⟩, call_meets F.slot_tuple_mul ⟨_, ho, rfl⟩ F.entry_tuple_mul (F.args_tuple_mul_2 _ _) (tuple_mul0 l its.toArray n dd sl t (by rw [hi]; rfl)) ⟨ho,
          ⟨.ref s.heap.objs.size, _, I.laid (t' := s.toks) (o := .tup []) (fun b ob q => Heap.get?_push_of_some _ q) (Nat.le_refl _) ⟨Nat.zero_le _, [], .nil, IsTup.new _ _⟩, rfl, q _ (I.hok.fresh (Nat.le_refl _))⟩⟩⟩)
/-- a short tuple, some thousand times -/
def rRepB (K : PySem.W.Frag) : R2 := fun x y H Q => ∃ a n vs, x = .ref a ∧ y = .int n ∧ SqT K H a vs ∧ (1 ≤ vs.length ∧ vs.length ≤ 10 ∧ 2 ≤ n ∧ n ≤ 4000) ∧ ∀ p, H p = none → Q (.ref p) (upd H p (.tup (List.replicate n.toNat vs).flatten))
theorem op_repB : OpR X (binaryOp .Mult) (rRepB X.K) := by
  intro pins s σ H x y v u Q I rx ry ⟨a, n, vs, e1, e2, hT, ⟨b1, b2, b3, b4⟩, q⟩
  subst e1 e2
  cases rx
  obtain ⟨t, rfl⟩ := ry
  obtain ⟨us, r, ⟨⟨cc, dd, da, sl⟩, ho, hc, z, hd⟩, hs⟩ := I.tuple hT
  simp only at hc hd
  subst hc hd
  have el : us.length = vs.length := r.length.symm
  have es : us.toArray.size = vs.length := by rw [List.size_toArray, el]
  have ne : us.toArray.isEmpty = false := by
    cases us with
    | nil => simp at el; omega
    | cons _ _ => rfl
  have prod : ((us.toArray.size : Nat) : Int) * n ≤ 40000 := by
    rw [es]
    exact Int.le_trans (Int.mul_le_mul (show ((vs.length : Nat) : Int) ≤ 10 by omega) b4 (by omega) (by decide)) (by decide)
  have pl : (List.replicate n.toNat us).flatten.length ≤ 40000 := by
    rw [PyProof.Rows.lm_len_rep_flat, el]
    exact Nat.le_trans (Nat.mul_le_mul (show n.toNat ≤ 4000 by omega) b2) (by decide)
  have big : 40000 ≤ sizeLine := by rw [sizeLine_eq]; decide
  have k0 : (decide (n < -(2 ^ 63)) || decide (n ≥ 2 ^ 63)) = false := by simp; omega
  have k1 : (us.toArray.isEmpty || n == 1) = false := by rw [ne]; simp; omega
  have k2 : (decide (n ≤ 0) || us.toArray.isEmpty) = false := by rw [ne]; simp; omega
  have k4 : Builtin.Tuple.tupleTooMany (((us.toArray.size : Nat) : Int) * n) = false := by
    unfold Builtin.Tuple.tupleTooMany
    exact decide_eq_false (by omega)
  have M1 := int_rmul_tuple n t a us.toArray z dd sl
  have M2 := tuple_mulW a us.toArray z dd sl n t k0 k1 k2 (by omega) k4 (by rw [size_rep, List.size_toArray]; omega)
  rw [size_rep] at M2
  exact wpAny_binaryOp_repeat_ref (T := "tuple") (U := "int") (by decide) ⟨_, ho, rfl⟩ (fun s' => typeIs_int s' n t) noFill_tuple_mul F.fills_int_mul F.slot_int_rmul repeat_tuple F.slot_int_index.lookup
      (call_meets F.slot_int_rmul (typeIs_int s n t) F.entry_int_rmul (F.args_int_rmul_2 _ _) M1
        ⟨ho, rfl, ⟨_, ho, rfl⟩, call_meets F.slot_tuple_mul ⟨_, ho, rfl⟩ F.entry_tuple_mul (F.args_tuple_mul_2 _ _) M2 ⟨ho,
          ⟨.ref s.heap.objs.size, _, I.laid (t' := s.toks) (o := .tup (List.replicate n.toNat vs).flatten) (fun b ob q => Heap.get?_push_of_some _ q) (Nat.le_refl _) ⟨by rw [PyProof.Rows.lm_len_rep_flat] at pl ⊢; rw [← el]; omega, _, r.rep n.toNat, IsTup.new _ _⟩, rfl, q _ (I.hok.fresh (Nat.le_refl _))⟩⟩⟩)
end
end MI
end
namespace MI
open PySem L2
variable [Nms]
section
variable {X : Cx}
def gMulB (d e : MV) (m : Mem) : Re MV := match d, e with
  | .tup xs, .int k => if 0 < xs.length ∧ k = 1 then .ok (.tup xs) m else if 0 < xs.length ∧ k = 0 then .ok (.tup []) m else if 1 ≤ xs.length ∧ xs.length ≤ 10 ∧ 2 ≤ k ∧ k ≤ 4000 then .ok (.tup (List.replicate k.toNat xs).flatten) m else gMul (.tup xs) (.int k) m
  | d, e => gMul d e m
abbrev rMulB (K : PySem.W.Frag) : R2 := fun x y H Q => rMulA K x y H Q ∨ rRep01 K x y H Q ∨ rRepB K x y H Q
theorem op_mulB : OpR X (binaryOp .Mult) (rMulB X.K) := OpR.or op_mulA (OpR.or op_rep01 op_repB)
theorem om_mulB : OpM X (rMulB X.K) gMulB := by with_unfolding_all
  intro W σ d e m β H x y Q M rx ry p
  unfold gMulB at p
  split at p
  · rename_i xs k
    split at p
    · rename_i h
      cases rx with
      | tup h1 h2 =>
        cases ry
        refine .inr (.inl ⟨_, _, _, rfl, rfl, h1, fun z => ?_, .inl ⟨h.2, p.ok M (.tup h1 h2)⟩⟩)
        have := h2.length
        rw [z] at this
        have := h.1
        simp_all
    · split at p
      · rename_i h
        cases rx with
        | tup h1 h2 =>
          cases ry
          refine .inr (.inl ⟨_, _, _, rfl, rfl, h1, fun z => ?_, .inr ⟨h.2, fun q hq => p.newtup M hq .nil⟩⟩)
          have := h2.length
          rw [z] at this
          have := h.1
          simp_all
      · split at p
        · rename_i h
          cases rx with
          | tup h1 h2 =>
            cases ry
            exact .inr (.inr ⟨_, _, _, rfl, rfl, h1, by rw [← h2.length]; exact h, fun q hq => p.newtup M hq (h2.rep _)⟩)
        · exact .inl (om_mul W σ _ _ m β H x y Q M rx ry p)
  · exact .inl (om_mul W σ _ _ m β H x y Q M rx ry p)
end
section
variable {E : Exn → Mem → Prop} {m : Mem} {Q : MV → Mem → Prop}
@[simp] theorem W_mulB_1 {a : MV} {l : List MV} : W (gMulB (.tup (a :: l)) (.int 1) m) Q E = Q (.tup (a :: l)) m := by with_unfolding_all
  unfold gMulB
  simp
@[simp] theorem W_mulB_0 {a : MV} {l : List MV} : W (gMulB (.tup (a :: l)) (.int 0) m) Q E = Q (.tup []) m := by with_unfolding_all
  unfold gMulB
  simp
theorem W_mulB_n {a : MV} {l : List MV} {k : Int} (h : 2 ≤ k) (h2 : k ≤ 1000) (h3 : l.length < 1000) : W (gMulB (.tup (a :: l)) (.int k) m) Q E = Q (.tup (List.replicate k.toNat (a :: l)).flatten) m := by with_unfolding_all
  unfold gMulB
  simp only
  rw [if_neg (by omega), if_neg (by omega)]
  split
  · rfl
  · rw [W_mul_t]
    simp
    intro _
    omega
end
end MI
namespace MI
open PySem L2
variable [Nms]
section
variable {X : Cx} {W : WX} {pos : Pos}
def mPar2 (i j : Nat) (g : MA) : MS := fun ρ m => onE ρ (g ρ m) fun ds m1 => match ds with
  | [u, v] => .ok (.nx ((ρ.set i (some u)).set j (some v))) m1
  | _ => .stuck
def mPar3 (i j l : Nat) (g : MA) : MS := fun ρ m => onE ρ (g ρ m) fun ds m1 => match ds with
  | [u, v, w] => .ok (.nx (((ρ.set i (some u)).set j (some v)).set l (some w))) m1
  | _ => .stuck
end
section
variable {E : Exn → Mem → Prop} {ρ : Env} {m : Mem} {Q : Fl → Mem → Prop}
@[simp] theorem W_par2 {i j : Nat} {g : MA} : W (mPar2 i j g ρ m) Q E = W (g ρ m) (fun ds m1 => match ds with | [u, v] => Q (.nx ((ρ.set i (some u)).set j (some v))) m1 | _ => False) (fun x m => Q (.ex x ρ) m) := by with_unfolding_all
  unfold mPar2
  rw [W_onE]
  congr 1
  funext ds m1
  split <;> simp_all
@[simp] theorem W_par3 {i j l : Nat} {g : MA} : W (mPar3 i j l g ρ m) Q E = W (g ρ m) (fun ds m1 => match ds with | [u, v, w] => Q (.nx (((ρ.set i (some u)).set j (some v)).set l (some w))) m1 | _ => False) (fun x m => Q (.ex x ρ) m) := by with_unfolding_all
  unfold mPar3
  rw [W_onE]
  congr 1
  funext ds m1
  split <;> simp_all
end
/-- the slots that a target writes -/
def Wr (g : NG) (vs : List Nat) : Prop := ∀ d m as, g d m = some as → ∀ p ∈ as, p.1 ∈ vs
def Wrs (g : NGs) (vs : List Nat) : Prop := ∀ ds m as, g ds m = some as → ∀ p ∈ as, p.1 ∈ vs
theorem wr_name {i : Nat} {vs : List Nat} (h : i ∈ vs) : Wr (ngName i) vs := fun d m as e p hp => by
  unfold ngName at e
  cases e
  simp at hp
  subst hp
  exact h
theorem wr_nil {vs : List Nat} : Wrs ngNil vs := fun ds m as e p hp => by
  unfold ngNil at e
  split at e
  · cases e; cases hp
  · cases e
theorem wr_cons {g : NG} {k : NGs} {vs : List Nat} (h : Wr g vs) (q : Wrs k vs) : Wrs (ngCons g k) vs := fun ds m as e p hp => by
  unfold ngCons at e
  split at e
  · split at e
    · rename_i a b e1 e2
      cases e
      rcases List.mem_append.mp hp with hp | hp
      · exact h _ _ _ e1 p hp
      · exact q _ _ _ e2 p hp
    · cases e
  · cases e
theorem wr_tup {n : Nat} {k : NGs} {vs : List Nat} (q : Wrs k vs) : Wr (ngTup n k) vs := fun d m as e p hp => by
  unfold ngTup at e
  split at e
  · split at e
    · exact q _ _ _ e p hp
    · cases e
  · cases e
end MI
namespace MI
open PySem L2
variable [Nms]
section
variable {E : Exn → Mem → Prop} {ρ : Env} {m : Mem}
theorem W_lp_nil {chk : Mem → Prop} {g : MG} {body : MS} {Q : Fl → Mem → Prop} (hc : chk m) (q : Q (.nx ρ) m) : W (loopM chk g body [] ρ m) Q E := by with_unfolding_all
  unfold loopM
  rw [if_pos hc]
  exact q
theorem W_lp_cons {chk : Mem → Prop} {g : MG} {body : MS} {d : MV} {l : List MV} {ρ1 : Env} {Q : Fl → Mem → Prop} (hc : chk m) (hg : g d ρ m = .ok ρ1 m)
    (q : W (body ρ1 m) (fun a m => match a with | .nx ρ' => W (loopM chk g body l ρ' m) Q E | .ct ρ' => W (loopM chk g body l ρ' m) Q E | .bk ρ' => Q (.nx ρ') m | a => Q a m) E) : W (loopM chk g body (d :: l) ρ m) Q E := by with_unfolding_all
  unfold loopM
  rw [if_pos hc, hg]
  dsimp only
  cases hb : body ρ1 m with
  | stuck => rw [hb] at q; exact q
  | ex x m' => rw [hb] at q; exact q
  | ok a m' =>
    rw [hb] at q
    cases a with
    | nx ρ' => exact q
    | ct ρ' => exact q
    | bk ρ' => exact q
    | rt d => exact q
    | ex x ρ' => exact q
end
end MI
namespace MI
open PySem L2
variable [Nms]
open Classical in
/-- x in a list, a dict, a text, a tuple of anything -/
noncomputable def gInC (neg : Bool) (a b : MV) (m : Mem) : Re MV := if (∃ l, b = .tup l ∧ (flat a = false ∨ l.all flat = false)) then gInT neg a b m else gInA neg a b m
section
variable {X : Cx} {W : WX} {pos : Pos}
theorem je_ninC {a b : Expr} {fa fb : ME} (hu : X.A.units + 1 < cLine) (hu2 : X.A.units + 65 < cLine) (ha : JE X W a fa) (hb : JE X W b fb) (hk : behindInMarks .NotIn b = false := by with_unfolding_all rfl) : JE X W (.Compare a [.NotIn] [b] pos) (mBin (gInC true) fa fb) :=
  JE.or (j_cmp (op_ninT hu2) om_inT ha hb hk) (je_nin hu hu2 ha hb hk) (mBin_or fun a b m => by with_unfolding_all
    unfold gInC
    by_cases q : (∃ l, b = .tup l ∧ (flat a = false ∨ l.all flat = false))
    · exact .inl (if_pos q)
    · exact .inr (if_neg q))
end
section
variable {E : Exn → Mem → Prop} {ρ : Env} {m : Mem}
theorem W_lc_nil {chk : Mem → Prop} {g : NG} {t : MT} {e : ME} {acc : List MV} {Q : List MV → Mem → Prop} (hc : chk m) (q : Q acc m) : W (lcM chk g t e ρ [] acc m) Q E := by with_unfolding_all
  unfold lcM
  rw [if_pos hc]
  exact q
theorem W_lc_cons {chk : Mem → Prop} {g : NG} {t : MT} {e : ME} {d : MV} {l acc : List MV} {as : List (Nat × MV)} {Q : List MV → Mem → Prop} (hc : chk m) (hg : g d m = some as)
    (q : W (t (setE ρ as) m) (fun b m => if b = true then W (e (setE ρ as) m) (fun y m => acc.length < sizeLine ∧ W (lcM chk g t e ρ l (acc ++ [y]) m) Q E) E0 else W (lcM chk g t e ρ l acc m) Q E) E0) : W (lcM chk g t e ρ (d :: l) acc m) Q E := by with_unfolding_all
  unfold lcM
  rw [if_pos hc, hg]
  dsimp only
  cases ht : t (setE ρ as) m with
  | stuck => rw [ht] at q; exact q.elim
  | ex x m' => rw [ht] at q; exact q.elim
  | ok b m' =>
    rw [ht] at q
    cases b with
    | false => exact q
    | true =>
      have q : W (e (setE ρ as) m') (fun y m => acc.length < sizeLine ∧ W (lcM chk g t e ρ l (acc ++ [y]) m) Q E) E0 := q
      dsimp only
      cases he : e (setE ρ as) m' with
      | stuck => rw [he] at q; exact q.elim
      | ex x m2 => rw [he] at q; exact q.elim
      | ok y m2 =>
        rw [he] at q
        dsimp only
        rw [if_pos q.1]
        exact q.2
theorem gInC_flat {neg : Bool} {a : MV} {l : List MV} (h : flat a = true) (hl : l.all flat = true) : gInC neg a (.tup l) m = .ok (.bl (if neg = true then !inV (toV a) (l.map toV) else inV (toV a) (l.map toV))) m := by
  unfold gInC
  rw [if_neg (by rintro ⟨l', h', q⟩; cases h'; rcases q with q | q <;> simp_all)]
  unfold gInA
  rw [if_neg (by rintro ⟨z, h⟩; cases h), if_neg (by simp), if_pos ⟨_, rfl, h, hl⟩]
  unfold gInF
  show (if flat a = true ∧ l.all flat = true then Re.ok (MV.bl (if neg then !inV (toV a) (l.map toV) else inV (toV a) (l.map toV))) m else .stuck) = _
  rw [if_pos ⟨h, hl⟩]
theorem dat_lk {n k : Nat} {l : List MV} (h : m[n]? = some (.lst l)) (hl : pus l = true) (hk : fls l ≤ k) : dat m (k + 1) (.ref n) = some (.list (pds l)) := by
  unfold dat
  rw [(show lstOf m (.ref n) = some l by simp [h])]
  dsimp only
  rw [dats_pu m l k hl hk]
  rfl
/-- a text in a tuple of one list -/
theorem gInC_ref {neg : Bool} {s : Str} {n : Nat} {l : List MV} (hs : PyData.strOk s = true) (h : m[n]? = some (.lst l)) (hl : Das l) : gInC neg (.str s) (.tup [.ref n]) m = .ok (.bl neg) m := by
  unfold gInC
  rw [if_pos ⟨_, rfl, .inr rfl⟩]
  unfold gInT
  have d1 : dat m fuel (.str s) = some (.str s) := by show dat m (1999 + 1) (.str s) = _; unfold dat; rfl
  have d2 : dat m fuel (.tup [.ref n]) = some (.tuple [.list (pds l)]) := by
    show dat m (1998 + 1 + 1) (.tup [.ref n]) = _
    unfold dat
    unfold dats
    rw [dat_lk (k := 1997) h hl.pu (Nat.le_trans hl.fl (by decide))]
    unfold dats
    rfl
  rw [d1, d2]
  dsimp only
  have s1 : SeqAt.shaped (.str s) = true := shaped_pu (d := .str s) (by simpa [pu] using hs) (by simp [dp])
  have s2 := shaped_pus hl.pu (by have := hl.dp; omega)
  have s3 : SeqAt.shaped (.tuple [.list (pds l)]) = true := by
    have q := hl.dp
    unfold SeqAt.shaped at s2 ⊢
    rw [Bool.and_eq_true] at s2 ⊢
    refine ⟨by simpa [PyData.canLay0, PyData.canLayAll0] using s2.1, ?_⟩
    have e : (PyData.list (pds l)).depth ≤ 61 := by
      simp only [PyData.depth, depths_pu]
      omega
    simp only [PyData.depth, PyData.depthAll] at e ⊢
    simp
    omega
  rw [if_pos ⟨s1, s3⟩]
  cases neg <;> simp [PyData.eqv]
end
end MI
namespace MI
open PySem L2
variable [Nms]
/-- method m of the class c does F; n arguments behind the object itself -/
structure MthX (M : Mode) (P : Program) (w : World) (K : PySem.W.Frag) (mg : Str → Option Value) (base : Heap) (k : Nat) (c m : Str) (n : Nat) (F : MF) : Prop where
  ex : ∃ (C f : Addr) (fd : FuncData) (ps : List Str), FnOk P w K mg base (M.CX P w) k f fd ps (spM K (n + 1) F) ∧ (∀ D, ClsN K c D → D = C) ∧ Cls K C ∧ Meth K C m f ∧ Binds K fd ps []
theorem RFs.lookN {K : PySem.W.Frag} {β : List Addr} {H : Hp} (f : Str) : ∀ {l : List (Str × MV)} {vs : List (Str × V)}, RFs K β H l vs → l.lookup f = none → vs.lookup f = none
  | _, _, .nil, _ => by with_unfolding_all simp
  | _, _, @RFs.cons _ _ _ k d' v' ds vs h r, q => by with_unfolding_all
    rw [List.lookup_cons] at q ⊢
    cases hk : f == k with
    | true => rw [hk] at q; cases q
    | false => rw [hk] at q; simpa using r.lookN f q
/-- the object is of the class c, and no attribute hides its method m -/
def hasM (c m : Str) (d : MV) (me : Mem) : Bool := match ownOf me d with
  | some (_, c', l) => c' == c && (l.lookup m).isNone
  | none => false
def mMeth (c m : Str) (F : MF) (g : ME) (ga : MA) : ME := fun ρ me => (g ρ me).bind fun d m1 => if hasM c m d m1 = true then (ga ρ m1).bind fun ds m2 => F (d :: ds) m2 else .stuck
section
variable {X : Cx} {W : WX} {pos : Pos}
theorem hasM_ex {K : PySem.W.Frag} {β : List Addr} {H : Hp} {m1 : Mem} {c m : Str} {d : MV} {v : V} {C : Addr} (R : RM K β H m1) (r : RV K β H d v) (h : hasM c m d m1 = true) (hC : ∀ D, ClsN K c D → D = C) : ∃ a dx fs, v = .ref a ∧ H a = some (.ins C dx fs) ∧ fs.lookup m = none := by with_unfolding_all
  unfold hasM at h
  split at h
  · rename_i n c' l ho
    rw [Bool.and_eq_true] at h
    obtain ⟨a, C', dx, vs, rfl, h1, h2, h3, h4, h5⟩ := R.own r ho
    have e : c' = c := eq_of_beq h.1
    subst e
    cases hC _ h3
    refine ⟨a, dx, vs, rfl, h4, h5.lookN m ?_⟩
    simpa using h.2
  · cases h
theorem jx_meth {M : Mode} {k j n : Nat} {c m : Str} {F : MF} {o e : Expr} {es : List Expr} {g : ME} {ga : MA} {apos : Pos} {pl : Sem Bool} (Fk : MthX M X.prog X.w X.K X.mg X.base k c m n F) (hr : Room j X.A) (hk : k ≤ j) (tk : M.Tk X W) (ho : JE X W o g) (ha : JA X W (e :: es) ga)
    (hst : starEach (e :: es) X.env = (false, eval e X.env) :: starEach es X.env := by with_unfolding_all rfl) (hpl : (backTo pos (starEach es X.env)).any (·.1) = false := by with_unfolding_all rfl)
    (ht : eval (.Call (.Attribute o m apos) (e :: es) [] pos) X.env = (do
      let ov ← eval o X.env
      standAt apos.atName
      let (f, first) ← holding [ov] (getMethod ov m pl)
      callWith pos f first (backTo pos (starEach (e :: es) X.env)) (backToKw pos (keywordEach [] X.env))) := by with_unfolding_all rfl)
    (hlen : ∀ ρ m ds m1, ga ρ m = .ok ds m1 → ds.length = n) : JE X W (.Call (.Attribute o m apos) (e :: es) [] pos) (mMeth c m F g ga) := by with_unfolding_all
  obtain ⟨C, f, fd, ps, h1, h2, h3, h4, h5⟩ := Fk.ex
  refine ⟨⟨fun pins s σ H Q I q => ?_⟩⟩
  obtain ⟨ρ, m0, β, hE, hM, p⟩ := q
  refine PySem.W.methodCall_KW (pl := pl) (thn (ho.run.run pins s σ H (fun x H1 => ∃ a dx fs, x = .ref a ∧ H1 a = some (.ins C dx fs) ∧ fs.lookup m = none ∧ tA X W ga σ H1 fun vs H2 => spM X.K (n + 1) F (x :: vs) H2 Q (WE W σ)) I ⟨ρ, m0, β, hE, hM, ?_⟩) fun u s1 ⟨x, H1, I1, rx, a, dx, fs, ex, ea, l, q⟩ => ?_) ht
  · refine p.bind fun d m1 x H1 β1 _ e1 M1 V1 p1 => ?_
    split at p1
    · rename_i hm
      obtain ⟨a, dx, fs, rfl, q1, q2⟩ := hasM_ex M1 V1 hm h2
      refine ⟨a, dx, fs, rfl, q1, q2, ρ, m1, β1, hE.ext hM e1, M1, ?_⟩
      refine p1.bind fun ds m2 vs H2 β2 e0 e2 M2 V2 p2 => ⟨by simp [← V2.length, hlen ρ m1 ds m2 e0], d :: ds, m2, β2, .cons (V1.ext M1 e2) V2, M2, ?_⟩
      revert p2
      generalize F (d :: ds) m2 = r
      intro p2
      cases r with
      | ok d m2 => exact p2
      | ex x m2 => exact p2
      | stuck => exact p2
    · exact p1.not_stuck
  · subst ex
    obtain rfl : u = Value.ref a := rx
    refine getmeth_ok I1 ea h3 h4 l ?_
    refine PySem.W.callWith_K (first := [.ref a]) (h₀ := X.base) I.ok.mod.kin h4.kp (thn (ha.run.run pos pins s1 σ H1 _ I1 q) fun us s2 ⟨vs, H2, I2, r, q2⟩ => ⟨I2.kIn, ?_⟩) hst hpl
    exact run_fnSD (E := WE W) (us := .ref a :: us) (vs := .ref a :: vs) h1 (hr.mono hk) h5 .nil (M.pass tk σ) I2 (.cons rfl r) (by rw [List.append_nil]; exact q2)
end
/-- a method of a class of the module -/
structure MthAt (K : PySem.W.Frag) (c m qual : Str) (st : Stmt) (ps : List Str) : Prop where
  ex : ∃ (C f : Addr) (fd : FuncData), Fun K m qual st f fd ∧ (∀ D, ClsN K c D → D = C) ∧ Cls K C ∧ Meth K C m f ∧ Binds K fd ps []
section
variable {K : PySem.W.Frag} {h : Heap} {mg : Str → Option Value} {w : World}
theorem mth_mk {c m qual : Str} {st : Stmt} {ps : List Str} {C f : Addr} {oc : Value} {od an : Option Addr} {osl : Array (Option Value)} {kV doc pm cdv ct : Value}
    (a : PySem.W.nsIn K mainGlobals c = some (some (.ref C))) (i : PySem.W.findIn K (.ref C) m = some (some (.ref f))) (fn : PySem.W.isFn K (.ref f) = true)
    (pg : PySem.W.plainGet K C Str.empty = true) (hd : PySem.W.hasDictIn K C = true) (po : PySem.W.plainOver K C = true) (sa : PySem.W.findIn K (.ref C) "__setattr__" = some (some (.builtin "object.__setattr__")))
    (l : K.lookup f = some ⟨oc, od, .func (PySem.W.fnOf m qual (defArgs st) (defBody st) (defScope st) .none kV doc pm an cdv ct), osl⟩) (cd : PySem.W.codeIn K cdv qual = true) (k : PySem.W.keepIn K (.ref f) = true)
    (b : ∀ (kV doc pm : Value) (an : Option Addr) (cdv ct : Value) (us : List Value), us.length = ps.length → bindArgs (PySem.W.fnOf m qual (defArgs st) (defBody st) (defScope st) .none kV doc pm an cdv ct) ⟨us, []⟩ = pure (ps.zip us)) : MthAt K c m qual st ps :=
  ⟨C, f, _, fun_mk l cd k, fun D hD => by with_unfolding_all
    have hD : PySem.W.nsIn K mainGlobals c = some (some (.ref D)) := hD
    rw [a] at hD
    cases hD
    rfl, ⟨pg, hd, po, sa⟩, ⟨i, fn, k⟩, (fun_mk l cd k).binds b⟩
theorem MthAt.mthx {P : Program} {base : Heap} {M : Mode} {c m qual : Str} {st : Stmt} {ps : List Str} {k n : Nat} {F : MF} (D : MthAt K c m qual st ps) (hok : ∀ f fd, Fun K m qual st f fd → FnOk P w K mg base (M.CX P w) k f fd ps (spM K (n + 1) F)) : MthX M P w K mg base k c m n F := by
  obtain ⟨C, f, fd, h1, h2, h3, h4, h5⟩ := D.ex
  exact ⟨C, f, fd, ps, hok f fd h1, h2, h3, h4, h5⟩
theorem MthAt.mth0 {P : Program} {base : Heap} {M : Mode} {c m qual : Str} {st : Stmt} {ps : List Str} {n : Nat} (D : MthAt K c m qual st ps) (hn : ps.length = n + 1) : MthX M P w K mg base 0 c m n (fun _ _ => .stuck) := by
  obtain ⟨C, f, fd, h1, h2, h3, h4, h5⟩ := D.ex
  exact ⟨C, f, fd, ps, ⟨fun vs H Q E h => by rw [hn]; exact h.1, fun A outer s H args us vs Q E _ _ _ _ h => by obtain ⟨_, _, _, _, _, _, q⟩ := h; exact q.elim⟩, h2, h3, h4, h5⟩
end
end MI
namespace MI
open PySem L2
variable [Nms]
section
variable {X : Cx} {W : WX} {pos : Pos}
def mBrk : MS := fun ρ m => .ok (.bk ρ) m
def mCnt : MS := fun ρ m => .ok (.ct ρ) m
theorem js_brk : JS X W (.Break pos) mBrk := by with_unfolding_all exact (js_break)
end
section
variable {K : PySem.W.Frag} {β : List Addr} {H : Hp} {m : Mem}
theorem RVs.reverse : ∀ {l : List MV} {vs : List V}, RVs K β H l vs → RVs K β H l.reverse vs.reverse
  | _, _, .nil => .nil
  | _, _, .cons h r => by rw [List.reverse_cons, List.reverse_cons]; exact r.reverse.app (.cons h .nil)
def mRev (g : ME) : ME := fun ρ m => (g ρ m).bind fun d m1 => match lstOf m1 d with
  | some l => alloc (.lst l.reverse) m1
  | none => .stuck
/-- the pairs of a list, as entries -/
def pairsM : List MV → Option (List (Key × MV))
  | [] => some []
  | .tup [.str s, v] :: r => (pairsM r).map fun ks => (.inr s, v) :: ks
  | .tup [.int i, v] :: r => (pairsM r).map fun ks => (.inl i, v) :: ks
  | _ :: _ => none
def mergeM (kvs more : List (Key × MV)) : List (Key × MV) := more.foldl (fun acc kv => putM acc kv.1 kv.2) kvs
def gDict : List MV → Mem → Re MV
  | [d], m => match dctOf m d with
    | some (_, l) => alloc (.dct l) m
    | none => match lstOf m d with
      | some l => match pairsM l with
        | some ks => alloc (.dct (mergeM [] ks)) m
        | none => .stuck
      | none => .stuck
  | _, _ => .stuck
end
section
variable {m : Mem} {E : Exn → Mem → Prop} {ρ : Env}
@[simp] theorem W_brkS {Q : Fl → Mem → Prop} : MI.W (mBrk ρ m) Q E = Q (.bk ρ) m := by with_unfolding_all rfl
@[simp] theorem W_cntS {Q : Fl → Mem → Prop} : MI.W (mCnt ρ m) Q E = Q (.ct ρ) m := by with_unfolding_all rfl
@[simp] theorem W_rev {g : ME} {Q : MV → Mem → Prop} : MI.W (mRev g ρ m) Q E = MI.W (g ρ m) (fun d m1 => match lstOf m1 d with
  | some l => Q (.ref m1.length) (m1 ++ [.lst l.reverse])
  | none => False) E := by with_unfolding_all
  unfold mRev
  simp only [W_bind]
  congr 1
  funext d m1
  cases lstOf m1 d <;> rfl
@[simp] theorem W_dictC {d : MV} {Q : MV → Mem → Prop} : MI.W (gDict [d] m) Q E = match dctOf m d with
  | some (_, l) => Q (.ref m.length) (m ++ [.dct l])
  | none => match lstOf m d with
    | some l => match pairsM l with
      | some ks => Q (.ref m.length) (m ++ [.dct (mergeM [] ks)])
      | none => False
    | none => False := by with_unfolding_all
  show MI.W (match dctOf m d with
    | some (_, l) => alloc (.dct l) m
    | none => match lstOf m d with
      | some l => match pairsM l with
        | some ks => alloc (.dct (mergeM [] ks)) m
        | none => .stuck
      | none => .stuck) Q E = _
  cases dctOf m d with
  | some p => rfl
  | none =>
    cases lstOf m d with
    | none => rfl
    | some l =>
      dsimp only
      cases pairsM l <;> rfl
end
section
variable {m : Mem} {E : Exn → Mem → Prop} {ρ : Env}
@[simp] theorem W_meth {c x : Str} {F : MF} {g : ME} {ga : MA} {Q : MV → Mem → Prop} : MI.W (mMeth c x F g ga ρ m) Q E = MI.W (g ρ m) (fun d m1 => hasM c x d m1 = true ∧ MI.W (ga ρ m1) (fun ds m2 => MI.W (F (d :: ds) m2) Q E) E) E := by with_unfolding_all
  unfold mMeth
  simp only [W_bind]
  congr 1
  funext d m1
  by_cases h : hasM c x d m1 = true
  · simp [h]
  · simp [h]
end
end MI
namespace MI
open PySem L2
variable [Nms]
open Classical in
noncomputable def dcM (chk : Mem → Prop) (g : NG) (t : MT) (fk fv : ME) (ρ : Env) : List MV → List (Key × MV) → Mem → Re (List (Key × MV))
  | [], acc, m => if chk m then .ok acc m else .stuck
  | d :: r, acc, m => if chk m then (match g d m with
    | some as => match t (setE ρ as) m with
      | .ok true m2 => match fk (setE ρ as) m2 with
        | .ok y m3 => match fv (setE ρ as) m3 with
          | .ok z m4 => match keyOf y with
            | some k => if acc.length < sizeLine then dcM chk g t fk fv ρ r (putM acc k z) m4 else .stuck
            | none => .stuck
          | _ => .stuck
        | _ => .stuck
      | .ok false m2 => dcM chk g t fk fv ρ r acc m2
      | _ => .stuck
    | none => .stuck) else .stuck
noncomputable def mDc (h : MI') (g : NG) (t : MT) (fk fv : ME) (vs : List Nat) : ME := fun ρ m => (h ρ m).bind fun it m1 => (dcM it.chk g t fk fv (wipeM ρ vs) it.items [] m1).bind fun l m2 => alloc (.dct l) m2
section
variable {X : Cx} {W : WX} {pos : Pos} {K : PySem.W.Frag} {β : List Addr} {H : Hp} {m : Mem}
theorem RKs.len : ∀ {l : List (Key × MV)} {vs : List (Key × V)}, RKs K β H l vs → l.length = vs.length
  | _, _, .nil => rfl
  | _, _, .cons _ r => by simp [r.len]
end
end MI
namespace MI
open PySem L2
section
variable {ρ : Env} {m : Mem} {E : Exn → Mem → Prop}
@[simp] theorem W_dc {h : MI'} {g : NG} {t : MT} {fk fv : ME} {vs : List Nat} {Q : MV → Mem → Prop} : W (mDc h g t fk fv vs ρ m) Q E = W (h ρ m) (fun it m => W (dcM it.chk g t fk fv (wipeM ρ vs) it.items [] m) (fun l m => Q (.ref m.length) (m ++ [.dct l])) E) E := by with_unfolding_all
  unfold mDc
  simp only [W_bind]
  rfl
end
end MI
namespace MI
open PySem L2 NdefX
variable [Nms]
/-- what stays of what is not tracked, and of tuples, whatever runs -/
structure Lat (H H' : Hp) (h h' : Heap) : Prop where
  keep : ∀ b o, h.get? b = some o → H b = none → ∃ sl, h'.get? b = some { o with slots := sl }
  free : ∀ b o, h.get? b = some o → H b = none → H' b = none
  tups : ∀ b xs, H b = some (.tup xs) → H' b = some (.tup xs)
  frzs : ∀ b o u, H b = some (.frz o u) → H' b = some (.frz o u)
  tbls : ∀ b ps, H b = some (.tbl ps) → ∃ more, H' b = some (.tbl (ps ++ more))
theorem Lat.trans {H H1 H2 : Hp} {h h1 h2 : Heap} (a : Lat H H1 h h1) (b : Lat H1 H2 h1 h2) : Lat H H2 h h2 where
  keep := fun c o q n => by
    obtain ⟨sl, q1⟩ := a.keep c o q n
    obtain ⟨sl2, q2⟩ := b.keep c _ q1 (a.free c o q n)
    exact ⟨sl2, q2⟩
  free := fun c o q n => by
    obtain ⟨sl, q1⟩ := a.keep c o q n
    exact b.free c _ q1 (a.free c o q n)
  tups := fun c xs q => b.tups c xs (a.tups c xs q)
  frzs := fun c o u q => b.frzs c o u (a.frzs c o u q)
  tbls := fun c ps q => by
    obtain ⟨m1, q1⟩ := a.tbls c ps q
    obtain ⟨m2, q2⟩ := b.tbls c _ q1
    exact ⟨m1 ++ m2, by rw [q2, Array.append_assoc]⟩
theorem Lat.un {fs : List Addr} {H H' : Hp} {h h' : Heap} (u : Un fs [] H H' h h') : Lat H H' h h' :=
  ⟨fun _ _ q n => u.any q n (by simp), fun b o q n => u.free b o q n (by simp), u.tups, u.frzs, u.tbls⟩
theorem Lat.fn {H H' : Hp} {h h' : Heap} {c : Addr} (l : Lat H H' h h') (n : H c = none) (f : PySem.W.FnAt c h) : PySem.W.FnAt c h' := by
  obtain ⟨oc, od, fd, sl, q⟩ := f
  obtain ⟨sl', q'⟩ := l.keep c _ q n
  exact ⟨oc, od, fd, sl', q'⟩
theorem Lat.cell {H H' : Hp} {h h' : Heap} {c : Addr} {v : Option Value} (l : Lat H H' h h') (n : H c = none) (q : h.IsCell c v) : h'.IsCell c v := by
  obtain ⟨o, ho, hd⟩ := q
  obtain ⟨sl', q'⟩ := l.keep c _ ho n
  exact ⟨_, q', hd⟩
theorem among_more {pos : Pos} {cv : Value} (r : List Value) : ∀ l : List Value, codeAmong pos l = some cv → codeAmong pos (l ++ r) = some cv := by
  intro l
  fun_induction codeAmong pos l with
  | case1 a t b u c rest hc => intro h; cases h; simp only [List.cons_append, codeAmong]; rw [if_pos hc]
  | case2 a t b u c rest hc ih => intro h; simp only [List.cons_append, codeAmong]; rw [if_neg hc]; exact ih h
  | case3 l _ => intro h; cases h
theorem Rch.more {tb : List Addr} {H H' : Hp} (hf : ∀ b o u, H b = some (.frz o u) → H' b = some (.frz o u)) (ht : ∀ b ps, H b = some (.tbl ps) → ∃ more, H' b = some (.tbl (ps ++ more))) {P : Addr} (r : Rch tb H P) : Rch tb H' P := by
  induction r with
  | st h => exact .st h
  | en _ h1 h2 h3 h4 ih =>
    obtain ⟨more, h1'⟩ := ht _ _ h1
    exact .en ih h1' (by rw [Array.toList_append]; exact among_more _ _ h2) (hf _ _ _ h3) h4
mutual
/-- no list of the script's kind within -/
def noKl : MV → Bool
  | .kl _ => false
  | .tup l => noKls l
  | _ => true
def noKls : List MV → Bool
  | [] => true
  | d :: l => noKl d && noKls l
end
mutual
theorem RV.later {K : PySem.W.Frag} {β β' : List Addr} {H H' : Hp} {h h' : Heap} (l : Lat H H' h h') (hb : ∀ (n : Nat) (a : Addr), β[n]? = some a → β'[n]? = some a) : ∀ {d : MV} {v : V}, noKl d = true → RV K β H d v → RV K β' H' d v
  | _, _, _, .non => .non
  | _, _, _, .bl b => .bl b
  | _, _, _, .int i => .int i
  | _, _, _, .str x => .str x
  | _, _, q, .tup h r => .tup (by
      rcases h with (h | ⟨o, h⟩) | h
      · exact .inl (.inl (l.tups _ _ h))
      · exact .inl (.inr ⟨o, l.frzs _ _ _ h⟩)
      · exact .inr h) (RVs.later l hb (by unfold noKl at q; exact q) r)
  | _, _, _, .ref h => .ref (hb _ _ h)
  | _, _, q, .kl h r => by unfold noKl at q; cases q
  | _, _, _, .clo h => .clo fun n a q => hb n a (h n a q)
theorem RVs.later {K : PySem.W.Frag} {β β' : List Addr} {H H' : Hp} {h h' : Heap} (l : Lat H H' h h') (hb : ∀ (n : Nat) (a : Addr), β[n]? = some a → β'[n]? = some a) : ∀ {d : List MV} {v : List V}, noKls d = true → RVs K β H d v → RVs K β' H' d v
  | _, _, _, .nil => .nil
  | _, _, q, .cons h r => by
    unfold noKls at q
    rw [Bool.and_eq_true] at q
    exact .cons (RV.later l hb q.1 h) (RVs.later l hb q.2 r)
end
/-- what a run of C promises -/
def PostF (K : PySem.W.Frag) (r : Re MV) (β : List Addr) (H : Hp) (Q : VK) (E : XK) : Prop :=
  match r with
  | .ok d m' => ∀ v H' β', Ext β H β' H' → RM K β' H' m' → RV K β' H' d v → Q v H'
  | .ex x m' => ∀ cls dd H' β', Ext β H β' H' → RM K β' H' m' → XR K x cls dd → E cls dd H'
  | .stuck => False
/-- the function object at c, made ahead of (s, H), does C from there on: C k where there is room for k steps, k below kb; n arguments -/
structure ActsM (M : Mode) (P : Program) (w : World) (K : PySem.W.Frag) (mg : Str → Option Value) (base : Heap) (kb n : Nat) (c : Addr) (C : Nat → MF) (β : List Addr) (s : Shared) (H : Hp) : Prop where
  free : H c = none
  fn : PySem.W.FnAt c s.heap
  run : ∀ (k : Nat) (_ : k < kb) (A : Around) (outer : List PySem.Env) (s' : Shared) (H' : Hp) (β' : List Addr) (m : Mem) (ds : List MV) (us : List Value) (vs : List V) (Q : VK) (E : XK), Lat H H' s.heap s'.heap → (∀ (n : Nat) (a : Addr), β[n]? = some a → β'[n]? = some a) → Room (lv k) A → Env0 P w K mg base A outer s' H' →
    Vals vs us → vs.length = n → RVs K β' H' ds vs → RM K β' H' m → PostF K (C k ds m) β' H' Q E → codeAny (model P w) A (.call (.ref c) ⟨us, []⟩) (CR (M.CX P w) outer P w H' s' Q E) s'
section
variable {M : Mode} {P : Program} {w : World} {K : PySem.W.Frag} {mg : Str → Option Value} {base : Heap} {kb kb' n : Nat} {c : Addr} {C : Nat → MF} {β β1 : List Addr} {s s1 : Shared} {H H1 : Hp}
theorem ActsM.later (a : ActsM M P w K mg base kb n c C β s H) (l : Lat H H1 s.heap s1.heap) (hb : ∀ (n : Nat) (a : Addr), β[n]? = some a → β1[n]? = some a) : ActsM M P w K mg base kb n c C β1 s1 H1 where
  free := by
    obtain ⟨oc, od, fd, sl, q⟩ := a.fn
    exact l.free c _ q a.free
  fn := l.fn a.free a.fn
  run := fun k hk A outer s' H' β' m ds us vs Q E l' hb' => a.run k hk A outer s' H' β' m ds us vs Q E (l.trans l') fun n x q => hb' n x (hb n x q)
theorem ActsM.mono (a : ActsM M P w K mg base kb n c C β s H) (h : kb' ≤ kb) : ActsM M P w K mg base kb' n c C β s H :=
  ⟨a.free, a.fn, fun k hk => a.run k (Nat.lt_of_lt_of_le hk h)⟩
end
def mThen (i : Nat) (c : Addr) (β0 : List Addr) (C : MF) (g : MA) : ME := fun ρ m => match ρ[i]? with
  | some (some (.clo c' β')) => if c' = c ∧ β' = β0 then (g ρ m).bind fun ds m1 => C ds m1 else .stuck
  | _ => .stuck
end MI
namespace MI
open PySem PySem.Spec PyProof.Rows L2 LamX NdefX
end MI
namespace MI
open PySem PySem.Spec PyProof.Rows L2 LamX NdefX
variable [Nms]
/-- a code object of the name q that a run made stands at d, its table can be come to -/
def Cod (K : PySem.W.Frag) (H : Hp) (d : Addr) (q : Str) : Prop := ∃ o T, H d = some (CodeF o) ∧ CodeIs o q d T ∧ Rch (Nms.tb K) H T
theorem Cod.later {K : PySem.W.Frag} {H H' : Hp} {h h' : Heap} {d : Addr} {q : Str} (l : Lat H H' h h') (c : Cod K H d q) : Cod K H' d q := by
  obtain ⟨o, T, h1, h2, h3⟩ := c
  exact ⟨o, T, l.frzs _ _ _ h1, h2, h3.more l.frzs l.tbls⟩
theorem Rch.ext {K : PySem.W.Frag} {β β' : List Addr} {H H' : Hp} {m : Mem} (R : RM K β H m) (e : Ext β H β' H') {tb : List Addr} {P : Addr} (r : Rch tb H P) : Rch tb H' P := by
  induction r with
  | st h => exact .st h
  | en _ h1 h2 h3 h4 ih =>
    obtain ⟨more, h1'⟩ := e.tab _ _ h1 fun z => (R.noTab z _ h1).1 _ rfl
    exact .en ih h1' (by rw [Array.toList_append]; exact among_more _ _ h2) (e.old _ _ h3 (fun z => (R.noTab z _ h3).2 _ rfl) fun _ z => by unfold CodeF at z; cases z) h4
theorem Cod.ext {K : PySem.W.Frag} {β β' : List Addr} {H H' : Hp} {m : Mem} {d : Addr} {q : Str} (R : RM K β H m) (e : Ext β H β' H') (c : Cod K H d q) : Cod K H' d q := by
  obtain ⟨o, T, h1, h2, h3⟩ := c
  exact ⟨o, T, e.old _ _ h1 (fun z => (R.noTab z _ h1).2 _ rfl) (fun _ z => by unfold CodeF at z; cases z), h2, h3.ext R e⟩
end MI
namespace MI
open PySem L2 NdefX
variable [Nms]
/-- the closure among the arguments -/
def cloAt (ic : Nat) (ds : List MV) : Option (Addr × List Addr) := match ds[ic]? with
  | some (.clo c β) => some (c, β)
  | _ => none
/-- a call that hands the closure on -/
def mCallC (ic : Nat) (c : Addr) (β0 : List Addr) (F : MF) (g : MA) : ME := fun ρ m => (g ρ m).bind fun ds m1 => if cloAt ic ds = some (c, β0) then F ds m1 else .stuck
end MI
namespace MI
open PySem L2 NdefX
variable [Nms]
/-- what a closure's names hold at its start: the arguments, what it captured, nothing -/
def startC (n : Nat) (ds cap : List MV) : Env := ds.map some ++ (cap.map some ++ List.replicate (n - ds.length - cap.length) none)
/-- captured values as slots -/
inductive RVo (K : PySem.W.Frag) (β : List Addr) (H : Hp) : List MV → List (Option V) → Prop
  | nil : RVo K β H [] []
  | cons {d : MV} {v : V} {ds : List MV} {vs : List (Option V)} : RV K β H d v → RVo K β H ds vs → RVo K β H (d :: ds) (some v :: vs)
theorem RVo.length {K : PySem.W.Frag} {β : List Addr} {H : Hp} : ∀ {ds : List MV} {ws : List (Option V)}, RVo K β H ds ws → ds.length = ws.length
  | _, _, .nil => rfl
  | _, _, .cons _ r => by simp [r.length]
theorem RVo.at_ {K : PySem.W.Frag} {β : List Addr} {H : Hp} : ∀ {ds : List MV} {ws : List (Option V)} {i : Nat} {d : MV}, RVo K β H ds ws → ds[i]? = some d → ∃ v, ws[i]? = some (some v) ∧ RV K β H d v
  | _, _, 0, _, .cons h _, e => by simp at e; subst e; exact ⟨_, by simp, h⟩
  | _, _, i + 1, _, .cons _ r, e => by simp at e; obtain ⟨v, e', q⟩ := r.at_ e; exact ⟨v, by simpa using e', q⟩
theorem RVo.later {K : PySem.W.Frag} {β β' : List Addr} {H H' : Hp} {h h' : Heap} (l : Lat H H' h h') (hb : ∀ (n : Nat) (a : Addr), β[n]? = some a → β'[n]? = some a) : ∀ {d : List MV} {v : List (Option V)}, noKls d = true → RVo K β H d v → RVo K β' H' d v
  | _, _, _, .nil => .nil
  | _, _, q, .cons h r => by
    unfold noKls at q
    rw [Bool.and_eq_true] at q
    exact .cons (RV.later l hb q.1 h) (RVo.later l hb q.2 r)
end MI
namespace MI
open PySem PySem.Spec PyProof.Rows L2 LamX NdefX
variable [Nms]
/-- the captured slots of an environment -/
def capOf (ρ : Env) : List Nat → Option (List MV)
  | [] => some []
  | j :: js => match ρ[j]?, capOf ρ js with
    | some (some d), some r => some (d :: r)
    | _, _ => none
/-- what a lambda does: at fuel k + 1 its body, over what it captured -/
def lamC (N : Nat) (cap : List MV) (b : Nat → ME) : Nat → MF
  | 0 => fun _ _ => .stuck
  | k + 1 => fun ds m => b k (startC N ds cap) m
open Classical in
/-- what all choices of an address and of numbers come to, if it is one thing -/
noncomputable def dem (f : Addr → List Addr → Re MV) : Re MV := if h : ∃ r, ∀ c β, f c β = r then Classical.choose h else .stuck
end MI
namespace MI
open PySem PySem.Spec PyProof.Rows L2 LamX NdefX
variable [Nms]
theorem PostF.later {K : PySem.W.Frag} {r : Re MV} {β β1 : List Addr} {H H1 : Hp} {Q : VK} {E : XK} (p : PostF K r β H Q E) (e : Ext β H β1 H1) : PostF K r β1 H1 Q E := by
  cases r with
  | ok d m => exact fun v H' β' e' => p v H' β' (e.trans e')
  | ex x m => exact fun c d H' β' e' => p c d H' β' (e.trans e')
  | stuck => exact p
/-- a call that makes its last argument, a lambda: F of what the lambda does, whatever the address -/
noncomputable def mCallL (F : (Nat → MF) → MF) (g : MA) (js : List Nat) (N : Nat) (b : Nat → ME) : ME := fun ρ m => (g ρ m).bind fun ds m1 => match capOf ρ js with
  | some cap => if noKls cap = true then dem fun c β => F (lamC N cap b) (ds ++ [.clo c β]) m1 else .stuck
  | none => .stuck
end MI
namespace MI
open PySem PySem.Spec PyProof.Rows L2 LamX NdefX
end MI
namespace MI
open PySem PySem.Spec PyProof.Rows L2 LamX NdefX
variable [Nms]
/-- o.m(.., lambda ..) -/
noncomputable def mMethL (c m : Str) (F : (Nat → MF) → MF) (go : ME) (g : MA) (js : List Nat) (N : Nat) (b : Nat → ME) : ME := fun ρ me => (go ρ me).bind fun d m0 => if hasM c m d m0 = true then (g ρ m0).bind fun ds m1 => match capOf ρ js with
  | some cap => if noKls cap = true then dem fun ca β => F (lamC N cap b) (d :: (ds ++ [.clo ca β])) m1 else .stuck
  | none => .stuck else .stuck
end MI
namespace MI
open PySem PySem.Spec PyProof.Rows L2 LamX NdefX
variable [Nms]
section
variable {M : Mode} {P : Program} {w : World} {K : PySem.W.Frag} {mg : Str → Option Value} {base : Heap} {k : Nat}
/-- what a nested def does: at fuel k + 1 its body, over what it captured -/
def defC (N : Nat) (cap : List MV) (b : Nat → MS) : Nat → MF
  | 0 => fun _ _ => .stuck
  | k + 1 => fun ds m => endOf (b k (startC N ds cap) m)
end
end MI
namespace MI
open PySem PySem.Spec PyProof.Rows L2 LamX NdefX
variable [Nms]
/-- the arguments, then the closure that is made of a nested def -/
noncomputable def mCallN (F : (Nat → MF) → MF) (g : MA) (js : List Nat) (N : Nat) (b : Nat → MS) : ME := fun ρ m => (g ρ m).bind fun ds m1 => match capOf ρ js with
  | some cap => if noKls cap = true then dem fun c β => F (defC N cap b) (ds ++ [.clo c β]) m1 else .stuck
  | none => .stuck
/-- def y: ..; return x(.., y), y at slot iy -/
noncomputable def mDefRet (F : (Nat → MF) → MF) (g : MA) (js : List Nat) (N : Nat) (b : Nat → MS) (iy : Nat) : MS := fun ρ m => mRet (mCallN F g js N b) (ρ.set iy none) m
end MI
namespace MI
open PySem PySem.Spec PyProof PyProof.Rows L2 LamX NdefX
end MI
namespace MI
open PySem PySem.Spec PyProof PyProof.Rows L2 LamX NdefX
end MI
namespace MI
open PySem PySem.Spec PyProof PyProof.Rows L2 LamX NdefX
end MI
namespace MI
open PySem PySem.Spec PyProof.Rows L2 LamX NdefX
variable [Nms]
noncomputable def in2 (F : (Nat → MF) → MF) (js1 : List Nat) (N1 : Nat) (b1 : (Nat → MF) → Addr → List Addr → Nat → MS) (N2 : Nat) (b2 : Nat → MS) (i2 : Nat) (cap2 : List MV) (ρ : Env) (ds : List MV) (m1 : Mem) (c2 : Addr) (β2 : List Addr) : Re MV := match capOf (ρ.set i2 (some (.clo c2 β2))) js1 with
  | some cap1 => if noKls cap1 = true then dem fun c β => F (defC N1 cap1 (b1 (defC N2 cap2 b2) c2 β2)) (ds ++ [.clo c β]) m1 else .stuck
  | none => .stuck
noncomputable def mCallN2 (F : (Nat → MF) → MF) (g : MA) (js1 : List Nat) (N1 : Nat) (b1 : (Nat → MF) → Addr → List Addr → Nat → MS) (js2 : List Nat) (N2 : Nat) (b2 : Nat → MS) (i2 : Nat) : ME := fun ρ m => (g ρ m).bind fun ds m1 => match capOf ρ js2 with
  | some cap2 => if noKls cap2 = true then dem (in2 F js1 N1 b1 N2 b2 i2 cap2 ρ ds m1) else .stuck
  | none => .stuck
noncomputable def mDef2Ret (F : (Nat → MF) → MF) (g : MA) (js1 : List Nat) (N1 : Nat) (b1 : (Nat → MF) → Addr → List Addr → Nat → MS) (js2 : List Nat) (N2 : Nat) (b2 : Nat → MS) (i1 i2 : Nat) : MS :=
  fun ρ m => mRet (mCallN2 F g js1 N1 b1 js2 N2 b2 i2) ((ρ.set i1 none).set i2 none) m
end MI
namespace MI
open PySem PySem.Spec PyProof.Rows L2 LamX NdefX
end MI
namespace MI
open PySem PySem.Spec PyProof.Rows L2
end MI
namespace MI
open PySem PySem.Spec PyProof.Rows L2 LamX NdefX
variable [Nms]
noncomputable def mCallLm (F : (Nat → MF) → MF) (g1 g2 : MA) (js : List Nat) (N : Nat) (b : Nat → ME) : ME := fun ρ m => (g1 ρ m).bind fun ds1 m1 => match capOf ρ js with
  | some cap => if noKls cap = true then (g2 ρ m1).bind fun ds2 m2 => dem fun c β => F (lamC N cap b) (ds1 ++ .clo c β :: ds2) m2 else .stuck
  | none => .stuck
end MI
namespace MI
open PySem PySem.Spec PyProof.Rows L2 LamX
end MI
namespace MI
open PySem PySem.Spec PyProof.Rows L2 LamX NdefX
end MI
namespace MI
open PySem PySem.Spec PyProof PyProof.Rows L2 LamX NdefX
end MI
namespace MI
open PySem PySem.Spec PyProof.Rows L2 LamX
variable [Nms]
def TabsOf (K : PySem.W.Frag) : List Str → List (Addr × Addr) → Prop
  | [], [] => True
  | x :: xs, p :: cs => (PySem.W.tabIn K x = some p ∧ PySem.W.codeHdIn K p.1 p.2 = true ∧ K.lookup p.2 = none) ∧ TabsOf K xs cs
  | _, _ => False
theorem TabsOf.mem {K : PySem.W.Frag} : ∀ {xs : List Str} {cs : List (Addr × Addr)}, TabsOf K xs cs → ∀ p ∈ cs, ∃ x ∈ xs, PySem.W.tabIn K x = some p ∧ PySem.W.codeHdIn K p.1 p.2 = true ∧ K.lookup p.2 = none
  | [], [], _, p, h => by cases h
  | x :: xs, q :: cs, t, p, h => by
    obtain ⟨t1, t2⟩ := t
    rcases List.mem_cons.mp h with rfl | h
    · exact ⟨x, List.mem_cons_self, t1⟩
    · obtain ⟨y, hy, r⟩ := TabsOf.mem t2 p h
      exact ⟨y, List.mem_cons_of_mem _ hy, r⟩
  | [], _ :: _, t, _, _ => t.elim
  | _ :: _, [], t, _, _ => t.elim
theorem TabsOf.tb {K : PySem.W.Frag} : ∀ {xs : List Str} {cs : List (Addr × Addr)}, TabsOf K xs cs → (xs.filterMap fun x => (PySem.W.tabIn K x).map (·.2)) = cs.map (·.2)
  | [], [], _ => rfl
  | x :: xs, q :: cs, t => by
    obtain ⟨⟨t0, _⟩, t2⟩ := t
    rw [List.filterMap_cons, t0]
    simp only [Option.map_some, List.map_cons]
    rw [TabsOf.tb t2]
  | [], _ :: _, t => t.elim
  | _ :: _, [], t => t.elim
end MI
namespace MI
open PySem L2
def dropM (l : List (Key × MV)) (k : Key) : List (Key × MV) := l.filter fun kv => decide (kv.1 ≠ k)
theorem RKs.drop {K : PySem.W.Frag} {β : List Addr} {H : Hp} : ∀ {l : List (Key × MV)} {vs : List (Key × V)} {k : Key}, RKs K β H l vs → RKs K β H (dropM l k) (dropK vs k)
  | _, _, _, .nil => .nil
  | _, _, k, .cons (k := q) h r => by
    unfold dropM dropK
    rw [List.filter_cons, List.filter_cons]
    by_cases e : q = k
    · simp only [e, ne_eq, not_true_eq_false, decide_false]; exact RKs.drop r
    · simp only [e, ne_eq, not_false_eq_true, decide_true]; exact .cons h (RKs.drop r)
def gDPop (d k : MV) (m : Mem) : Re MV := match dctOf m d, keyOf k with
  | some (n, l), some q => match valM l q with
    | some e => .ok e (m.set n (.dct (dropM l q)))
    | none => .stuck
  | _, _ => .stuck
def mDPop (fd fy : ME) : ME := fun ρ m => (fd ρ m).bind fun d m1 => if (dctOf m1 d).isSome = true then (fy ρ m1).bind fun k m2 => gDPop d k m2 else .stuck
section
variable {ρ : Env} {m : Mem} {Q : MV → Mem → Prop} {E : Exn → Mem → Prop}
@[simp] theorem W_dpop {f g : ME} : MI.W (mDPop f g ρ m) Q E = MI.W (f ρ m) (fun d m1 => if (dctOf m1 d).isSome = true then MI.W (g ρ m1) (fun k m2 => MI.W (gDPop d k m2) Q E) E else False) E := by
  unfold mDPop
  rw [W_bind]
  congr 1
  funext d m
  rw [W_ite]
  simp only [W_bind, W_stuck]
end
end MI
namespace MI
open PySem L2
def mPos (k : Nat) (f : ME) : ME := match k with
  | 0 => fun _ _ => .stuck
  | _ + 1 => f
theorem je_pos [Nms] {X : Cx} {W : WX} {e : Expr} {k : Nat} {f : ME} (h : 0 < k → JE X W e f) : JE X W e (mPos k f) := by
  cases k with
  | zero => exact ⟨⟨fun pins s σ H Q I h => by obtain ⟨_, _, _, _, _, p⟩ := h; exact p.elim⟩⟩
  | succ k => exact h (Nat.succ_pos k)
theorem lv_pos {k : Nat} (h : 0 < k) : lv (k - 1) + 1 ≤ lv k := by
  cases k with
  | zero => exact absurd h (Nat.lt_irrefl 0)
  | succ k => exact Nat.le_refl _
end MI
namespace MI
open PySem L2
variable [Nms]
section
variable {E : Exn → Mem → Prop} {ρ : Env} {m : Mem}
@[simp] theorem W_then {i : Nat} {c : Addr} {β : List Addr} {C : MF} {g : MA} {Q : MV → Mem → Prop} : W (mThen i c β C g ρ m) Q E = match ρ[i]? with
    | some (some (.clo c' β')) => (c' = c ∧ β' = β) ∧ W (g ρ m) (fun ds m1 => W (C ds m1) Q E) E
    | _ => False := by with_unfolding_all
  unfold mThen
  cases h1 : ρ[i]? with
  | none => rfl
  | some o =>
    cases o with
    | none => rfl
    | some d =>
      cases d with
      | clo c' β' =>
        simp only
        by_cases h : c' = c ∧ β' = β
        · rw [if_pos h, W_bind]; simp [h]
        · rw [if_neg h]; simp [h]
      | _ => rfl
@[simp] theorem W_callC {ic : Nat} {c : Addr} {β : List Addr} {F : MF} {g : MA} {Q : MV → Mem → Prop} : W (mCallC ic c β F g ρ m) Q E = W (g ρ m) (fun ds m1 => cloAt ic ds = some (c, β) ∧ W (F ds m1) Q E) E := by with_unfolding_all
  unfold mCallC
  rw [W_bind]
  congr 1
  funext ds m1
  rw [W_ite]
  by_cases h : cloAt ic ds = some (c, β)
  · rw [if_pos h]; simp [h]
  · rw [if_neg h]; simp [h]
@[simp] theorem W_callL {F : (Nat → MF) → MF} {g : MA} {js : List Nat} {N : Nat} {b : Nat → ME} {Q : MV → Mem → Prop} : W (mCallL F g js N b ρ m) Q E = W (g ρ m) (fun ds m1 => match capOf ρ js with
    | some cap => noKls cap = true ∧ W (dem fun c β => F (lamC N cap b) (ds ++ [.clo c β]) m1) Q E
    | none => False) E := by with_unfolding_all
  unfold mCallL
  rw [W_bind]
  congr 1
  funext ds m1
  cases capOf ρ js with
  | none => rfl
  | some cap =>
    simp only
    by_cases h : noKls cap = true
    · rw [if_pos h]; simp [h]
    · rw [if_neg h]; simp [h]
@[simp] theorem W_callLm {F : (Nat → MF) → MF} {g1 g2 : MA} {js : List Nat} {N : Nat} {b : Nat → ME} {Q : MV → Mem → Prop} : W (mCallLm F g1 g2 js N b ρ m) Q E = W (g1 ρ m) (fun ds1 m1 => match capOf ρ js with
    | some cap => noKls cap = true ∧ W (g2 ρ m1) (fun ds2 m2 => W (dem fun c β => F (lamC N cap b) (ds1 ++ .clo c β :: ds2) m2) Q E) E
    | none => False) E := by with_unfolding_all
  unfold mCallLm
  rw [W_bind]
  congr 1
  funext ds m1
  cases capOf ρ js with
  | none => rfl
  | some cap =>
    simp only
    by_cases h : noKls cap = true
    · rw [if_pos h, W_bind]; simp [h]
    · rw [if_neg h]; simp [h]
@[simp] theorem W_callN {F : (Nat → MF) → MF} {g : MA} {js : List Nat} {N : Nat} {b : Nat → MS} {Q : MV → Mem → Prop} : W (mCallN F g js N b ρ m) Q E = W (g ρ m) (fun ds m1 => match capOf ρ js with
    | some cap => noKls cap = true ∧ W (dem fun c β => F (defC N cap b) (ds ++ [.clo c β]) m1) Q E
    | none => False) E := by with_unfolding_all
  unfold mCallN
  rw [W_bind]
  congr 1
  funext ds m1
  cases capOf ρ js with
  | none => rfl
  | some cap =>
    simp only
    by_cases h : noKls cap = true
    · rw [if_pos h]; simp [h]
    · rw [if_neg h]; simp [h]
@[simp] theorem W_defRet {F : (Nat → MF) → MF} {g : MA} {js : List Nat} {N : Nat} {b : Nat → MS} {iy : Nat} {Q : Fl → Mem → Prop} : W (mDefRet F g js N b iy ρ m) Q E = W (mCallN F g js N b (ρ.set iy none) m) (fun d m => Q (.rt d) m) (fun x m => Q (.ex x (ρ.set iy none)) m) := by with_unfolding_all
  unfold mDefRet
  rw [W_ret]
@[simp] theorem W_def2Ret {F : (Nat → MF) → MF} {g : MA} {js1 : List Nat} {N1 : Nat} {b1 : (Nat → MF) → Addr → List Addr → Nat → MS} {js2 : List Nat} {N2 : Nat} {b2 : Nat → MS} {i1 i2 : Nat} {Q : Fl → Mem → Prop} :
    W (mDef2Ret F g js1 N1 b1 js2 N2 b2 i1 i2 ρ m) Q E = W (mCallN2 F g js1 N1 b1 js2 N2 b2 i2 ((ρ.set i1 none).set i2 none) m) (fun d m => Q (.rt d) m) (fun x m => Q (.ex x ((ρ.set i1 none).set i2 none)) m) := by with_unfolding_all
  unfold mDef2Ret
  rw [W_ret]
@[simp] theorem W_callN2 {F : (Nat → MF) → MF} {g : MA} {js1 : List Nat} {N1 : Nat} {b1 : (Nat → MF) → Addr → List Addr → Nat → MS} {js2 : List Nat} {N2 : Nat} {b2 : Nat → MS} {i2 : Nat} {Q : MV → Mem → Prop} :
    W (mCallN2 F g js1 N1 b1 js2 N2 b2 i2 ρ m) Q E = W (g ρ m) (fun ds m1 => match capOf ρ js2 with
      | some cap2 => noKls cap2 = true ∧ W (dem (in2 F js1 N1 b1 N2 b2 i2 cap2 ρ ds m1)) Q E
      | none => False) E := by with_unfolding_all
  unfold mCallN2
  rw [W_bind]
  congr 1
  funext ds m1
  cases capOf ρ js2 with
  | none => rfl
  | some cap =>
    simp only
    by_cases h : noKls cap = true
    · rw [if_pos h]; simp [h]
    · rw [if_neg h]; simp [h]
@[simp] theorem W_methL {c x : Str} {F : (Nat → MF) → MF} {go : ME} {g : MA} {js : List Nat} {N : Nat} {b : Nat → ME} {Q : MV → Mem → Prop} : W (mMethL c x F go g js N b ρ m) Q E = W (go ρ m) (fun d m0 => hasM c x d m0 = true ∧ W (g ρ m0) (fun ds m1 => match capOf ρ js with
    | some cap => noKls cap = true ∧ W (dem fun ca β => F (lamC N cap b) (d :: (ds ++ [.clo ca β])) m1) Q E
    | none => False) E) E := by with_unfolding_all
  unfold mMethL
  rw [W_bind]
  congr 1
  funext d m0
  rw [W_ite]
  by_cases h0 : hasM c x d m0 = true
  · rw [if_pos h0, W_bind]
    simp only [h0, true_and]
    congr 1
    funext ds m1
    cases capOf ρ js with
    | none => rfl
    | some cap =>
      simp only
      by_cases h : noKls cap = true
      · rw [if_pos h]; simp [h]
      · rw [if_neg h]; simp [h]
  · rw [if_neg h0]; simp [h0]
@[simp] theorem W_pos {k : Nat} {f : ME} {Q : MV → Mem → Prop} : W (mPos (k + 1) f ρ m) Q E = W (f ρ m) Q E := by with_unfolding_all rfl
theorem W_item_rs {n : Nat} {l : List (Key × MV)} {s : Str} {d : MV} {Q : MV → Mem → Prop} (h : m[n]? = some (.dct l)) (hv : valM l (.inr s) = some d) (q : Q d m) : W (gItem (.ref n) (.str s) m) Q E := by with_unfolding_all
  unfold gItem gDGet
  simp [h, keyOf, hv, q]
/-- C does what κ does, from k0 on, below k -/
def Agr (A : MV → Mem → Prop) (k0 k : Nat) (C : Nat → MF) (κ : MV → Mem → Re MV) : Prop := ∀ k1, k0 ≤ k1 → k1 < k → ∀ d m, A d m → C k1 [d] m = κ d m
theorem Agr.mono {A : MV → Mem → Prop} {k0 k k0' k' : Nat} {C : Nat → MF} {κ : MV → Mem → Re MV} (h : Agr A k0 k C κ) (h0 : k0 ≤ k0') (h1 : k' ≤ k) : Agr A k0' k' C κ := fun k1 a b => h k1 (Nat.le_trans h0 a) (Nat.lt_of_lt_of_le b h1)
end
end MI
namespace MI
open PySem PySem.SeqAt
open L2
end MI
namespace MI
open PySem L2
end MI
namespace MI
open PySem L2
variable [Nms]
section
variable {X : Cx} {W : WX} {pos : Pos} {K : PySem.W.Frag} {β : List Addr} {H : Hp} {m : Mem}
def mNinK (tbl : List (Str × MV)) (f : ME) : ME := fun ρ m => (f ρ m).bind fun d m1 => match d with
  | .str z => .ok (.bl (!(tbl.lookup z).isSome)) m1
  | _ => .stuck
def rNeE (K : PySem.W.Frag) : R2 := fun x y H Q => ∃ a b xs, x = .ref a ∧ y = .ref b ∧ SqL K H a xs ∧ SqL K H b [] ∧ Q (.bl (!xs.isEmpty)) H
theorem op_neE (hu : X.A.units < cLine) : OpR X (compareOp .NotEq) (rNeE X.K) := by
  intro pins s σ H x y v u Q I rx ry h
  obtain ⟨a, b, xs, rfl, rfl, hx, hy, q⟩ := h
  cases rx
  cases ry
  obtain ⟨i1, r1, p1, _⟩ := I.list hx
  obtain ⟨i2, r2, p2, _⟩ := I.list hy
  have n1 := r1.length
  cases r2
  cases xs with
  | nil =>
    cases r1
    refine SeqAt.RcNeAt.lists (e := fun _ => true) p1.isList p2.isList rfl hu (fun j h1 h2 => absurd h1 (Nat.not_lt_zero _)) X.prog X.w _ _ ?_
    exact ⟨.bl false, H, I, rfl, q⟩
  | cons x xs =>
    refine SeqAt.RcNeAt.lists_lengths p1.isList p2.isList ?_ hu X.prog X.w _ _ ?_
    · cases r1 with
      | cons _ _ => simp
    · exact ⟨.bl true, H, I, rfl, q⟩
def gNeE (a b : MV) (m : Mem) : Re MV := match lstOf m a, lstOf m b with
  | some l, some [] => .ok (.bl (!l.isEmpty)) m
  | _, _ => .stuck
theorem om_neE : OpM X (rNeE X.K) gNeE := by with_unfolding_all
  intro W σ d e m β H x y Q M rx ry p
  unfold gNeE at p
  split at p
  · rename_i l h1 h2
    obtain ⟨a, xs, rfl, q1, q2⟩ := M.lst rx h1
    obtain ⟨b, ys, rfl, q3, q4⟩ := M.lst ry h2
    cases q4
    refine ⟨a, b, xs, rfl, rfl, q1, q3, ?_⟩
    have : xs.isEmpty = l.isEmpty := by with_unfolding_all cases q2 <;> rfl
    rw [this]
    exact p.ok M (.bl _)
  · exact p.not_stuck
def mIsx2 (P : Str → Option Bool) (f : ME) : ME := fun ρ m => (f ρ m).bind fun d m1 => match (exnOf m1 d).bind fun x => P x.cls with
  | some b => .ok (.bl b) m1
  | none => .stuck
end
section
variable {m : Mem} {E : Exn → Mem → Prop} {Q : MV → Mem → Prop}
@[simp] theorem W_ninK {tbl : List (Str × MV)} {f : ME} {ρ : Env} : MI.W (mNinK tbl f ρ m) Q E = MI.W (f ρ m) (fun d m => match d with | .str z => Q (.bl (!(tbl.lookup z).isSome)) m | _ => False) E := by with_unfolding_all
  unfold mNinK
  cases h : f ρ m with
  | stuck => rfl
  | ex x m' => rfl
  | ok d m' => cases d <;> rfl
@[simp] theorem W_neE {a b : MV} : MI.W (gNeE a b m) Q E = match lstOf m a, lstOf m b with | some l, some [] => Q (.bl (!l.isEmpty)) m | _, _ => False := by with_unfolding_all
  unfold gNeE
  split <;> rfl
@[simp] theorem W_isx2 {P : Str → Option Bool} {f : ME} {ρ : Env} : MI.W (mIsx2 P f ρ m) Q E = MI.W (f ρ m) (fun d m => match (exnOf m d).bind fun x => P x.cls with | some b => Q (.bl b) m | none => False) E := by with_unfolding_all
  unfold mIsx2
  cases h : f ρ m with
  | stuck => rfl
  | ex x m' => rfl
  | ok d m' =>
    show MI.W (match (exnOf m' d).bind fun x => P x.cls with | some b => Re.ok (MV.bl b) m' | none => .stuck) Q E = (match (exnOf m' d).bind fun x => P x.cls with | some b => Q (.bl b) m' | none => False)
    cases (exnOf m' d).bind fun x => P x.cls <;> rfl
end
end MI
namespace MI
open PySem L2 PyProof.Rows
variable [Nms]
/-- the object is of the class c -/
def isOwn (c : Str) (d : MV) (m : Mem) : Bool := match ownOf m d with
  | some (_, c', _) => c' == c
  | none => false
def mGetO (c : Str) (F : MF) (g gi : ME) : ME := fun ρ m => (g ρ m).bind fun d m1 => (gi ρ m1).bind fun i m2 => if isOwn c d m2 = true then F [d, i] m2 else .stuck
def gProp (c : Str) (F : MF) (d : MV) (m : Mem) : Re MV := if isOwn c d m = true then (match F [d] m with
  | .ok v m1 => .ok v m1
  | _ => .stuck) else .stuck
def mProp (c : Str) (F : MF) (g : ME) : ME := fun ρ m => (g ρ m).bind fun d m1 => gProp c F d m1
def builtNames : List String := ["NoneType", "bool", "int", "str", "tuple", "list", "dict"]
def isoV (P : Str → Option Bool) (m : Mem) (d : MV) : Option Bool := match ownOf m d with
  | some (_, c, _) => P c
  | none => (tyM m d).bind fun t => if t ∈ builtNames then some false else none
def mIso (P : Str → Option Bool) (f : ME) : ME := fun ρ m => (f ρ m).bind fun d m1 => match isoV P m1 d with
  | some b => .ok (.bl b) m1
  | none => .stuck
section
variable {E : Exn → Mem → Prop} {ρ : Env} {m : Mem} {Q : MV → Mem → Prop}
@[simp] theorem W_getO {c : Str} {F : MF} {g gi : ME} : MI.W (mGetO c F g gi ρ m) Q E = MI.W (g ρ m) (fun d m1 => MI.W (gi ρ m1) (fun i m2 => if isOwn c d m2 = true then MI.W (F [d, i] m2) Q E else False) E) E := by with_unfolding_all
  unfold mGetO
  simp only [W_bind]
  congr 1
  funext d m1
  congr 1
  funext i m2
  rw [W_ite, W_stuck]
@[simp] theorem W_prop {c : Str} {F : MF} {g : ME} : MI.W (mProp c F g ρ m) Q E = MI.W (g ρ m) (fun d m1 => MI.W (gProp c F d m1) Q E) E := by with_unfolding_all
  unfold mProp
  rw [W_bind]
@[simp] theorem W_iso {P : Str → Option Bool} {f : ME} : MI.W (mIso P f ρ m) Q E = MI.W (f ρ m) (fun d m => match isoV P m d with | some b => Q (.bl b) m | none => False) E := by with_unfolding_all
  unfold mIso
  rw [W_bind]
  congr 1
  funext d m
  cases isoV P m d <;> rfl
end
end MI
namespace MI
open PySem PySem.SeqAt
open L2
end MI
namespace MI
open PySem L2
variable [Nms]
section
variable {X : Cx} {pins : List (Addr × Obj)} {σ : L2.St} {H : Hp} {s : Shared} {β : List Addr}
mutual
theorem RV.nested (I : Inv X pins σ H s) : ∀ {d : MV} {v : V} {k : NestedKey} {u : Value}, RV X.K β H d v → nkOf d = some k → RelV v u → NestedIs s.heap k u
  | _, _, _, _, .non, e, r => by cases e; cases r; exact .none
  | _, _, _, _, .bl b, e, r => by cases e
  | _, _, _, _, .int i, e, r => by cases e; obtain ⟨t, rfl⟩ := r; exact .int _ _
  | _, _, _, _, .str x, e, r => by cases e; obtain ⟨t, rfl⟩ := r; exact .text _ _
  | _, _, _, _, .tup (a := a) (ds := ds) h r, e, q => by
    cases h2 : nksOf ds with
    | none => simp [nkOf, h2] at e
    | some ks =>
      simp [nkOf, h2] at e
      subst e
      cases q
      obtain ⟨its, p1, ⟨o, p2, p3, n, p4⟩, _⟩ := I.tuple h
      exact .tup p2 p3 p4 (by simpa using RVs.nested I r h2 p1)
  | _, _, _, _, .ref h, e, r => by cases e
  | _, _, _, _, .kl h r, e, q => by cases e
  | _, _, _, _, .clo h, e, r => by cases e
theorem RVs.nested (I : Inv X pins σ H s) : ∀ {ds : List MV} {vs : List V} {ks : List NestedKey} {us : List Value}, RVs X.K β H ds vs → nksOf ds = some ks → Vals vs us → NestedAll s.heap ks us
  | _, _, _, _, .nil, e, q => by cases e; cases q; exact .nil
  | _, _, _, _, .cons (d := d) (ds := ds) h r, e, q => by
    cases h1 : nkOf d with
    | none => simp [nksOf, h1] at e
    | some k =>
      cases h2 : nksOf ds with
      | none => simp [nksOf, h1, h2] at e
      | some ks =>
        simp [nksOf, h1, h2] at e
        subst e
        cases q with
        | cons q1 q2 => exact .cons (RV.nested I h h1 q1) (RVs.nested I r h2 q2)
end
/-- the keys that are recorded are there -/
theorem RNs.keys (I : Inv X pins σ H s) : ∀ {l : List (MV × MV)} {xs : List (NestedKey × Addr × Value)}, RNs X.K β H l xs → ∀ x ∈ xs, (nestedKind X.prog X.w).is s.heap x.1 x.2.1
  | _, _, .nil, x, hx => by cases hx
  | _, _, .cons h1 h2 h3 h4 h5 r, x, hx => by
    rcases List.mem_cons.mp hx with e | hx
    · subst e
      exact ⟨RV.nested I h3 h1 rfl, h2⟩
    · exact RNs.keys I r x hx
theorem ndx_of (hw : X.w = Nms.wd) {a : Addr} {xs : List (NestedKey × Addr × Value)} {l : List (MV × MV)} (I : Inv X pins σ H s) (h : H a = some (NDx a xs)) (r : RNs X.K β H l xs) : s.heap.DictOfH (nestedKind X.prog X.w) a xs := by
  obtain ⟨⟨o, es, ep, h1, h2, h3, h4, h5⟩, _⟩ := (show ObjOk X.prog X.w H s.heap a (NDx a xs) from I.hok a _ h)
  refine ⟨o, es, ep, h1, h2, h3, ?_, r.keys I, h5⟩
  rw [h4, ← hw]
  rfl
/-- a dict without keys is also one of such -/
theorem ndx_nil {a : Addr} (I : Inv X pins σ H s) (h : Rd H a (.dK [])) : s.heap.DictOfH (nestedKind X.prog X.w) a [] := by
  obtain ⟨_, _, vs, r, o, es, ep, h1, h2, h3, h4, h5, _⟩ := dk_rd I.hok h
  cases r
  have e : es.toList = [] := by
    revert h5
    generalize es.toList = z
    intro h5
    cases h5
    rfl
  exact ⟨o, es, ep, h1, h2, h3, e, fun _ hx => by simp at hx, List.nodup_nil⟩
end
def nOf (m : Mem) : MV → Option (Nat × List (MV × MV))
  | .ref n => match m[n]? with
    | some (.dN l) => some (n, l)
    | some (.dct []) => some (n, [])
    | _ => none
  | _ => none
/-- a key: its word, not too deep -/
def tkOf : MV → Option NestedKey
  | .tup l => match nkOf (.tup l) with
    | some k => if k.depth ≤ 8 then some k else none
    | none => none
  | _ => none
def eqN (a : MV) (k : NestedKey) : Bool := match nkOf a with
  | some x => decide (x = k)
  | none => false
def valN (l : List (MV × MV)) (k : NestedKey) : Option MV := (l.find? fun p => eqN p.1 k).map (·.2)
def putN (l : List (MV × MV)) (k : NestedKey) (d e : MV) : List (MV × MV) := if (l.any fun p => eqN p.1 k) = true then l.map (fun p => if eqN p.1 k = true then (p.1, e) else p) else l ++ [(d, e)]
section
variable {K : PySem.W.Frag} {β : List Addr} {H : Hp} {m : Mem}
theorem nOf_some {d : MV} {n : Nat} {l : List (MV × MV)} (h : nOf m d = some (n, l)) : d = .ref n ∧ (m[n]? = some (.dN l) ∨ (m[n]? = some (.dct []) ∧ l = [])) := by
  unfold nOf at h
  split at h
  · split at h
    · rename_i e; cases h; exact ⟨rfl, .inl e⟩
    · rename_i e; cases h; exact ⟨rfl, .inr ⟨e, rfl⟩⟩
    · cases h
  · cases h
theorem tkOf_some {d : MV} {k : NestedKey} (h : tkOf d = some k) : (∃ l, d = .tup l) ∧ nkOf d = some k ∧ k.depth ≤ 8 := by
  unfold tkOf at h
  split at h
  · split at h
    · rename_i e
      split at h
      · cases h; exact ⟨⟨_, rfl⟩, e, by assumption⟩
      · cases h
    · cases h
  · cases h
theorem RNs.length : ∀ {l : List (MV × MV)} {xs : List (NestedKey × Addr × Value)}, RNs K β H l xs → l.length = xs.length
  | _, _, .nil => rfl
  | _, _, .cons _ _ _ _ _ r => by simp [RNs.length r]
theorem RNs.val : ∀ {l : List (MV × MV)} {xs : List (NestedKey × Addr × Value)} {k : NestedKey}, RNs K β H l xs →
    (∀ e, valN l k = some e → ∃ a u v, atKey xs k = some (a, u) ∧ RelV v u ∧ RV K β H e v) ∧ (valN l k = none → atKey xs k = none)
  | _, _, k, .nil => ⟨fun _ h => (by cases h), fun _ => rfl⟩
  | _, _, k, .cons (q := q) h1 h2 h3 h4 h5 r => by
    obtain ⟨i1, i2⟩ := RNs.val (k := k) r
    unfold valN atKey at *
    rw [List.find?_cons, List.find?_cons]
    by_cases e : q = k
    · subst e
      simp only [eqN, h1, decide_true]
      exact ⟨fun d z => (by cases z; exact ⟨_, _, _, rfl, h4, h5⟩), fun z => (by cases z)⟩
    · simp only [eqN, h1, e, decide_false]
      exact ⟨i1, i2⟩
theorem RNs.any : ∀ {l : List (MV × MV)} {xs : List (NestedKey × Addr × Value)} {k : NestedKey}, RNs K β H l xs → (l.any fun p => eqN p.1 k) = (atKey xs k).isSome
  | _, _, _, .nil => rfl
  | _, _, k, .cons (q := q) (xs := xs) h1 h2 h3 h4 h5 r => by
    have ih := RNs.any (k := k) r
    rw [List.any_cons, ih]
    unfold atKey
    rw [List.find?_cons]
    by_cases e : q = k
    · simp [eqN, h1, e]
    · simp [eqN, h1, e]
theorem RNs.map : ∀ {l : List (MV × MV)} {xs : List (NestedKey × Addr × Value)} {k : NestedKey} {e : MV} {u : Value} {v : V}, RNs K β H l xs → RelV v u → RV K β H e v →
    RNs K β H (l.map fun p => if eqN p.1 k = true then (p.1, e) else p) (xs.map (putAt k u))
  | _, _, _, _, _, _, .nil, _, _ => .nil
  | _, _, k, _, _, _, .cons (q := q) h1 h2 h3 h4 h5 r, z1, z2 => by
    have ih := RNs.map (k := k) r z1 z2
    simp only [List.map_cons]
    by_cases e : q = k
    · subst e
      simp only [eqN, h1, decide_true, if_true, putAt]
      exact .cons h1 h2 h3 z1 z2 ih
    · simp only [eqN, h1, e, decide_false, putAt, if_false, Bool.false_eq_true]
      exact .cons h1 h2 h3 h4 h5 ih
theorem RNs.app : ∀ {l l2 : List (MV × MV)} {xs x2 : List (NestedKey × Addr × Value)}, RNs K β H l xs → RNs K β H l2 x2 → RNs K β H (l ++ l2) (xs ++ x2)
  | _, _, _, _, .nil, q => q
  | _, _, _, _, .cons h1 h2 h3 h4 h5 r, q => .cons h1 h2 h3 h4 h5 (RNs.app r q)
theorem RNs.put {l : List (MV × MV)} {xs : List (NestedKey × Addr × Value)} {k : NestedKey} {d e : MV} {a : Addr} {u : Value} {v : V} (r : RNs K β H l xs) (h1 : nkOf d = some k) (h2 : k.depth ≤ 8) (h3 : RV K β H d (.ref a)) (h4 : RelV v u) (h5 : RV K β H e v) :
    RNs K β H (putN l k d e) (storedH xs k a u) := by
  unfold putN storedH
  rw [r.any (k := k)]
  split
  · exact r.map h4 h5
  · exact r.app (.cons h1 h2 h3 h4 h5 .nil)
/-- a dict of such keys, as it stands in the heap -/
def NSt (H : Hp) (a : Addr) (xs : List (NestedKey × Addr × Value)) : Prop := (H a = some (NDx a xs) ∧ (a == sysModules) = false) ∨ (H a = some (.dK []) ∧ xs = [])
theorem RM.dN (R : RM K β H m) {d : MV} {v : V} {n : Nat} {l : List (MV × MV)} (r : RV K β H d v) (h : nOf m d = some (n, l)) : ∃ a xs, v = .ref a ∧ β[n]? = some a ∧ NSt H a xs ∧ RNs K β H l xs := by
  obtain ⟨rfl, e⟩ := nOf_some h
  cases r with
  | ref hb =>
    rcases e with e | ⟨e, rfl⟩
    · obtain ⟨xs, q1, q3, q2⟩ := R.ob n _ _ e hb
      exact ⟨_, xs, rfl, hb, .inl ⟨q1, q3⟩, q2⟩
    · obtain ⟨vs, q1, q2⟩ := R.ob n _ _ e hb
      cases q2
      exact ⟨_, [], rfl, hb, .inr ⟨q1, rfl⟩, .nil⟩
end
section
variable {X : Cx} {pins : List (Addr × Obj)} {σ : L2.St} {H : Hp} {s : Shared} {β : List Addr} {a : Addr} {xs : List (NestedKey × Addr × Value)} {l : List (MV × MV)}
theorem nst_of (hw : X.w = Nms.wd) (I : Inv X pins σ H s) (h : NSt H a xs) (r : RNs X.K β H l xs) : s.heap.DictOfH (nestedKind X.prog X.w) a xs := by
  rcases h with ⟨h, _⟩ | ⟨h, rfl⟩
  · exact ndx_of hw I h r
  · exact ndx_nil I (.inl h)
theorem nst_sys (I : Inv X pins σ H s) (h : NSt H a xs) : (a == sysModules) = false := by
  rcases h with ⟨_, h⟩ | ⟨h, rfl⟩
  · exact h
  · exact (dk_of I.hok h).2.1
theorem nst_mut (h : NSt H a xs) : Mut (H a) := by
  rcases h with ⟨h, _⟩ | ⟨h, _⟩
  · rw [h]; exact True.intro
  · rw [h]; exact True.intro
end
section
variable {X : Cx} {o i e f : Expr} {pos apos cpos pos' : Pos} {td ty tx tv : TE} {value : Expr}
/-- the dict and the key of a look-up -/
def NAt (X : Cx) (H : Hp) (x y : V) (r : Option V) : Prop := ∃ (a b : Addr) (β : List Addr) (xs : List (NestedKey × Addr × Value)) (l : List (MV × MV)) (d : MV) (k : NestedKey),
  x = .ref a ∧ y = .ref b ∧ NSt H a xs ∧ RNs X.K β H l xs ∧ RV X.K β H d (.ref b) ∧ nkOf d = some k ∧ k.depth ≤ 8 ∧ RelO r ((atKey xs k).map (·.2))
def tNGet (X : Cx) (td ty : TE) : TE := fun σ H Q => td σ H fun x H1 => ty σ H1 fun y H2 => ∃ v, NAt X H2 x y (some v) ∧ Q v H2
theorem pe_nget (hw : X.w = Nms.wd) (hu : X.A.units + 9 < cLine) (ho : PE X o td) (hi : PE X i ty) (hs : NoSl i) : PE X (.Subscript o i pos) (tNGet X td ty) := by
  refine ⟨fun pins s σ H Q I h => ?_⟩
  refine subD_of PySem.F.slot_dict_getitem.lookup hs (thn (ho.run pins s σ H _ I h) fun u s1 ⟨x, H1, I1, rx, q1⟩ => thn (hi.run pins s1 σ H1 _ I1 q1) fun iv s2 ⟨y, H2, I2, ry, v, ⟨a, b, β, xs, l, d, k, ex, ey, g1, g2, g3, g4, g5, g6⟩, q2⟩ => ?_)
  subst ex ey
  obtain rfl : u = Value.ref a := rx
  obtain rfl : iv = Value.ref b := ry
  have dd := nst_of hw I2 g1 g2
  obtain ⟨w', e1, e2⟩ := RelO.some_of g6
  obtain ⟨p, hp, hp2⟩ := Option.map_eq_some_iff.mp e1
  refine ⟨dd.typeIs, wpAny_getItem_heap (knd := nestedKind X.prog X.w) (by show X.A.units + 1 + 8 < cLine; omega) ⟨RV.nested I2 g3 g4 rfl, g5⟩ dd hp ?_⟩
  rw [hp2]
  exact ⟨v, H2, I2.tok _, e2, q2⟩
def NIs (X : Cx) (H : Hp) (a : Addr) : Prop := ∃ (β : List Addr) (xs : List (NestedKey × Addr × Value)) (l : List (MV × MV)), NSt H a xs ∧ RNs X.K β H l xs
def tNGet2 (X : Cx) (td ty tx : TE) : TE := fun σ H Q => td σ H fun x H1 => ∃ a, x = .ref a ∧ NIs X H1 a ∧ ty σ H1 fun y H2 => tx σ H2 fun z H3 => ∃ r, NAt X H3 (.ref a) y r ∧ Q (r.getD z) H3
theorem pe_nget2 (hw : X.w = Nms.wd) (hu : X.A.units + 9 < cLine) (ho : PE X o td) (he : PE X e ty) (hf : PE X f tx) (m : L2.M2 X o "get" apos e f cpos) : PE X (.Call (.Attribute o "get" apos) [e, f] [] cpos) (tNGet2 X td ty tx) := by
  refine ⟨fun pins s σ H Q I h => ?_⟩
  refine wpAny_Call_method m.base m.few m.line PySem.F.plainAttrs_dict PySem.F.slot_dict_get PySem.F.type_dict_get (thn (ho.run pins s σ H _ I h) fun u s1 ⟨x, H1, I1, rx, a, ex, ⟨β, xs, l, d1, d2⟩, q1⟩ => ?_)
  subst ex
  obtain rfl : u = Value.ref a := rx
  have dd := nst_of hw I1 d1 d2
  refine ⟨dd.typeIs, fun b q => ?_, ?_⟩
  · cases q
    obtain ⟨ob, _, _, h1, h2, _⟩ := dd
    exact ⟨ob, h1, h2.2.1⟩
  rw [m.trees]
  refine Calls.callWith_builtin rfl (Calls.evalArgs_plain (Calls.spliced_cons (thn (he.run pins s1 σ H1 _ I1 q1) fun iv s2 ⟨y, H2, I2, ry, q2⟩ =>
    Calls.spliced_cons (thn (hf.run pins s2 σ H2 _ I2 q2) fun fv s3 ⟨z, H3, I3, rz, r, ⟨a', b, β', xs', l', d, k, ex, ey, g1, g2, g3, g4, g5, g6⟩, q3⟩ => Calls.spliced_nil ?_))))
  cases ex
  subst ey
  obtain rfl : iv = Value.ref b := ry
  have d3 := nst_of hw I3 g1 g2
  refine call_meetsIn PySem.F.slot_dict_get d3.typeIs PySem.F.entry_dict_get (PySem.F.args_dict_get_3 _ _ _) (meetsH_dict_get_default (nestedKind X.prog X.w) a b (nst_sys I3 g1) fv) ⟨(by show X.A.units + 1 + 8 < cLine; omega), k, xs', ⟨RV.nested I3 g3 g4 rfl, g5⟩, d3, _, H3, I3.tok _, ?_, q3⟩
  exact RelO.getD g6 rz
def sNPut (X : Cx) (td ty tv : TE) : TS := fun D σ H => tv σ H fun v H1 => td σ H1 fun x H2 => ty σ H2 fun y H3 => ∃ (a b : Addr) (β : List Addr) (xs : List (NestedKey × Addr × Value)) (l : List (MV × MV)) (d : MV) (k : NestedKey),
  x = .ref a ∧ y = .ref b ∧ NSt H3 a xs ∧ RNs X.K β H3 l xs ∧ RV X.K β H3 d (.ref b) ∧ nkOf d = some k ∧ k.depth ≤ 8 ∧ xs.length ≤ sizeLine ∧ ∀ u : Value, RelV v u → (a == sysModules) = false → D.nx σ (upd H3 a (NDx a (storedH xs k b u)))
theorem ndx_new {P : Program} {w : World} {H' : Hp} {h' : Heap} {a : Addr} {xs : List (NestedKey × Addr × Value)} (hw : w = Nms.wd) (d : h'.DictOfH (nestedKind P w) a xs) : ObjOk P w H' h' a (NDx a xs) := by
  obtain ⟨o, es, ep, h1, h2, h3, h4, _, h5⟩ := d
  refine ⟨⟨o, es, ep, h1, h2, h3, ?_, h5⟩, ⟨o, h1⟩, fun g1 g2 ⟨o', es', ep', z1, z2⟩ hk => ⟨o', es', ep', hk _ z1, z2⟩⟩
  rw [h4, ← hw]
  rfl
theorem ps_nput (hw : X.w = Nms.wd) (hu : X.A.units + 9 < cLine) (ho : PE X o td) (hi : PE X i ty) (hv : PE X value tv) (hs : swapsWith value (some (.Subscript o i pos')) pos.line X.env = pure false) :
    PS X (.Assign [.Subscript o i pos'] value pos) (sNPut X td ty tv) := by
  refine ⟨fun pins s σ H D I h => ?_⟩
  refine wpAny_Assign_Subscript (thn (hv.run pins s σ H _ I h) fun r s1 ⟨v, H1, I1, rv, q1⟩ => thn (ho.run pins s1 σ H1 _ I1 q1) fun u s2 ⟨x, H2, I2, rx, q2⟩ => thn (hi.run pins s2 σ H2 _ I2 q2) fun iv s3 ⟨y, H3, I3, ry, a, b, β, xs, l, d, k, ex, ey, g1, g2, g3, g4, g5, gl, q3⟩ => ?_) hs
  subst ex ey
  obtain rfl : u = Value.ref a := rx
  obtain rfl : iv = Value.ref b := ry
  have dd := nst_of hw I3 g1 g2
  refine wpAny_setItem_heap (knd := nestedKind X.prog X.w) (hsz := gl) (by show X.A.units + 1 + 8 < cLine; omega) ⟨RV.nested I3 g3 g4 rfl, g5⟩ dd fun h' dd' hs' => ?_
  have he : ∃ q, h'.get? a = some q := let ⟨q, _, _, hq, _⟩ := dd'; ⟨q, hq⟩
  exact ⟨σ, _, d_write I3 (nst_mut g1) hs' he (ndx_new hw dd'), q3 r rv (nst_sys I3 g1)⟩
end
def gNGet (d k : MV) (m : Mem) : Re MV := match nOf m d, tkOf k with
  | some (_, l), some q => match valN l q with
    | some e => .ok e m
    | none => .stuck
  | _, _ => .stuck
theorem nat_of {X : Cx} {β2 : List Addr} {H2 : Hp} {m2 : Mem} {d d2 : MV} {x y : V} {n : Nat} {l : List (MV × MV)} {q : NestedKey} (M2 : RM X.K β2 H2 m2) (V1 : RV X.K β2 H2 d x) (V2 : RV X.K β2 H2 d2 y) (h1 : nOf m2 d = some (n, l)) (h2 : tkOf d2 = some q) :
    ∃ r, NAt X H2 x y r ∧ (∀ e, valN l q = some e → ∃ v, r = some v ∧ RV X.K β2 H2 e v) ∧ (valN l q = none → r = none) := by
  obtain ⟨a, xs, rfl, hb, hS, hr⟩ := M2.dN V1 h1
  obtain ⟨⟨ds, rfl⟩, k1, k2⟩ := tkOf_some h2
  obtain ⟨z1, z2⟩ := hr.val (k := q)
  cases V2 with
  | @tup b _ vs t1 t2 =>
    cases hv : valN l q with
    | none =>
      exact ⟨none, ⟨a, b, β2, xs, l, .tup ds, q, rfl, rfl, hS, hr, .tup t1 t2, k1, k2, by rw [z2 hv]; exact True.intro⟩, fun e h => (by cases h), fun _ => rfl⟩
    | some e =>
      obtain ⟨b', u, v, w1, w2, w3⟩ := z1 e hv
      exact ⟨some v, ⟨a, b, β2, xs, l, .tup ds, q, rfl, rfl, hS, hr, .tup t1 t2, k1, k2, by rw [w1]; exact w2⟩, fun e' h => (by cases h; exact ⟨v, rfl, w3⟩), fun h => (by cases h)⟩
section
variable {X : Cx} {W : WX} {pos : Pos}
theorem je_nget {a b : Expr} {fa fb : ME} (hw : X.w = Nms.wd) (hu : X.A.units + 9 < cLine) (ha : JE X W a fa) (hb : JE X W b fb) (hs : NoSl b := by with_unfolding_all intro _ _; rfl) : JE X W (.Subscript a b pos) (mBin gNGet fa fb) :=
  ⟨pe_imp (pe_nget hw hu ha.run hb.run hs) fun σ H Q ⟨ρ, m, β, hE, hM, p⟩ => ⟨ρ, m, β, hE, hM, p.bind fun d m1 x H1 β1 _ e1 M1 V1 p1 => ⟨ρ, m1, β1, hE.ext hM e1, M1, p1.bind fun d2 m2 y H2 β2 _ e2 M2 V2 p2 => by with_unfolding_all
    unfold gNGet at p2
    split at p2
    · rename_i n l q h1 h2
      split at p2
      · rename_i e he
        obtain ⟨r, z1, z2, _⟩ := nat_of M2 (V1.ext M1 e2) V2 h1 h2
        obtain ⟨v, rfl, z3⟩ := z2 e he
        exact ⟨v, z1, p2.ok M2 z3⟩
      · exact p2.not_stuck
    · exact p2.not_stuck⟩⟩⟩
/-- x[i]: also of a dict whose keys are tuples -/
def isN (m : Mem) (d : MV) : Bool := (nOf m d).isSome
def gItemN (a b : MV) (m : Mem) : Re MV := if isN m a = true ∧ (tkOf b).isSome = true then gNGet a b m else gItem a b m
theorem je_itemN {a b : Expr} {fa fb : ME} (hw : X.w = Nms.wd) (hu : X.A.units + 64 < cLine) (ha : JE X W a fa) (hb : JE X W b fb) (hs : PlainIx b := by with_unfolding_all intro _ _; rfl) : JE X W (.Subscript a b pos) (mBin gItemN fa fb) :=
  JE.or (je_nget hw (by omega) ha hb hs) (je_item (by omega) ha hb hs) (mBin_or fun a b m => by with_unfolding_all
    unfold gItemN
    split
    · exact .inl rfl
    · exact .inr rfl)
def gNGet2 (d k x : MV) (m : Mem) : Re MV := match nOf m d, tkOf k with
  | some (_, l), some q => .ok ((valN l q).getD x) m
  | _, _ => .stuck
def mNGet2 (fd fy fx : ME) : ME := fun ρ m => (fd ρ m).bind fun d m1 => if isN m1 d = true then (fy ρ m1).bind fun y m2 => (fx ρ m2).bind fun x m3 => gNGet2 d y x m3 else .stuck
theorem je_nget2 {o e f : Expr} {apos : Pos} {fd fy fx : ME} (hw : X.w = Nms.wd) (hu : X.A.units + 64 < cLine) (ho : JE X W o fd) (he : JE X W e fy) (hf : JE X W f fx) (h1 : attributeBase o "get" X.env (eval o X.env) = eval o X.env := by with_unfolding_all rfl)
    (h2 : ((backTo pos (starEach [e, f] X.env)).all (fun x => !x.1) && (backToKw pos (keywordEach [] X.env)).all (fun x => x.1.isSome)
    && decide (([e, f] : List Expr).length + ([] : List Keyword).length + (if ([] : List Keyword).isEmpty then 0 else 1) < 30)) = true := by with_unfolding_all rfl) (h3 : (apos.endLine == pos.line) = true := by with_unfolding_all rfl) (h4 : backTo pos (starEach [e, f] X.env) = [(false, eval e X.env), (false, eval f X.env)] := by with_unfolding_all rfl) :
    JE X W (.Call (.Attribute o "get" apos) [e, f] [] pos) (mNGet2 fd fy fx) :=
  ⟨pe_imp (pe_nget2 hw (by omega) ho.run he.run hf.run ⟨h1, h2, h3, h4⟩) fun σ H Q ⟨ρ, m, β, hE, hM, p⟩ => ⟨ρ, m, β, hE, hM, p.bind fun d m1 x H1 β1 _ e1 M1 V1 p1 => by with_unfolding_all
    split at p1
    · rename_i q
      obtain ⟨⟨n, l⟩, hl⟩ := Option.isSome_iff_exists.mp q
      obtain ⟨a, xs, rfl, hb, hS, hr⟩ := M1.dN V1 hl
      refine ⟨a, rfl, ⟨β1, xs, l, hS, hr⟩, ⟨ρ, m1, β1, hE.ext hM e1, M1, p1.bind fun d2 m2 y H2 β2 _ e2 M2 V2 p2 => ⟨ρ, m2, β2, (hE.ext hM e1).ext M1 e2, M2, p2.bind fun d3 m3 z H3 β3 _ e3 M3 V3 p3 => ?_⟩⟩⟩
      unfold gNGet2 at p3
      split at p3
      · rename_i n' l' q' z1 z2
        obtain ⟨r, g1, g2, g3⟩ := nat_of M3 ((V1.ext M1 e2).ext M2 e3) (V2.ext M2 e3) z1 z2
        refine ⟨r, g1, ?_⟩
        cases hv : valN l' q' with
        | none => rw [hv] at p3; rw [g3 hv]; exact p3.ok M3 V3
        | some d4 =>
          rw [hv] at p3
          obtain ⟨v4, rfl, u2⟩ := g2 d4 hv
          exact p3.ok M3 u2
      · exact p3.not_stuck
    · exact p1.not_stuck⟩⟩
def mNPut (fd fk fv : ME) : MS := fun ρ m => onE ρ (fv ρ m) fun v m1 => onE ρ (fd ρ m1) fun d m2 => onE ρ (fk ρ m2) fun k m3 => match nOf m3 d, tkOf k with
  | some (n, l), some q => if l.length < sizeLine then .ok (.nx ρ) (m3.set n (.dN (putN l q k v))) else .stuck
  | _, _ => .stuck
theorem js_nput {o i value : Expr} {pos' : Pos} {fo fi fv : ME} (hw : X.w = Nms.wd) (hu : X.A.units + 64 < cLine) (ho : JE X W o fo) (hi : JE X W i fi) (hv : JE X W value fv) (hs : swapsWith value (some (.Subscript o i pos')) pos.line X.env = pure false := by with_unfolding_all rfl) : JS X W (.Assign [.Subscript o i pos'] value pos) (mNPut fo fi fv) :=
  ⟨ps_imp (ps_nput hw (by omega) ho.run hi.run hv.run hs) fun D σ H ⟨ρ, m, β, hE, hM, p⟩ => ⟨ρ, m, β, hE, hM, PostS.on (D := D) (R := fun β' H' d v => RV X.K β' H' d v) hE hM p fun d1 m1 v1 H1 β1 _ e1 M1 V1 p1 => ⟨ρ, m1, β1, hE.ext hM e1, M1, PostS.on (D := D) (R := fun β' H' d v => RV X.K β' H' d v) (hE.ext hM e1) M1 p1 fun d2 m2 v2 H2 β2 _ e2 M2 V2 p2 => ⟨ρ, m2, β2, (hE.ext hM e1).ext M1 e2, M2,
    PostS.on (D := D) (R := fun β' H' d v => RV X.K β' H' d v) ((hE.ext hM e1).ext M1 e2) M2 p2 fun d3 m3 v3 H3 β3 _ e3 M3 V3 p3 => by with_unfolding_all
      split at p3
      · rename_i n l q h1 h2
        split at p3
        · rename_i hl
          obtain ⟨a, xs, rfl, hb, hS, hr⟩ := M3.dN (V2.ext M2 e3) h1
          obtain ⟨⟨ds, rfl⟩, k1, k2⟩ := tkOf_some h2
          cases V3 with
          | @tup b _ vs t1 t2 =>
            refine ⟨a, b, β3, xs, l, .tup ds, q, rfl, rfl, hS, hr, .tup t1 t2, k1, k2, by rw [← hr.length]; omega, fun u ru hsys => ?_⟩
            have eE : Ext β3 H3 β3 (upd H3 a (NDx a (storedH xs q b u))) := Ext.wr (List.mem_of_getElem? hb)
            exact p3 σ _ β3 eE (M3.wr hb ⟨_, upd_same, hsys, ((hr.put k1 k2 (.tup t1 t2) ru ((V1.ext M1 e2).ext M2 e3))).ext M3 eE⟩) ((((hE.ext hM e1).ext M1 e2).ext M2 e3).ext M3 eE)
        · exact p3.elim
      · exact p3.elim⟩⟩⟩⟩
end
end MI
namespace MI
open PySem L2
variable [Nms]
section
variable {X : Cx} {W : WX} {pos : Pos} {K : PySem.W.Frag} {β : List Addr} {H : Hp} {m : Mem}
def rInsert : V → List V → Hp → VK → Prop := fun x vs H Q => ∃ (l : Addr) (xs : List V) (i : Int) (y : V), x = .ref l ∧ vs = [.int i, y] ∧ H l = some (.lst xs) ∧ xs.length < sizeLine ∧ 0 ≤ i ∧ i < 2 ^ 63 ∧ Q .non (upd H l (.lst (xs.take i.toNat ++ [y] ++ xs.drop i.toNat)))
theorem mt_insertI : MtR X "list.insert" rInsert := mt_insert
def gInsert (d : MV) (ds : List MV) (m : Mem) : Re MV := match ds with
  | [.int i, e] => match mutOf m d with
    | some (n, l) => if l.length < sizeLine ∧ 0 ≤ i ∧ i < 2 ^ 63 then .ok .non (m.set n (.lst (l.take i.toNat ++ [e] ++ l.drop i.toNat))) else .stuck
    | none => .stuck
  | _ => .stuck
theorem mm_insert : MtMm X rInsert gInsert := by with_unfolding_all
  intro W σ d ds m β H x vs Q M rx rv p
  unfold gInsert at p
  split at p
  · rename_i i e0
    cases rv with
    | @cons _ iv _ _ hi r =>
      cases r with
      | @cons _ y _ _ h r =>
        cases r
        cases hi
        split at p
        · rename_i n l e
          split at p
          · rename_i hl
            obtain ⟨h1, h2, h3⟩ := hl
            obtain ⟨a, us, rfl, hb, hH, hr⟩ := M.mut rx e
            have eE : Ext β H β (upd H a (.lst (us.take i.toNat ++ [y] ++ us.drop i.toNat))) := Ext.wr (List.mem_of_getElem? hb)
            exact ⟨a, us, i, y, rfl, rfl, hH, by rw [← hr.length]; exact h1, h2, h3, p .non _ β eE (M.wr hb ⟨_, upd_same, (((hr.take _).app (.cons h .nil)).app (hr.drop _)).ext M eE⟩) .non⟩
          · exact p.not_stuck
        · exact p.not_stuck
  · exact p.not_stuck
def mPrs : List (Key × ME) → Env → Mem → Re (List (Key × MV))
  | [], _, m => .ok [] m
  | (k, f) :: r, ρ, m => (f ρ m).bind fun d m1 => (mPrs r ρ m1).bind fun l m2 => .ok ((k, d) :: l) m2
structure JVs (X : Cx) (W : WX) (pos : Pos) (keys : List (Option Expr)) (vals : List Expr) (fs : List (Key × ME)) : Prop where
  ex : ∃ trs, PPs X pos keys vals trs ∧ ∀ σ H (Q : List (V × V) → Hp → Prop) ρ m β, RE X.K β H ρ σ → RM X.K β H m →
    Post X W (mPrs fs ρ m) β H σ (fun β' H' d v => RKs X.K β' H' d v) (fun kvs H' => Q (kvs.map fun kv => (kV kv.1, kv.2)) H') → tPairs trs σ H Q
  l1 : keys.length = fs.length
  l2 : vals.length = fs.length
  so : keys.all (·.isSome) = true
theorem jvs_nil : JVs X W pos [] [] [] := by with_unfolding_all exact (⟨⟨[], pps_nil, fun σ H Q ρ m β hE hM p => p.ok hM .nil⟩, rfl, rfl, rfl⟩)
theorem jvs_cons {k v : Expr} {q : Key} {f : ME} {ks : List (Option Expr)} {vs : List Expr} {fs : List (Key × ME)} (hk : PE X k (tC (kV q))) (hv : JE X W v f) (h : JVs X W pos ks vs fs) : JVs X W pos (some k :: ks) (v :: vs) ((q, f) :: fs) := by with_unfolding_all
  obtain ⟨⟨trs, a, b⟩, l1, l2, so⟩ := h
  refine ⟨⟨_, pps_cons hk hv.run a, fun σ H Q ρ m β hE hM p => ⟨ρ, m, β, hE, hM, p.bind fun d m1 x H1 β1 _ e1 M1 V1 p1 => b σ H1 _ ρ m1 β1 (hE.ext hM e1) M1 (p1.bind fun l m2 kvs H2 β2 _ e2 M2 V2 p2 => ?_)⟩⟩, by simp [l1], by simp [l2], by simpa using so⟩
  exact p2.ok M2 (.cons (V1.ext M1 e2) V2)
def foldE (acc l : List (Key × MV)) : List (Key × MV) := l.foldl (fun acc kv => putM acc kv.1 kv.2) acc
theorem RKs.mergeE {l : List (Key × MV)} {more : List (Key × V)} (z : RKs K β H l more) : ∀ {acc : List (Key × MV)} {vs : List (Key × V)}, RKs K β H acc vs → RKs K β H (foldE acc l) (mergeK vs more) := by
  induction z with
  | nil => exact fun h => h
  | cons z r ih => exact fun h => ih (h.put z)
theorem mPrs_len {ρ : Env} : ∀ {fs : List (Key × ME)} {l : List (Key × MV)} {m m2 : Mem}, mPrs fs ρ m = .ok l m2 → l.length = fs.length
  | [], _, _, _, h => by cases h; rfl
  | (k, f) :: r, l, m, m2, h => by
    unfold mPrs at h
    cases h1 : f ρ m with
    | ok d m3 =>
      rw [h1] at h
      replace h : ((mPrs r ρ m3).bind fun l m2 => .ok ((k, d) :: l) m2) = .ok l m2 := h
      cases h2 : mPrs r ρ m3 with
      | ok l' m4 =>
        rw [h2] at h
        replace h : (Re.ok ((k, d) :: l') m4) = .ok l m2 := h
        cases h
        simp [mPrs_len h2]
      | ex x m4 => rw [h2] at h; cases h
      | stuck => rw [h2] at h; cases h
    | ex x m3 => rw [h1] at h; cases h
    | stuck => rw [h1] at h; cases h
def mDispE (fs : List (Key × ME)) : ME := fun ρ m => (mPrs fs ρ (m ++ [.dct []])).bind fun l m2 => match m2[m.length]? with
  | some (.dct []) => .ok (.ref m.length) (m2.set m.length (.dct (foldE [] l)))
  | _ => .stuck
theorem je_dispE {keys : List (Option Expr)} {vals : List Expr} {fs : List (Key × ME)} (h : JVs X W pos keys vals fs) (h0 : keys ≠ []) (h15 : keys.length ≤ 15) : JE X W (.Dict keys vals pos) (mDispE fs) := by with_unfolding_all
  obtain ⟨⟨trs, a, b⟩, l1, l2, so⟩ := h
  refine ⟨pe_imp (pe_disp a so (l1.trans l2.symm) h0 h15) fun σ H Q ⟨ρ, m, β, hE, hM, p⟩ => fun q hq => ?_⟩
  have eE : Ext β H (β ++ [q]) (upd H q (.dK [])) := Ext.push hq
  have M1 : RM X.K (β ++ [q]) (upd H q (.dK [])) (m ++ [.dct []]) := hM.push hq ⟨[], upd_same, .nil⟩
  refine b σ _ _ ρ (m ++ [.dct []]) (β ++ [q]) (hE.ext hM eE) M1 ?_
  have p' := Post.later p eE
  refine p'.bind fun l m2 kvs H2 β2 hrun e2 M2 V2 p2 => ?_
  split at p2
  · rename_i hm
    have hb : β2[m.length]? = some q := e2.get (by rw [← hM.len]; simp)
    obtain ⟨vs, z1, z2⟩ := M2.ob _ _ _ hm hb
    cases z2
    have hl : kvs.length ≤ 15 := by with_unfolding_all
      rw [← V2.length]
      have := mPrs_len hrun
      rw [this, ← l1]; exact h15
    refine ⟨z1, kvs, rfl, hl, ?_⟩
    have eW : Ext β2 H2 β2 (upd H2 q (.dK (mergeK [] kvs))) := Ext.wr (List.mem_of_getElem? hb)
    exact p2 (.ref q) _ β2 eW (M2.wr hb ⟨_, upd_same, (RKs.mergeE V2 .nil).ext M2 eW⟩) (.ref hb)
  · exact p2.not_stuck
end
section
variable {m : Mem} {ρ : Env} {E : Exn → Mem → Prop} {Q : MV → Mem → Prop}
@[simp] theorem W_insert {n : Nat} {e : MV} {i : Int} : W (gInsert (.ref n) [.int i, e] m) Q E = match m[n]? with | some (.lst l) => (l.length < sizeLine ∧ 0 ≤ i ∧ i < 2 ^ 63) ∧ Q .non (m.set n (.lst (l.take i.toNat ++ [e] ++ l.drop i.toNat))) | _ => False := by with_unfolding_all
  unfold gInsert
  cases h : m[n]? with
  | none => simp [mutOf, h]
  | some o =>
    cases o with
    | lst l =>
      simp only [mutOf, h]
      split
      · rename_i z; exact propext ⟨fun q => ⟨z, q⟩, fun q => q.2⟩
      · rename_i z; exact propext ⟨fun q => q.elim, fun q => z q.1⟩
    | _ => simp [mutOf, h]
@[simp] theorem W_prs0 {Q : List (Key × MV) → Mem → Prop} : W (mPrs [] ρ m) Q E = Q [] m := by with_unfolding_all rfl
@[simp] theorem W_prs {k : Key} {f : ME} {r : List (Key × ME)} {Q : List (Key × MV) → Mem → Prop} : W (mPrs ((k, f) :: r) ρ m) Q E = W (f ρ m) (fun d m1 => W (mPrs r ρ m1) (fun l m2 => Q ((k, d) :: l) m2) E) E := by with_unfolding_all
  show W ((f ρ m).bind _) Q E = _
  rw [W_bind]
  congr 1
  funext d m1
  rw [W_bind]
  rfl
@[simp] theorem W_dispE {fs : List (Key × ME)} : W (mDispE fs ρ m) Q E = W (mPrs fs ρ (m ++ [.dct []])) (fun l m2 => match m2[m.length]? with | some (.dct []) => Q (.ref m.length) (m2.set m.length (.dct (foldE [] l))) | _ => False) E := by with_unfolding_all
  unfold mDispE
  rw [W_bind]
  congr 1
  funext l m2
  split <;> rfl
@[simp] theorem tkOf_int {i : Int} : tkOf (.int i) = none := rfl
@[simp] theorem tkOf_str {i : Str} : tkOf (.str i) = none := rfl
@[simp] theorem gItemN_int {a : MV} {i : Int} : gItemN a (.int i) m = gItem a (.int i) m := by simp [gItemN]
@[simp] theorem gItemN_str {a : MV} {i : Str} : gItemN a (.str i) m = gItem a (.str i) m := by simp [gItemN]
@[simp] theorem nOf_ref {n : Nat} : nOf m (.ref n) = match m[n]? with | some (.dN l) => some (n, l) | some (.dct []) => some (n, []) | _ => none := rfl
theorem W_itemN {n : Nat} {l l' : List (MV × MV)} {n' : Nat} {d e : MV} {k : NestedKey} (h : nOf m (.ref n) = some (n', l)) (hk : tkOf d = some k) (hv : valN l k = some e) (q : Q e m) : W (gItemN (.ref n) d m) Q E := by with_unfolding_all
  have h2 : isN m (.ref n) = true := by with_unfolding_all unfold isN; rw [h]; rfl
  unfold gItemN
  rw [if_pos ⟨h2, by rw [hk]; rfl⟩]
  unfold gNGet
  rw [h, hk]
  simp only [hv]
  exact q
@[simp] theorem W_nget2 {fd fy fx : ME} : W (mNGet2 fd fy fx ρ m) Q E = W (fd ρ m) (fun d m => if isN m d = true then W (fy ρ m) (fun y m => W (fx ρ m) (fun x m => W (gNGet2 d y x m) Q E) E) E else False) E := by with_unfolding_all
  show W ((fd ρ m).bind _) Q E = _
  rw [W_bind]
  congr 1
  funext d m1
  split
  · rw [W_bind]
    congr 1
    funext y m2
    rw [W_bind]
  · rfl
theorem W_gNGet2 {n n' : Nat} {l : List (MV × MV)} {d x : MV} {k : NestedKey} (h : nOf m (.ref n) = some (n', l)) (hk : tkOf d = some k) (q : Q ((valN l k).getD x) m) : W (gNGet2 (.ref n) d x m) Q E := by with_unfolding_all
  unfold gNGet2
  rw [h, hk]
  exact q
@[simp] theorem W_nput {fo fi fv : ME} {Q : Fl → Mem → Prop} : W (mNPut fo fi fv ρ m) Q E = W (fv ρ m) (fun v m1 => W (fo ρ m1) (fun d m2 => W (fi ρ m2) (fun k m3 => match nOf m3 d, tkOf k with
    | some (n, l), some q => l.length < sizeLine ∧ Q (.nx ρ) (m3.set n (.dN (putN l q k v)))
    | _, _ => False) (fun x m => Q (.ex x ρ) m)) (fun x m => Q (.ex x ρ) m)) (fun x m => Q (.ex x ρ) m) := by with_unfolding_all
  unfold mNPut
  cases h1 : fv ρ m with
  | stuck => rfl
  | ex x m1 => rfl
  | ok v m1 =>
    show W (onE ρ (fo ρ m1) _) Q E = W (fo ρ m1) _ _
    cases h2 : fo ρ m1 with
    | stuck => rfl
    | ex x m1 => rfl
    | ok d m2 =>
      show W (onE ρ (fi ρ m2) _) Q E = W (fi ρ m2) _ _
      cases h3 : fi ρ m2 with
      | stuck => rfl
      | ex x m1 => rfl
      | ok k m3 =>
        show W (match nOf m3 d, tkOf k with | some (n, l), some q => _ | _, _ => _) Q E = (match nOf m3 d, tkOf k with | some (n, l), some q => _ | _, _ => _)
        cases nOf m3 d with
        | none => rfl
        | some nl =>
          cases tkOf k with
          | none => rfl
          | some q =>
            obtain ⟨n, l⟩ := nl
            dsimp only
            split
            · rename_i z; exact propext ⟨fun q => ⟨z, q⟩, fun q => q.2⟩
            · rename_i z; exact propext ⟨fun q => q.elim, fun q => absurd q.1 z⟩
end
end MI
namespace MI
open PySem L2
/-- the end of a law whose small world knows the world -/
theorem walkMW (nm : World → Nms) {l : PySem.W.OpenLaw} {k : Nat} {q : Program} {loose : List Str} {XP : (Str → Option Value) → Heap → Prop} {YP : World → Heap → Prop} {d : DefRec} {K : Params → PySem.W.Frag} {x : Str} {F : MF}
    (ht : ∀ (w : World) (K : PySem.W.Frag), (nm w).tb K = []) (hn : l.most = some 63) (hdf : d.params.defaults = []) (hr : Room k callerA) (hY : ∀ (w : World) (h : Heap), YP w h → (K w.params).In h)
    (G : ∀ (w : World) (mg : Str → Option Value) (fa : Addr) (h : Heap), (K w.params).In h → h.Ns mainGlobals mg → mg d.name = some (.ref fa) →
      ∃ fd : FuncData, (∀ (s : Shared) (u : Value), BindsTo s fd ⟨[u], []⟩ [(x, u)]) ∧ ∀ base : Heap, FnOk l.prog w (K w.params) mg base (L2.CX l.prog w) k fa fd [x] (@spM (nm w) (K w.params) 1 F))
    (hF : ∀ ns : List Int, ns.length ≤ 63 → (∀ z ∈ ns, Builtin.Int.intBits z ≤ 1048576) → ∃ m', F [.kl (ns.map .int)] [] = .ok (.bl true) m') :
    PySem.W.WalkO q loose XP YP l.row.toRowW d [] (fun f vs => PySem.call f vs) :=
  walk_ofB (n := 63) (k := k) (x := x) (CX := fun w => L2.CX l.prog w) (sp := fun w => @spM (nm w) (K w.params) 1 F) hn (by decide) hdf hr hY (fun w mg fa h X N e => let ⟨fd, b, f⟩ := G w mg fa h X N e; ⟨fd, b, fun base _ _ => f base⟩)
    (fun w H a ns hl hb hO hS => @spM_law (nm w) _ _ _ _ _ (ht w _) hO hS (hF ns hl hb)) fun w H s e s' z => by with_unfolding_all
      obtain ⟨_, _, _, _, _, _, _, _, _, _, _, _, z⟩ := z
      exact z
end MI
namespace MI
open PySem L2
variable [Nms]
section
variable {X : Cx} {W : WX} {pos : Pos} {K : PySem.W.Frag} {β : List Addr} {H : Hp} {m : Mem}
def zipd (l k : List MV) : List MV := l.zipWith (fun x y => .tup [x, y]) k
theorem zipd_get {l k : List MV} {i : Nat} {d : MV} (h : (zipd l k)[i]? = some d) : ∃ x y, l[i]? = some x ∧ k[i]? = some y ∧ d = .tup [x, y] := by
  unfold zipd at h
  rw [List.getElem?_zipWith] at h
  cases e1 : l[i]? with
  | none => rw [e1] at h; cases h
  | some x =>
    cases e2 : k[i]? with
    | none => rw [e1, e2] at h; cases h
    | some y => rw [e1, e2] at h; exact ⟨x, y, rfl, rfl, (Option.some.inj h).symm⟩
def zipOf : List MV → Mem → Re IterM
  | [.tup l, .tup k], m => if l.length = k.length then .ok ⟨zipd l k, fun _ => True⟩ m else .stuck
  | _, _ => .stuck
def mZip (g : MA) : MI' := fun ρ m => (g ρ m).bind zipOf
theorem walkM_zipT {a b : Addr} {l k : List MV} {vs us : List V} (M : RM K β H m) (h : SqT K H a vs) (h' : SqT K H b us) (hl : l.length = k.length) (r : RVs K β H l vs) (r' : RVs K β H k us) : WalkM K β H ⟨zipd l k, fun _ => True⟩ (RZ.ItzT K a b) := by
  have l1 := r.length
  have l2 := r'.length
  refine ⟨fun H1 => SqT K H1 a vs ∧ SqT K H1 b us, fun i H1 x H2 => ∃ T y z, x = .ref T ∧ H1 T = none ∧ H2 = upd H1 T (.tup [y, z]) ∧ vs[i]? = some y ∧ us[i]? = some z, ⟨fun i H1 hi g => ?_, fun H1 g => ?_, fun i H1 x H2 _ g y => ?_⟩, fun β1 H1 m1 e M1 _ => ⟨M.sqt e h, M.sqt e h'⟩, fun i H1 x H2 β1 m1 d e M1 _ hi y => ?_⟩
  · have hi : i < min l.length k.length := by simpa [zipd] using hi
    have i1 : i < vs.length := by omega
    have i2 : i < us.length := by omega
    exact ⟨vs, us, vs[i], us[i], g.1, g.2, by simp [i1], by simp [i2]⟩
  · exact ⟨vs, us, g.1, g.2, .inl (by simp [zipd]; omega)⟩
  · obtain ⟨T, x', z', q1, q2, q3, q4, q5⟩ := y
    exact ⟨T, x', z', q1, q2, q3, q4 vs g.1, q5 us g.2⟩
  · obtain ⟨T, y, z, rfl, q2, rfl, q4, q5⟩ := y
    obtain ⟨x, w, hx, hw, rfl⟩ := zipd_get hi
    obtain ⟨v, h1, h2⟩ := (r.ext M e).get hx
    rw [h1] at q4; cases q4
    obtain ⟨u, h3, h4⟩ := (r'.ext M e).get hw
    rw [h3] at q5; cases q5
    exact lay_pair M1 h2 h4 q2
theorem ji_zip {e e2 : Expr} {g : MA} {p tpos : Pos} {elts : List Expr} {kk : Nat} (hm : X.mg "zip" = none) (ha : JA X W [e, e2] g) (hg : Gl X "zip" := by with_unfolding_all rfl)
    (hs : starEach [e, e2] X.env = (false, eval e X.env) :: starEach [e2] X.env := by with_unfolding_all rfl) (hpl : (backTo pos (starEach [e2] X.env)).any (·.1) = false := by with_unfolding_all rfl) : JI X W (.Tuple elts kk tpos) (.Call (.Name "zip" p) [e, e2] [] pos) (mZip g) := by with_unfolding_all
  refine ⟨pi_imp (RZ.pi_zipA hg hm ha.run hs hpl) fun σ H R ⟨ρ, m, β, hE, hM, p⟩ => ⟨ρ, m, β, hE, hM, ?_⟩⟩
  have p : PostI X W ((g ρ m).bind zipOf) β H σ R := p
  cases hf : g ρ m with
  | stuck => rw [hf] at p; exact p.elim
  | ex x m1 => rw [hf] at p; exact p
  | ok ds m1 =>
    rw [hf] at p
    intro vs H1 β1 e1 M1 V1
    have p : PostI X W (zipOf ds m1) β H σ R := p
    unfold zipOf at p
    split at p
    · rename_i l k
      split at p
      · rename_i hl
        cases V1 with
        | cons V1 V2 =>
          cases V2 with
          | cons V2 V3 =>
            cases V3
            cases V1 with
            | tup h1 h2 =>
              cases V2 with
              | tup h3 h4 => exact ⟨_, _, _, _, rfl, .inr ⟨h1, h3, p _ _ _ e1 M1 (walkM_zipT M1 h1 h3 hl h2 h4)⟩⟩
      · exact p.elim
    · exact p.elim
end
end MI
namespace MI
open PySem L2
variable [Nms]
/-- a tuple of the module, without a dict of its own -/
structure TupC (K : PySem.W.Frag) (mg : Str → Option Value) (x : Str) : Prop where
  ex : ∃ (a : Addr) (o : Obj), mg x = some (.ref a) ∧ K.lookup a = some o ∧ o.cls = .type "tuple" ∧ o.dict = none
def tupB (K : PySem.W.Frag) (u : Value) : Bool := match u with
  | .ref a => match K.lookup a with
    | some ⟨.type c, none, _, _⟩ => c == "tuple"
    | _ => false
  | _ => false
theorem tupC_mk {K : PySem.W.Frag} {h : Heap} {mg : Str → Option Value} {x : Str} {u : Value} (X : K.In h) (G : h.Ns mainGlobals mg) (a : PySem.W.nsIn K mainGlobals x = some (some u)) (e : tupB K u = true) : TupC K mg x := by with_unfolding_all
  unfold tupB at e
  split at e
  · rename_i b
    split at e
    · rename_i _ c d s hl
      rw [beq_iff_eq] at e
      subst e
      exact ⟨b, _, PySem.W.mg_of X G a, hl, rfl, rfl⟩
    · cases e
  · cases e
section
variable {X : Cx} {W : WX} {pos : Pos} {K : PySem.W.Frag} {β : List Addr} {H : Hp} {m : Mem}
def mIdxK (ss : List Str) (f : ME) : ME := fun ρ m => (f ρ m).bind fun d m1 => match d with
  | .str z => if z ∈ ss then .ok (.int (ss.idxOf z : Nat)) m1 else .stuck
  | _ => .stuck
theorem rv73_strs : ∀ {ss : List Str} {vs : List V}, RVs K β H (ss.map .str) vs → vs = ss.map V.str
  | [], _, .nil => rfl
  | s :: ss, _, .cons h r => by
    cases h
    rw [rv73_strs r]
    rfl
theorem idx_first {ss : List Str} {z : Str} : ∀ {j : Nat}, j < ss.idxOf z → ss[j]? ≠ some z := by
  induction ss with
  | nil => intro j h; simp at h
  | cons s ss ih =>
    intro j h
    by_cases e : s = z
    · subst e; simp at h
    · rw [List.idxOf_cons, beq_eq_false_iff_ne.mpr e] at h
      simp only [cond_false] at h
      cases j with
      | zero => simpa using e
      | succ j => simpa using ih (by omega)
theorem idx_at {ss : List Str} {z : Str} (h : z ∈ ss) : ss[ss.idxOf z]? = some z := by
  have := List.idxOf_lt_length_of_mem h
  rw [List.getElem?_eq_getElem this, List.getElem_idxOf this]
theorem je_idxK {x : Str} {ss : List Str} {e : Expr} {f : ME} {p apos : Pos} (c : Con X.K X.mg x (.tup (ss.map .str))) (t : TupC X.K X.mg x) (he : JE X W e f) (hg : Gl X x := by with_unfolding_all rfl) (hd : (x == ("__debug__" : Str)) = false := by with_unfolding_all decide)
    (h1 : attributeBase (.Name x p) "index" X.env (eval (.Name x p) X.env) = eval (.Name x p) X.env := by with_unfolding_all rfl) (h2 : (((((backTo pos (starEach [e] X.env)).all fun x => !x.fst) && (backToKw pos (keywordEach [] X.env)).all fun x => x.fst.isSome) && decide (([e].length + ([] : List Keyword).length + if ([] : List Keyword).isEmpty = true then 0 else 1) < 30)) = true) := by with_unfolding_all rfl) (h3 : (apos.endLine == pos.line) = true := by with_unfolding_all rfl)
    (h4 : starEach [e] X.env = (false, eval e X.env) :: starEach [] X.env := by with_unfolding_all rfl) (h5 : (backTo pos (starEach [] X.env)).any (·.1) = false := by with_unfolding_all rfl) : JE X W (.Call (.Attribute (.Name x p) "index" apos) [e] [] pos) (mIdxK ss f) := by with_unfolding_all
  obtain ⟨u, v, c1, c2, c3⟩ := c.ex
  obtain ⟨a, o, t1, t2, t3, t4⟩ := t.ex
  rw [t1] at c1
  cases c1
  have hv : v = .ref a := by with_unfolding_all
    cases c3 [] (fun _ => none) with
    | tup => cases c2; rfl
  subst hv
  have hS : ∀ H : Hp, SqT X.K H a (ss.map V.str) := fun H => by with_unfolding_all
    cases c3 [] (fun _ => none) with
    | tup q r =>
      rcases q with (q | ⟨_, q⟩) | q
      · cases q
      · cases q
      · rw [rv73_strs r] at q; exact .inr q
  have ja : JA X W [e] (mCons f mNil) := ja_cons he ja_nil (he := h4)
  refine ⟨pe_imp (pe_bm PySem.F.plainAttrs_tuple PySem.F.slot_tuple_index PySem.F.type_tuple_index mt_tup_index (pe_glob hg t1 c2 hd) ja.run h1 h2 h3 h4 h5) fun σ H Q ⟨ρ, m, β, hE, hM, q⟩ => ⟨.inr (.inl ⟨rfl, o, t2, t3, t4⟩), ρ, m, β, hE, hM, ?_⟩⟩
  have q : Post X W ((f ρ m).bind fun d m1 => match d with
    | .str z => if z ∈ ss then .ok (.int (ss.idxOf z : Nat)) m1 else .stuck
    | _ => .stuck) β H σ (fun β' H' d v => RV X.K β' H' d v) Q := q
  show Post X W ((f ρ m).bind fun d m1 => .ok [d] m1) β H σ _ _
  cases hf : f ρ m with
  | stuck => rw [hf] at q; exact q.elim
  | ex y m1 => rw [hf] at q; exact q
  | ok d m1 =>
    rw [hf] at q
    intro vs H1 β1 e1 M1 V1
    cases V1 with
    | cons V1 V2 =>
      cases V2
      have q : Post X W (match d with
        | .str z => if z ∈ ss then .ok (.int (ss.idxOf z : Nat)) m1 else .stuck
        | _ => .stuck) β H σ (fun β' H' d v => RV X.K β' H' d v) Q := q
      cases V1 with
      | str z =>
        by_cases hz : z ∈ ss
        · have q : Post X W (if z ∈ ss then .ok (.int (ss.idxOf z : Nat)) m1 else .stuck) β H σ (fun β' H' d v => RV X.K β' H' d v) Q := q
          rw [if_pos hz] at q
          exact ⟨a, ss, z, ss.idxOf z, rfl, rfl, hS H1, idx_at hz, fun j hj => idx_first hj, q _ _ _ e1 M1 (.int _)⟩
        · have q : Post X W (if z ∈ ss then .ok (.int (ss.idxOf z : Nat)) m1 else .stuck) β H σ (fun β' H' d v => RV X.K β' H' d v) Q := q
          rw [if_neg hz] at q
          exact q.elim
      | _ => exact q.elim
end
section
variable {m : Mem} {ρ : Env} {E : Exn → Mem → Prop} {Q : MV → Mem → Prop}
@[simp] theorem W_idxK {ss : List Str} {f : ME} : W (mIdxK ss f ρ m) Q E = W (f ρ m) (fun d m1 => match d with | .str z => z ∈ ss ∧ Q (.int (ss.idxOf z : Nat)) m1 | _ => False) E := by with_unfolding_all
  unfold mIdxK
  rw [W_bind]
  congr 1
  funext d m1
  cases d with
  | str z =>
    dsimp only
    by_cases h : z ∈ ss
    · rw [if_pos h]; exact propext ⟨fun q => ⟨h, q⟩, fun q => q.2⟩
    · rw [if_neg h]; exact propext ⟨fun q => q.elim, fun q => h q.1⟩
  | _ => rfl
end
end MI
set_option maxHeartbeats 4000000
namespace K51
open PySem L2 MI NdefX
abbrev row := PySem.Challenge.pw_keptops_k51_machines
def topS (i : Nat) : Stmt := row.main.body.getD i (.Pass ⟨0, 0, 0, 0⟩)
inductive Fnm where
  | is_integer | is_name | held_object | is_call | is_history | check_history | check_machine | u_is_machine_state | u_is_number | u_check_tree | u_is_tuple_of | u_check_end | u_is_outcome | u_are_operands | u_is_operand | u_is_object | run_machine | l_source | l_draw | l_pick | l_value_in | l_kind_in | l_tree_end | l_follow | l_object | l_operand | l_end | l_tree | l_machine | l_word | l_bounds | law | i_Room | i_MachineCall | m_MachineCall_value | m_MachineCall_object_at | m_MachineCall_end_of
  deriving DecidableEq
abbrev c_SIGNS : MV := .tup [.str "<", .str "<=", .str ">", .str ">=", .str "==", .str "!="]
abbrev c_CONSTANTS : MV := .tup [.str "none", .str "true", .str "false"]
abbrev c_BARRED : MV := .tup [.str "and", .str "or", .str "not", .str "if", .str "else", .str "is", .str "none", .str "true", .str "false", .str "set", .str "give", .str "try", .str "except", .str "end", .str "then", .str "program", .str "keep", .str "self"]
abbrev c_MOST_LETTERS : MV := .int 8
abbrev c_MOST_OPERANDS : MV := .int 3
abbrev c_MOST_PLACES : MV := .int 6
abbrev c_KINDS : MV := .tup [.str "t", .str "f", .str "n"]
abbrev c_ANSWERS : MV := .tup [.str "t", .str "f", .str "n", .str "x"]
abbrev c_MOST_PARAMETERS : MV := .int 2
abbrev c_MOST_STATES : MV := .int 2000
abbrev c_MOST_HELD : MV := .int 8
abbrev c_MOST_TREE_LEVELS : MV := .int 30
def p_InvalidHistory (y : Str) : Option Bool := ([("OperandError", false), ("InvalidHistory", true), ("InvalidMachine", false)] : List (Str × Bool)).lookup y
def p_InvalidMachine (y : Str) : Option Bool := ([("OperandError", false), ("InvalidHistory", false), ("InvalidMachine", true)] : List (Str × Bool)).lookup y
def p_OperandError (y : Str) : Option Bool := ([("OperandError", true), ("InvalidHistory", true), ("InvalidMachine", true)] : List (Str × Bool)).lookup y
def pf_answers (y : Str) : Bool := y == "MachineCall"
def pf_events (y : Str) : Bool := y == "MachineCall"
def pf_number (y : Str) : Bool := y == "MachineCall"
def pf_objects (y : Str) : Bool := y == "MachineCall"
def pf_parameters (y : Str) : Bool := y == "Room"
def pf_places (y : Str) : Bool := y == "Room"
def pf_states (y : Str) : Bool := y == "Room"
def nms (w : World) : Nms where
  nm := fun l c => match ([] : List ((Nat × Nat) × Str)).lookup (l, c) with
    | some x => x
    | none => ""
  tb := fun K => ([] : List Str).filterMap fun x => (PySem.W.tabIn K x).map (·.2)
  wd := w
variable [Nms]
structure Txt (K : PySem.W.Frag) (w : World) (mg : Str → Option Value) : Prop where
  wd : w = Nms.wd
  b_abs : mg "abs" = none
  b_all : mg "all" = none
  b_bool : mg "bool" = none
  b_enumerate : mg "enumerate" = none
  b_int : mg "int" = none
  b_isinstance : mg "isinstance" = none
  b_len : mg "len" = none
  b_list : mg "list" = none
  b_range : mg "range" = none
  b_str : mg "str" = none
  b_tuple : mg "tuple" = none
  b_zip : mg "zip" = none
  c_ANSWERS : Con K mg "ANSWERS" c_ANSWERS
  c_BARRED : Con K mg "BARRED" c_BARRED
  c_CONSTANTS : Con K mg "CONSTANTS" c_CONSTANTS
  c_KINDS : Con K mg "KINDS" c_KINDS
  c_MOST_HELD : Con K mg "MOST_HELD" c_MOST_HELD
  c_MOST_LETTERS : Con K mg "MOST_LETTERS" c_MOST_LETTERS
  c_MOST_OPERANDS : Con K mg "MOST_OPERANDS" c_MOST_OPERANDS
  c_MOST_PARAMETERS : Con K mg "MOST_PARAMETERS" c_MOST_PARAMETERS
  c_MOST_PLACES : Con K mg "MOST_PLACES" c_MOST_PLACES
  c_MOST_STATES : Con K mg "MOST_STATES" c_MOST_STATES
  c_MOST_TREE_LEVELS : Con K mg "MOST_TREE_LEVELS" c_MOST_TREE_LEVELS
  c_SIGNS : Con K mg "SIGNS" c_SIGNS
  u_KINDS : TupC K mg "KINDS"
  x_InvalidHistory : ExF K mg "InvalidHistory"
  x_InvalidMachine : ExF K mg "InvalidMachine"
  h_OperandError : HndN K mg "OperandError" p_OperandError
  i_InvalidHistory : IsxN K mg "InvalidHistory" p_InvalidHistory
  i_InvalidMachine : IsxN K mg "InvalidMachine" p_InvalidMachine
  f_answers : FldN K "answers" pf_answers
  f_events : FldN K "events" pf_events
  f_number : FldN K "number" pf_number
  f_objects : FldN K "objects" pf_objects
  f_parameters : FldN K "parameters" pf_parameters
  f_places : FldN K "places" pf_places
  f_states : FldN K "states" pf_states
structure Tabl where
  f : Fnm → MF
  c : Fnm → (Nat → MF) → MF
abbrev s_is_integer : Stmt := topS 11
theorem sc_is_integer : FnScope ["value"] ["value"] (defScope s_is_integer) := ⟨rfl, rfl, rfl, by decide +kernel, rfl, by decide +kernel, by decide +kernel⟩
noncomputable def b_is_integer (ck : Tabl) : MS := (mRet (mAnd (mIsi "int" (mVar 0)) (mNot (mIsi "bool" (mVar 0)))))
noncomputable def f_is_integer (ck : Tabl) : MF := fun ds m => endOf (b_is_integer ck (startM 1 ds) m)
theorem ok_is_integer {M : Mode} {P : Program} {w : World} {K : PySem.W.Frag} {mg : Str → Option Value} {base : Heap} {k : Nat} {f : Addr} {fd : FuncData} {ck : Tabl} (Fu : Fun K "is_integer" "is_integer" s_is_integer f fd) (T : Txt K w mg) :
    FnOk P w K mg base (M.CX P w) (lv k + 1) f fd ["value"] (spM K 1 (f_is_integer ck)) :=
  have nd := sc_is_integer.nd
  fnx_ok (M := M) (g := b_is_integer ck) Fu sc_is_integer rfl (fun _ _ _ => rfl) fun cdv A outer s H E hr W tk hp =>
    (jb_one (js_ret (je_and (je_isi "int" (j_var 0) T.b_isinstance T.b_int (by decide +kernel)) (je_one (je_not (je_isi "bool" (j_var 0) T.b_isinstance T.b_bool (by decide +kernel)))))))
abbrev s_is_name : Stmt := topS 12
theorem sc_is_name : FnScope ["value", "letter"] ["value"] (defScope s_is_name) := ⟨rfl, rfl, rfl, by decide +kernel, rfl, by decide +kernel, by decide +kernel⟩
noncomputable def b_is_name (ck : Tabl) : MS := (mSeq (mIfS (mOrT (mNotT (mTru (mIsi "str" (mVar 0)))) (mNotT (mB (mChain gLeS gLeS (mC (.int 1)) (mCall gLen (mCons (mVar 0) mNil)) (mC c_MOST_LETTERS)))))
    (mRet (mC (.bl false)))
    mSkip)
    (mRet (mAnd (mBin (gInB true) (mVar 0) (mC c_BARRED)) (mCall gAll (mCons (mLc (mAnyI (mVar 0)) (ngName 1) mYes (mChain gLeS gLeS (mC (.str "a")) (mVar 1) (mC (.str "z"))) [1]) mNil)))))
noncomputable def f_is_name (ck : Tabl) : MF := fun ds m => endOf (b_is_name ck (startM 2 ds) m)
theorem ok_is_name {M : Mode} {P : Program} {w : World} {K : PySem.W.Frag} {mg : Str → Option Value} {base : Heap} {k : Nat} {f : Addr} {fd : FuncData} {ck : Tabl} (Fu : Fun K "is_name" "is_name" s_is_name f fd) (T : Txt K w mg) :
    FnOk P w K mg base (M.CX P w) (lv k + 1) f fd ["value"] (spM K 1 (f_is_name ck)) :=
  have nd := sc_is_name.nd
  fnx_ok (M := M) (g := b_is_name ck) Fu sc_is_name rfl (fun _ _ _ => rfl) fun cdv A outer s H E hr W tk hp =>
    (jb_cons (js_if (jw_or (jt_not (jt_tru (je_isi "str" (j_var 0) T.b_isinstance T.b_str (by decide +kernel)))) (jw_or1 (jt_not (jt_chain op_leA op_leA om_leA om_leA j_int (je_callB cr_len cm_len T.b_len PySem.boot_len (ja_cons (j_var 0) ja_nil)) (j_con T.c_MOST_LETTERS))))).jt
    (jb_one (js_ret j_bl))
    jb_nil)
    (jb_one (js_ret (je_and (je_ninB (hu1 hr) (hu65 hr) (j_var 0) (j_con T.c_BARRED)) (je_one (je_callB (cr_all rfl) cm_all T.b_all (by decide +kernel) (ja_cons (je_lc [("letter", 1)] rfl rfl nd (ji_any (j_var 0)) (blkOk_by (N := ["value", "letter"]) (sc := defScope s_is_name) (by decide +kernel)) (fun _ _ _ _ _ => (jn_name 1 nd)) (fun _ _ _ _ _ => jts_nil) (fun _ _ _ _ _ => (je_chain op_leA op_leA om_leA om_leA j_str (j_var 1) j_str)) (hgs_name)) ja_nil)))))))
abbrev s_held_object : Stmt := topS 16
theorem sc_held_object : FnScope ["source", "kind"] ["source", "kind"] (defScope s_held_object) := ⟨rfl, rfl, rfl, by decide +kernel, rfl, by decide +kernel, by decide +kernel⟩
noncomputable def b_held_object (ck : Tabl) : MS := (mSeq (mIfS (mB (mBin (gEqA false) (mVar 1) (mC (.str "n"))))
    (mRet (mTup (mCons (mTup (mCons (mC (.str "none")) mNil)) (mCons (mC (.bl false)) mNil))))
    mSkip)
    (mRet (mTup (mCons (mTup (mCons (mC (.str "object")) (mCons (mVar 0) mNil))) (mCons (mBin (gEqA false) (mVar 1) (mC (.str "t"))) mNil)))))
noncomputable def f_held_object (ck : Tabl) : MF := fun ds m => endOf (b_held_object ck (startM 2 ds) m)
theorem ok_held_object {M : Mode} {P : Program} {w : World} {K : PySem.W.Frag} {mg : Str → Option Value} {base : Heap} {k : Nat} {f : Addr} {fd : FuncData} {ck : Tabl} (Fu : Fun K "held_object" "held_object" s_held_object f fd) (T : Txt K w mg) :
    FnOk P w K mg base (M.CX P w) (lv k + 1) f fd ["source", "kind"] (spM K 2 (f_held_object ck)) :=
  have nd := sc_held_object.nd
  fnx_ok (M := M) (g := b_held_object ck) Fu sc_held_object rfl (fun _ _ _ => rfl) fun cdv A outer s H E hr W tk hp =>
    (jb_cons (js_if (jt_cmp (op_eqA (hu64 hr)) om_eqA (j_var 1) j_str)
    (jb_one (js_ret (je_tup (ja_cons (je_tup (ja_cons j_str ja_nil)) (ja_cons j_bl ja_nil)))))
    jb_nil)
    (jb_one (js_ret (je_tup (ja_cons (je_tup (ja_cons j_str (ja_cons (j_var 0) ja_nil))) (ja_cons (j_cmp (op_eqA (hu64 hr)) om_eqA (j_var 1) j_str) ja_nil))))))
abbrev s_is_call : Stmt := topS 19
theorem sc_is_call : FnScope ["value", "program", "kinds", "answers", "kind", "answer"] ["value", "program"] (defScope s_is_call) := ⟨rfl, rfl, rfl, by decide +kernel, rfl, by decide +kernel, by decide +kernel⟩
noncomputable def b_is_call (ck : Tabl) : MS := (mSeq (mIfS (mOrT (mNotT (mTru (mIsi "tuple" (mVar 0)))) (mB (mBin (gEqA true) (mCall gLen (mCons (mVar 0) mNil)) (mC (.int 2)))))
    (mRet (mC (.bl false)))
    mSkip)
    (mSeq (mAsg (mVar 0) (nTup 2 (nCons (nName 2) (nCons (nName 3) nNil))))
    (mSeq (mIfS (mOrT (mNotT (mTru (mIsi "tuple" (mVar 2)))) (mOrT (mB (mBin (gEqA true) (mCall gLen (mCons (mVar 2) mNil)) (mCall gLen (mCons (mBin gItem (mVar 1) (mC (.int 0))) mNil)))) (mNotT (mTru (mIsi "list" (mVar 3))))))
    (mRet (mC (.bl false)))
    mSkip)
    (mRet (mAnd (mCall gAll (mCons (mLc (mAnyI (mVar 2)) (ngName 4) mYes (mBin (gInB false) (mVar 4) (mC c_KINDS)) [4]) mNil)) (mCall gAll (mCons (mLc (mAnyI (mVar 3)) (ngName 5) mYes (mBin (gInB false) (mVar 5) (mC c_ANSWERS)) [5]) mNil)))))))
noncomputable def f_is_call (ck : Tabl) : MF := fun ds m => endOf (b_is_call ck (startM 6 ds) m)
theorem ok_is_call {M : Mode} {P : Program} {w : World} {K : PySem.W.Frag} {mg : Str → Option Value} {base : Heap} {k : Nat} {f : Addr} {fd : FuncData} {ck : Tabl} (Fu : Fun K "is_call" "is_call" s_is_call f fd) (T : Txt K w mg) :
    FnOk P w K mg base (M.CX P w) (lv k + 1) f fd ["value", "program"] (spM K 2 (f_is_call ck)) :=
  have nd := sc_is_call.nd
  fnx_ok (M := M) (g := b_is_call ck) Fu sc_is_call rfl (fun _ _ _ => rfl) fun cdv A outer s H E hr W tk hp =>
    (jb_cons (js_if (jw_or (jt_not (jt_tru (je_isi "tuple" (j_var 0) T.b_isinstance T.b_tuple (by decide +kernel)))) (jw_or1 (jt_cmp (op_neA (hu64 hr)) om_neA (je_callB cr_len cm_len T.b_len PySem.boot_len (ja_cons (j_var 0) ja_nil)) j_int))).jt
    (jb_one (js_ret j_bl))
    jb_nil)
    (jb_cons (js_asg (j_var 0) (jg_tup rfl (jgs_cons (jg_name 2 nd) (jgs_cons (jg_name 3 nd) jgs_nil))))
    (jb_cons (js_if (jw_or (jt_not (jt_tru (je_isi "tuple" (j_var 2) T.b_isinstance T.b_tuple (by decide +kernel)))) (jw_or (jt_cmp (op_neA (hu64 hr)) om_neA (je_callB cr_len cm_len T.b_len PySem.boot_len (ja_cons (j_var 2) ja_nil)) (je_callB cr_len cm_len T.b_len PySem.boot_len (ja_cons (je_item (hu1 hr) (j_var 1) j_int) ja_nil))) (jw_or1 (jt_not (jt_tru (je_isi "list" (j_var 3) T.b_isinstance T.b_list (by decide +kernel))))))).jt
    (jb_one (js_ret j_bl))
    jb_nil)
    (jb_one (js_ret (je_and (je_callB (cr_all rfl) cm_all T.b_all (by decide +kernel) (ja_cons (je_lc [("kind", 4)] rfl rfl nd (ji_any (j_var 2)) (blkOk_by (N := ["value", "program", "kinds", "answers", "kind", "answer"]) (sc := defScope s_is_call) (by decide +kernel)) (fun _ _ _ _ _ => (jn_name 4 nd)) (fun _ _ _ _ _ => jts_nil) (fun _ _ _ _ _ => (je_inB (hu1 hr) (hu65 hr) (j_var 4) (j_con T.c_KINDS))) (hgs_name)) ja_nil)) (je_one (je_callB (cr_all rfl) cm_all T.b_all (by decide +kernel) (ja_cons (je_lc [("answer", 5)] rfl rfl nd (ji_any (j_var 3)) (blkOk_by (N := ["value", "program", "kinds", "answers", "kind", "answer"]) (sc := defScope s_is_call) (by decide +kernel)) (fun _ _ _ _ _ => (jn_name 5 nd)) (fun _ _ _ _ _ => jts_nil) (fun _ _ _ _ _ => (je_inB (hu1 hr) (hu65 hr) (j_var 5) (j_con T.c_ANSWERS))) (hgs_name)) ja_nil)))))))))
abbrev s_is_history : Stmt := topS 20
theorem sc_is_history : FnScope ["program", "value", "call"] ["program", "value"] (defScope s_is_history) := ⟨rfl, rfl, rfl, by decide +kernel, rfl, by decide +kernel, by decide +kernel⟩
noncomputable def b_is_history (ck : Tabl) : MS := (mRet (mAnd (mIsi "list" (mVar 1)) (mCall gAll (mCons (mLc (mAnyI (mVar 1)) (ngName 2) mYes (mCall (ck.f .is_call) (mCons (mVar 2) (mCons (mVar 0) mNil))) [2]) mNil))))
noncomputable def f_is_history (ck : Tabl) : MF := fun ds m => endOf (b_is_history ck (startM 3 ds) m)
theorem ok_is_history {M : Mode} {P : Program} {w : World} {K : PySem.W.Frag} {mg : Str → Option Value} {base : Heap} {k : Nat} {f : Addr} {fd : FuncData} {ck : Tabl} (Fu : Fun K "is_history" "is_history" s_is_history f fd) (T : Txt K w mg) (I_is_call : FnX M P w K mg base (lv k) "is_call" 2 (ck.f .is_call)) :
    FnOk P w K mg base (M.CX P w) (lv k + 1) f fd ["program", "value"] (spM K 2 (f_is_history ck)) :=
  have nd := sc_is_history.nd
  fnx_ok (M := M) (g := b_is_history ck) Fu sc_is_history rfl (fun _ _ _ => rfl) fun cdv A outer s H E hr W tk hp =>
    (jb_one (js_ret (je_and (je_isi "list" (j_var 1) T.b_isinstance T.b_list (by decide +kernel)) (je_one (je_callB (cr_all rfl) cm_all T.b_all (by decide +kernel) (ja_cons (je_lc [("call", 2)] rfl rfl nd (ji_any (j_var 1)) (blkOk_by (N := ["program", "value", "call"]) (sc := defScope s_is_history) (by decide +kernel)) (fun _ _ _ _ _ => (jn_name 2 nd)) (fun _ _ _ _ _ => jts_nil) (fun _ _ _ _ _ => (jx_call I_is_call hr (Nat.le_refl _) M.tk0 (ja_cons (j_var 2) (ja_cons (j_var 0) ja_nil)) (hlen := (mCons_len (mCons_len mNil_len))))) (hgs_name)) ja_nil))))))
abbrev s_check_history : Stmt := topS 21
theorem sc_check_history : FnScope ["program", "history"] ["program", "history"] (defScope s_check_history) := ⟨rfl, rfl, rfl, by decide +kernel, rfl, by decide +kernel, by decide +kernel⟩
noncomputable def b_check_history (ck : Tabl) : MS := (mIfS (mNotT (mTru (mCall (ck.f .is_history) (mCons (mVar 0) (mCons (mVar 1) mNil)))))
    (mRaise "InvalidHistory")
    mSkip)
noncomputable def f_check_history (ck : Tabl) : MF := fun ds m => endOf (b_check_history ck (startM 2 ds) m)
theorem ok_check_history {M : Mode} {P : Program} {w : World} {K : PySem.W.Frag} {mg : Str → Option Value} {base : Heap} {k : Nat} {f : Addr} {fd : FuncData} {ck : Tabl} (Fu : Fun K "check_history" "check_history" s_check_history f fd) (T : Txt K w mg) (I_is_history : FnX M P w K mg base (lv k) "is_history" 2 (ck.f .is_history)) :
    FnOk P w K mg base (M.CX P w) (lv k + 1) f fd ["program", "history"] (spM K 2 (f_check_history ck)) :=
  have nd := sc_check_history.nd
  fnx_ok (M := M) (g := b_check_history ck) Fu sc_check_history rfl (fun _ _ _ => rfl) fun cdv A outer s H E hr W tk hp =>
    (jb_one (js_if (jt_not (jt_tru (jx_call I_is_history hr (Nat.le_refl _) tk (ja_cons (j_var 0) (ja_cons (j_var 1) ja_nil)) (hlen := (mCons_len (mCons_len mNil_len))))))
    (jb_one (jx_raise (M := M) T.x_InvalidHistory rfl tk))
    jb_nil))
abbrev s_check_machine : Stmt := topS 26
theorem sc_check_machine : FnScope ["machine", "parameters", "begin", "states", "places_of_states", "places", "tree", "_", "at", "name", "value"] ["machine"] (defScope s_check_machine) := ⟨rfl, rfl, rfl, by decide +kernel, rfl, by decide +kernel, by decide +kernel⟩
noncomputable def b_check_machine (ck : Tabl) (h : Nat → Tabl) (k : Nat) : MS := (mSeq (mIfS (mOrT (mNotT (mTru (mIsi "tuple" (mVar 0)))) (mB (mBin (gEqA true) (mCall gLen (mCons (mVar 0) mNil)) (mC (.int 3)))))
    (mRaise "InvalidMachine")
    mSkip)
    (mSeq (mAsg (mVar 0) (nTup 3 (nCons (nName 1) (nCons (nName 2) (nCons (nName 3) nNil)))))
    (mSeq (mIfS (mOrT (mNotT (mTru (mIsi "tuple" (mVar 1)))) (mB (mBin gGt (mCall gLen (mCons (mVar 1) mNil)) (mC c_MOST_PARAMETERS))))
    (mRaise "InvalidMachine")
    mSkip)
    (mSeq (mIfS (mNotT (mTru (mCall gAll (mCons (mLc (mEnum (mCons (mVar 1) mNil)) (ngTup 2 (ngCons (ngName 8) (ngCons (ngName 9) ngNil))) mYes (mAnd (mCall (ck.f .is_name) (mCons (mVar 9) mNil)) (mBin (gInC true) (mVar 9) (mSl (mVar 1) mNo (mEnd (mVar 8))))) [9, 8]) mNil))))
    (mRaise "InvalidMachine")
    mSkip)
    (mSeq (mIfS (mOrT (mNotT (mTru (mIsi "tuple" (mVar 3)))) (mNotT (mB (mChain gLeS gLeS (mC (.int 1)) (mCall gLen (mCons (mVar 3) mNil)) (mC c_MOST_STATES)))))
    (mRaise "InvalidMachine")
    mSkip)
    (mSeq (mIfS (mNotT (mTru (mCall gAll (mCons (mLc (mAnyI (mVar 3)) (ngName 10) mYes (mCall (ck.f .u_is_machine_state) (mCons (mVar 10) mNil)) [10]) mNil))))
    (mRaise "InvalidMachine")
    mSkip)
    (mSeq (mIfS (mOrT (mNotT (mTru (mCall (ck.f .u_is_number) (mCons (mVar 2) (mCons (mCall gLen (mCons (mVar 3) mNil)) mNil))))) (mB (mBin (gEqA true) (mBin gItem (mBin gItem (mVar 3) (mVar 2)) (mC (.int 0))) (mC (.int 0)))))
    (mRaise "InvalidMachine")
    mSkip)
    (mSeq (mAsg (mLc (mAnyI (mVar 3)) (ngTup 2 (ngCons (ngName 5) (ngCons (ngName 7) ngNil))) mYes (mVar 5) [7, 5]) (nName 4))
    (mFor (mAnyI (mVar 3)) (nTup 2 (nCons (nName 5) (nCons (nName 6) nNil)))
    (mDrop (mCall (ck.f .u_check_tree) (mCons (mVar 6) (mCons (mPos k (mCall (gMake "Room" ((h (k - 1)).f .i_Room)) (mCons (mCall gLen (mCons (mVar 1) mNil)) (mCons (mVar 4) (mCons (mVar 5) mNil))))) (mCons (mTup mNil) (mCons (mC (.int 1)) mNil)))))))))))))))
noncomputable def f_check_machine (ck : Tabl) (h : Nat → Tabl) (k : Nat) : MF := fun ds m => endOf (b_check_machine ck h k (startM 11 ds) m)
theorem ok_check_machine {M : Mode} {P : Program} {w : World} {K : PySem.W.Frag} {mg : Str → Option Value} {base : Heap} {k : Nat} {f : Addr} {fd : FuncData} {ck : Tabl} {h : Nat → Tabl} (Fu : Fun K "check_machine" "check_machine" s_check_machine f fd) (T : Txt K w mg) (I_u_check_tree : FnX M P w K mg base (lv k) "_check_tree" 4 (ck.f .u_check_tree)) (I_u_is_machine_state : FnX M P w K mg base (lv k) "_is_machine_state" 1 (ck.f .u_is_machine_state)) (I_u_is_number : FnX M P w K mg base (lv k) "_is_number" 2 (ck.f .u_is_number)) (I_is_name : FnX M P w K mg base (lv k) "is_name" 1 (ck.f .is_name)) (IS_i_Room : ∀ j, j < k → MkX M P w K mg base (lv j) "Room" 3 ((h j).f .i_Room)) :
    FnOk P w K mg base (M.CX P w) (lv k + 1) f fd ["machine"] (spM K 1 (f_check_machine ck h k)) :=
  have nd := sc_check_machine.nd
  fnx_ok (M := M) (g := b_check_machine ck h k) Fu sc_check_machine rfl (fun _ _ _ => rfl) fun cdv A outer s H E hr W tk hp =>
    (jb_cons (js_if (jw_or (jt_not (jt_tru (je_isi "tuple" (j_var 0) T.b_isinstance T.b_tuple (by decide +kernel)))) (jw_or1 (jt_cmp (op_neA (hu64 hr)) om_neA (je_callB cr_len cm_len T.b_len PySem.boot_len (ja_cons (j_var 0) ja_nil)) j_int))).jt
    (jb_one (jx_raise (M := M) T.x_InvalidMachine rfl tk))
    jb_nil)
    (jb_cons (js_asg (j_var 0) (jg_tup rfl (jgs_cons (jg_name 1 nd) (jgs_cons (jg_name 2 nd) (jgs_cons (jg_name 3 nd) jgs_nil)))))
    (jb_cons (js_if (jw_or (jt_not (jt_tru (je_isi "tuple" (j_var 1) T.b_isinstance T.b_tuple (by decide +kernel)))) (jw_or1 (jt_cmp op_gt om_gt (je_callB cr_len cm_len T.b_len PySem.boot_len (ja_cons (j_var 1) ja_nil)) (j_con T.c_MOST_PARAMETERS)))).jt
    (jb_one (jx_raise (M := M) T.x_InvalidMachine rfl tk))
    jb_nil)
    (jb_cons (js_if (jt_not (jt_tru (je_callB (cr_all rfl) cm_all T.b_all (by decide +kernel) (ja_cons (je_lc [("name", 9), ("at", 8)] rfl rfl nd (ji_enum T.b_enumerate (ja_cons (j_var 1) ja_nil)) (blkOk_by (N := ["machine", "parameters", "begin", "states", "places_of_states", "places", "tree", "_", "at", "name", "value"]) (sc := defScope s_check_machine) (by decide +kernel)) (fun _ _ _ _ _ => (jn_tup rfl (jn_cons (jn_name 8 nd) (jn_cons (jn_name 9 nd) jn_nil)))) (fun _ _ _ _ _ => jts_nil) (fun _ _ _ _ _ => (je_and (jx_call I_is_name hr (Nat.le_refl _) M.tk0 (ja_cons (j_var 9) ja_nil) (hlen := (mCons_len mNil_len))) (je_one (je_ninC (hu1 hr) (hu65 hr) (j_var 9) (je_sl (j_var 1) jo_no (jo_end (j_var 8))))))) (by (first | exact MI.wr_tup (MI.wr_cons (MI.wr_name (by decide)) (MI.wr_cons (MI.wr_name (by decide)) MI.wr_nil)) | exact MI.wr_tup (MI.wr_cons (MI.wr_name (by decide)) (MI.wr_cons (MI.wr_name (by decide)) (MI.wr_cons (MI.wr_name (by decide)) MI.wr_nil)))))) ja_nil))))
    (jb_one (jx_raise (M := M) T.x_InvalidMachine rfl tk))
    jb_nil)
    (jb_cons (js_if (jw_or (jt_not (jt_tru (je_isi "tuple" (j_var 3) T.b_isinstance T.b_tuple (by decide +kernel)))) (jw_or1 (jt_not (jt_chain op_leA op_leA om_leA om_leA j_int (je_callB cr_len cm_len T.b_len PySem.boot_len (ja_cons (j_var 3) ja_nil)) (j_con T.c_MOST_STATES))))).jt
    (jb_one (jx_raise (M := M) T.x_InvalidMachine rfl tk))
    jb_nil)
    (jb_cons (js_if (jt_not (jt_tru (je_callB (cr_all rfl) cm_all T.b_all (by decide +kernel) (ja_cons (je_lc [("value", 10)] rfl rfl nd (ji_any (j_var 3)) (blkOk_by (N := ["machine", "parameters", "begin", "states", "places_of_states", "places", "tree", "_", "at", "name", "value"]) (sc := defScope s_check_machine) (by decide +kernel)) (fun _ _ _ _ _ => (jn_name 10 nd)) (fun _ _ _ _ _ => jts_nil) (fun _ _ _ _ _ => (jx_call I_u_is_machine_state hr (Nat.le_refl _) M.tk0 (ja_cons (j_var 10) ja_nil) (hlen := (mCons_len mNil_len)))) (hgs_name)) ja_nil))))
    (jb_one (jx_raise (M := M) T.x_InvalidMachine rfl tk))
    jb_nil)
    (jb_cons (js_if (jw_or (jt_not (jt_tru (jx_call I_u_is_number hr (Nat.le_refl _) tk (ja_cons (j_var 2) (ja_cons (je_callB cr_len cm_len T.b_len PySem.boot_len (ja_cons (j_var 3) ja_nil)) ja_nil)) (hlen := (mCons_len (mCons_len mNil_len)))))) (jw_or1 (jt_cmp (op_neA (hu64 hr)) om_neA (je_item (hu1 hr) (je_item (hu1 hr) (j_var 3) (j_var 2)) j_int) j_int))).jt
    (jb_one (jx_raise (M := M) T.x_InvalidMachine rfl tk))
    jb_nil)
    (jb_cons (js_setLc 4 [("_", 7), ("places", 5)] rfl rfl nd (ji_any (j_var 3)) (blkOk_by (N := ["machine", "parameters", "begin", "states", "places_of_states", "places", "tree", "_", "at", "name", "value"]) (sc := defScope s_check_machine) (by decide +kernel)) (fun _ _ _ _ _ => (jn_tup rfl (jn_cons (jn_name 5 nd) (jn_cons (jn_name 7 nd) jn_nil)))) (fun _ _ _ _ _ => jts_nil) (fun _ _ _ _ _ => (j_var 5)) (by (first | exact MI.wr_tup (MI.wr_cons (MI.wr_name (by decide)) (MI.wr_cons (MI.wr_name (by decide)) MI.wr_nil)) | exact MI.wr_tup (MI.wr_cons (MI.wr_name (by decide)) (MI.wr_cons (MI.wr_name (by decide)) (MI.wr_cons (MI.wr_name (by decide)) MI.wr_nil))))))
    (jb_one (js_for hp rfl (ji_any (j_var 3)) (jg_tup rfl (jgs_cons (jg_name 5 nd) (jgs_cons (jg_name 6 nd) jgs_nil)))
    (jb_one (js_expr (jx_call I_u_check_tree hr (Nat.le_refl _) tk (ja_cons (j_var 6) (ja_cons (je_pos (k := k) fun pos_ => jx_make (IS_i_Room (k - 1) (by omega)) hr (lv_pos pos_) (ja_cons (je_callB cr_len cm_len T.b_len PySem.boot_len (ja_cons (j_var 1) ja_nil)) (ja_cons (j_var 4) (ja_cons (j_var 5) ja_nil))) (hlen := (mCons_len (mCons_len (mCons_len mNil_len))))) (ja_cons (je_tup ja_nil) (ja_cons j_int ja_nil)))) (hlen := (mCons_len (mCons_len (mCons_len (mCons_len mNil_len))))))))))))))))))
abbrev s_u_is_machine_state : Stmt := topS 27
theorem sc_u_is_machine_state : FnScope ["value"] ["value"] (defScope s_u_is_machine_state) := ⟨rfl, rfl, rfl, by decide +kernel, rfl, by decide +kernel, by decide +kernel⟩
noncomputable def b_u_is_machine_state (ck : Tabl) : MS := (mRet (mAnd (mIsi "tuple" (mVar 0)) (mAnd (mBin (gEqA false) (mCall gLen (mCons (mVar 0) mNil)) (mC (.int 2))) (mCall (ck.f .u_is_number) (mCons (mBin gItem (mVar 0) (mC (.int 0))) (mCons (mBin gAdd (mC c_MOST_HELD) (mC (.int 1))) mNil))))))
noncomputable def f_u_is_machine_state (ck : Tabl) : MF := fun ds m => endOf (b_u_is_machine_state ck (startM 1 ds) m)
theorem ok_u_is_machine_state {M : Mode} {P : Program} {w : World} {K : PySem.W.Frag} {mg : Str → Option Value} {base : Heap} {k : Nat} {f : Addr} {fd : FuncData} {ck : Tabl} (Fu : Fun K "_is_machine_state" "_is_machine_state" s_u_is_machine_state f fd) (T : Txt K w mg) (I_u_is_number : FnX M P w K mg base (lv k) "_is_number" 2 (ck.f .u_is_number)) :
    FnOk P w K mg base (M.CX P w) (lv k + 1) f fd ["value"] (spM K 1 (f_u_is_machine_state ck)) :=
  have nd := sc_u_is_machine_state.nd
  fnx_ok (M := M) (g := b_u_is_machine_state ck) Fu sc_u_is_machine_state rfl (fun _ _ _ => rfl) fun cdv A outer s H E hr W tk hp =>
    (jb_one (js_ret (je_and (je_isi "tuple" (j_var 0) T.b_isinstance T.b_tuple (by decide +kernel)) (je_and (j_cmp (op_eqA (hu64 hr)) om_eqA (je_callB cr_len cm_len T.b_len PySem.boot_len (ja_cons (j_var 0) ja_nil)) j_int) (je_one (jx_call I_u_is_number hr (Nat.le_refl _) tk (ja_cons (je_item (hu1 hr) (j_var 0) j_int) (ja_cons (j_op op_addA om_add (j_con T.c_MOST_HELD) j_int) ja_nil)) (hlen := (mCons_len (mCons_len mNil_len)))))))))
abbrev s_u_is_number : Stmt := topS 28
theorem sc_u_is_number : FnScope ["value", "many"] ["value", "many"] (defScope s_u_is_number) := ⟨rfl, rfl, rfl, by decide +kernel, rfl, by decide +kernel, by decide +kernel⟩
noncomputable def b_u_is_number (ck : Tabl) : MS := (mRet (mAnd (mCall (ck.f .is_integer) (mCons (mVar 0) mNil)) (mChain gLeS gLt (mC (.int 0)) (mVar 0) (mVar 1))))
noncomputable def f_u_is_number (ck : Tabl) : MF := fun ds m => endOf (b_u_is_number ck (startM 2 ds) m)
theorem ok_u_is_number {M : Mode} {P : Program} {w : World} {K : PySem.W.Frag} {mg : Str → Option Value} {base : Heap} {k : Nat} {f : Addr} {fd : FuncData} {ck : Tabl} (Fu : Fun K "_is_number" "_is_number" s_u_is_number f fd) (T : Txt K w mg) (I_is_integer : FnX M P w K mg base (lv k) "is_integer" 1 (ck.f .is_integer)) :
    FnOk P w K mg base (M.CX P w) (lv k + 1) f fd ["value", "many"] (spM K 2 (f_u_is_number ck)) :=
  have nd := sc_u_is_number.nd
  fnx_ok (M := M) (g := b_u_is_number ck) Fu sc_u_is_number rfl (fun _ _ _ => rfl) fun cdv A outer s H E hr W tk hp =>
    (jb_one (js_ret (je_and (jx_call I_is_integer hr (Nat.le_refl _) tk (ja_cons (j_var 0) ja_nil) (hlen := (mCons_len mNil_len))) (je_one (je_chain op_leA op_lt om_leA om_lt j_int (j_var 0) (j_var 1))))))
abbrev s_u_check_tree : Stmt := topS 30
theorem sc_u_check_tree : FnScope ["tree", "room", "happened", "level", "behind", "_", "word", "operands"] ["tree", "room", "happened", "level"] (defScope s_u_check_tree) := ⟨rfl, rfl, rfl, by decide +kernel, rfl, by decide +kernel, by decide +kernel⟩
noncomputable def b_u_check_tree (ck : Tabl) : MS := (mSeq (mIfS (mOrT (mB (mBin gGt (mVar 3) (mC c_MOST_TREE_LEVELS))) (mOrT (mNotT (mTru (mIsi "tuple" (mVar 0)))) (mB (mBin (gEqA false) (mCall gLen (mCons (mVar 0) mNil)) (mC (.int 0))))))
    (mRaise "InvalidMachine")
    mSkip)
    (mIfS (mAndT (mB (mBin (gEqA false) (mBin gItem (mVar 0) (mC (.int 0))) (mC (.str "end")))) (mB (mBin (gEqA false) (mCall gLen (mCons (mVar 0) mNil)) (mC (.int 4)))))
    (mDrop (mCall (ck.f .u_check_end) (mCons (mVar 0) (mCons (mVar 1) (mCons (mVar 2) mNil)))))
    (mIfS (mAndT (mB (mBin (gEqA false) (mBin gItem (mVar 0) (mC (.int 0))) (mC (.str "test")))) (mB (mBin (gEqA false) (mCall gLen (mCons (mVar 0) mNil)) (mC (.int 3)))))
    (mSeq (mIfS (mOrT (mNotT (mTru (mCall (ck.f .u_is_object) (mCons (mBin gItem (mVar 0) (mC (.int 1))) (mCons (mVar 1) (mCons (mVar 2) mNil)))))) (mNotT (mTru (mCall (ck.f .u_is_tuple_of) (mCons (mBin gItem (mVar 0) (mC (.int 2))) (mCons (mCall gLen (mCons (mC c_KINDS) mNil)) mNil))))))
    (mRaise "InvalidMachine")
    mSkip)
    (mFor (mAnyI (mBin gItem (mVar 0) (mC (.int 2)))) (nName 4)
    (mDrop (mCall (ck.f .u_check_tree) (mCons (mVar 4) (mCons (mVar 1) (mCons (mVar 2) (mCons (mBin gAdd (mVar 3) (mC (.int 1))) mNil))))))))
    (mIfS (mAndT (mB (mBin (gEqA false) (mBin gItem (mVar 0) (mC (.int 0))) (mC (.str "ask")))) (mB (mBin (gEqA false) (mCall gLen (mCons (mVar 0) mNil)) (mC (.int 4)))))
    (mSeq (mAsg (mVar 0) (nTup 4 (nCons (nName 5) (nCons (nName 6) (nCons (nName 7) (nCons (nName 4) nNil))))))
    (mSeq (mIfS (mOrT (mB (mBin (gEqA false) (mCall gLen (mCons (mVar 2) mNil)) (mC c_MOST_PLACES))) (mNotT (mTru (mCall (ck.f .u_are_operands) (mCons (mVar 6) (mCons (mVar 7) (mCons (mVar 1) (mCons (mVar 2) mNil))))))))
    (mRaise "InvalidMachine")
    mSkip)
    (mSeq (mIfS (mNotT (mTru (mCall (ck.f .u_is_tuple_of) (mCons (mVar 4) (mCons (mC (.int 2)) mNil)))))
    (mRaise "InvalidMachine")
    mSkip)
    (mSeq (mDrop (mCall (ck.f .u_check_tree) (mCons (mBin gItem (mVar 4) (mC (.int 0))) (mCons (mVar 1) (mCons (mTup (mStar (mVar 2) (mCons (mC (.bl false)) mNil))) (mCons (mBin gAdd (mVar 3) (mC (.int 1))) mNil))))))
    (mDrop (mCall (ck.f .u_check_tree) (mCons (mBin gItem (mVar 4) (mC (.int 1))) (mCons (mVar 1) (mCons (mTup (mStar (mVar 2) (mCons (mC (.bl true)) mNil))) (mCons (mBin gAdd (mVar 3) (mC (.int 1))) mNil))))))))))
    (mRaise "InvalidMachine")))))
noncomputable def f_u_check_tree (ck : Tabl) : MF := fun ds m => endOf (b_u_check_tree ck (startM 8 ds) m)
theorem ok_u_check_tree {M : Mode} {P : Program} {w : World} {K : PySem.W.Frag} {mg : Str → Option Value} {base : Heap} {k : Nat} {f : Addr} {fd : FuncData} {ck : Tabl} (Fu : Fun K "_check_tree" "_check_tree" s_u_check_tree f fd) (T : Txt K w mg) (I_u_are_operands : FnX M P w K mg base (lv k) "_are_operands" 4 (ck.f .u_are_operands)) (I_u_check_end : FnX M P w K mg base (lv k) "_check_end" 3 (ck.f .u_check_end)) (I_u_check_tree : FnX M P w K mg base (lv k) "_check_tree" 4 (ck.f .u_check_tree)) (I_u_is_object : FnX M P w K mg base (lv k) "_is_object" 3 (ck.f .u_is_object)) (I_u_is_tuple_of : FnX M P w K mg base (lv k) "_is_tuple_of" 2 (ck.f .u_is_tuple_of)) :
    FnOk P w K mg base (M.CX P w) (lv k + 1) f fd ["tree", "room", "happened", "level"] (spM K 4 (f_u_check_tree ck)) :=
  have nd := sc_u_check_tree.nd
  fnx_ok (M := M) (g := b_u_check_tree ck) Fu sc_u_check_tree rfl (fun _ _ _ => rfl) fun cdv A outer s H E hr W tk hp =>
    (jb_cons (js_if (jw_or (jt_cmp op_gt om_gt (j_var 3) (j_con T.c_MOST_TREE_LEVELS)) (jw_or (jt_not (jt_tru (je_isi "tuple" (j_var 0) T.b_isinstance T.b_tuple (by decide +kernel)))) (jw_or1 (jt_cmp (op_eqA (hu64 hr)) om_eqA (je_callB cr_len cm_len T.b_len PySem.boot_len (ja_cons (j_var 0) ja_nil)) j_int)))).jt
    (jb_one (jx_raise (M := M) T.x_InvalidMachine rfl tk))
    jb_nil)
    (jb_one (js_if (jw_and (jt_cmp (op_eqA (hu64 hr)) om_eqA (je_item (hu1 hr) (j_var 0) j_int) j_str) (jw_and1 (jt_cmp (op_eqA (hu64 hr)) om_eqA (je_callB cr_len cm_len T.b_len PySem.boot_len (ja_cons (j_var 0) ja_nil)) j_int))).jt
    (jb_one (js_expr (jx_call I_u_check_end hr (Nat.le_refl _) tk (ja_cons (j_var 0) (ja_cons (j_var 1) (ja_cons (j_var 2) ja_nil))) (hlen := (mCons_len (mCons_len (mCons_len mNil_len)))))))
    (jb_one (js_if (jw_and (jt_cmp (op_eqA (hu64 hr)) om_eqA (je_item (hu1 hr) (j_var 0) j_int) j_str) (jw_and1 (jt_cmp (op_eqA (hu64 hr)) om_eqA (je_callB cr_len cm_len T.b_len PySem.boot_len (ja_cons (j_var 0) ja_nil)) j_int))).jt
    (jb_cons (js_if (jw_or (jt_not (jt_tru (jx_call I_u_is_object hr (Nat.le_refl _) tk (ja_cons (je_item (hu1 hr) (j_var 0) j_int) (ja_cons (j_var 1) (ja_cons (j_var 2) ja_nil))) (hlen := (mCons_len (mCons_len (mCons_len mNil_len))))))) (jw_or1 (jt_not (jt_tru (jx_call I_u_is_tuple_of hr (Nat.le_refl _) tk (ja_cons (je_item (hu1 hr) (j_var 0) j_int) (ja_cons (je_callB cr_len cm_len T.b_len PySem.boot_len (ja_cons (j_con T.c_KINDS) ja_nil)) ja_nil)) (hlen := (mCons_len (mCons_len mNil_len)))))))).jt
    (jb_one (jx_raise (M := M) T.x_InvalidMachine rfl tk))
    jb_nil)
    (jb_one (js_for hp rfl (ji_any (je_item (hu1 hr) (j_var 0) j_int)) (jg_name 4 nd)
    (jb_one (js_expr (jx_call I_u_check_tree hr (Nat.le_refl _) tk (ja_cons (j_var 4) (ja_cons (j_var 1) (ja_cons (j_var 2) (ja_cons (j_op op_addA om_add (j_var 3) j_int) ja_nil)))) (hlen := (mCons_len (mCons_len (mCons_len (mCons_len mNil_len)))))))))))
    (jb_one (js_if (jw_and (jt_cmp (op_eqA (hu64 hr)) om_eqA (je_item (hu1 hr) (j_var 0) j_int) j_str) (jw_and1 (jt_cmp (op_eqA (hu64 hr)) om_eqA (je_callB cr_len cm_len T.b_len PySem.boot_len (ja_cons (j_var 0) ja_nil)) j_int))).jt
    (jb_cons (js_asg (j_var 0) (jg_tup rfl (jgs_cons (jg_name 5 nd) (jgs_cons (jg_name 6 nd) (jgs_cons (jg_name 7 nd) (jgs_cons (jg_name 4 nd) jgs_nil))))))
    (jb_cons (js_if (jw_or (jt_cmp (op_eqA (hu64 hr)) om_eqA (je_callB cr_len cm_len T.b_len PySem.boot_len (ja_cons (j_var 2) ja_nil)) (j_con T.c_MOST_PLACES)) (jw_or1 (jt_not (jt_tru (jx_call I_u_are_operands hr (Nat.le_refl _) tk (ja_cons (j_var 6) (ja_cons (j_var 7) (ja_cons (j_var 1) (ja_cons (j_var 2) ja_nil)))) (hlen := (mCons_len (mCons_len (mCons_len (mCons_len mNil_len)))))))))).jt
    (jb_one (jx_raise (M := M) T.x_InvalidMachine rfl tk))
    jb_nil)
    (jb_cons (js_if (jt_not (jt_tru (jx_call I_u_is_tuple_of hr (Nat.le_refl _) tk (ja_cons (j_var 4) (ja_cons j_int ja_nil)) (hlen := (mCons_len (mCons_len mNil_len))))))
    (jb_one (jx_raise (M := M) T.x_InvalidMachine rfl tk))
    jb_nil)
    (jb_cons (js_expr (jx_call I_u_check_tree hr (Nat.le_refl _) tk (ja_cons (je_item (hu1 hr) (j_var 4) j_int) (ja_cons (j_var 1) (ja_cons (je_tup (ja_star (j_var 2) (ja_cons j_bl ja_nil))) (ja_cons (j_op op_addA om_add (j_var 3) j_int) ja_nil)))) (hlen := (mCons_len (mCons_len (mCons_len (mCons_len mNil_len)))))))
    (jb_one (js_expr (jx_call I_u_check_tree hr (Nat.le_refl _) tk (ja_cons (je_item (hu1 hr) (j_var 4) j_int) (ja_cons (j_var 1) (ja_cons (je_tup (ja_star (j_var 2) (ja_cons j_bl ja_nil))) (ja_cons (j_op op_addA om_add (j_var 3) j_int) ja_nil)))) (hlen := (mCons_len (mCons_len (mCons_len (mCons_len mNil_len))))))))))))
    (jb_one (jx_raise (M := M) T.x_InvalidMachine rfl tk)))))))))
abbrev s_u_is_tuple_of : Stmt := topS 31
theorem sc_u_is_tuple_of : FnScope ["value", "many"] ["value", "many"] (defScope s_u_is_tuple_of) := ⟨rfl, rfl, rfl, by decide +kernel, rfl, by decide +kernel, by decide +kernel⟩
noncomputable def b_u_is_tuple_of (ck : Tabl) : MS := (mRet (mAnd (mIsi "tuple" (mVar 0)) (mBin (gEqA false) (mCall gLen (mCons (mVar 0) mNil)) (mVar 1))))
noncomputable def f_u_is_tuple_of (ck : Tabl) : MF := fun ds m => endOf (b_u_is_tuple_of ck (startM 2 ds) m)
theorem ok_u_is_tuple_of {M : Mode} {P : Program} {w : World} {K : PySem.W.Frag} {mg : Str → Option Value} {base : Heap} {k : Nat} {f : Addr} {fd : FuncData} {ck : Tabl} (Fu : Fun K "_is_tuple_of" "_is_tuple_of" s_u_is_tuple_of f fd) (T : Txt K w mg) :
    FnOk P w K mg base (M.CX P w) (lv k + 1) f fd ["value", "many"] (spM K 2 (f_u_is_tuple_of ck)) :=
  have nd := sc_u_is_tuple_of.nd
  fnx_ok (M := M) (g := b_u_is_tuple_of ck) Fu sc_u_is_tuple_of rfl (fun _ _ _ => rfl) fun cdv A outer s H E hr W tk hp =>
    (jb_one (js_ret (je_and (je_isi "tuple" (j_var 0) T.b_isinstance T.b_tuple (by decide +kernel)) (je_one (j_cmp (op_eqA (hu64 hr)) om_eqA (je_callB cr_len cm_len T.b_len PySem.boot_len (ja_cons (j_var 0) ja_nil)) (j_var 1))))))
abbrev s_u_check_end : Stmt := topS 32
theorem sc_u_check_end : FnScope ["tree", "room", "happened", "_", "outcome", "following", "hold", "value"] ["tree", "room", "happened"] (defScope s_u_check_end) := ⟨rfl, rfl, rfl, by decide +kernel, rfl, by decide +kernel, by decide +kernel⟩
noncomputable def b_u_check_end (ck : Tabl) : MS := (mSeq (mAsg (mVar 0) (nTup 4 (nCons (nName 3) (nCons (nName 4) (nCons (nName 5) (nCons (nName 6) nNil))))))
    (mSeq (mIfS (mOrT (mNotT (mTru (mCall (ck.f .u_is_tuple_of) (mCons (mVar 4) (mCons (mC (.int 2)) mNil))))) (mNotT (mTru (mCall (ck.f .u_is_outcome) (mCons (mVar 4) (mCons (mVar 1) (mCons (mVar 2) mNil)))))))
    (mRaise "InvalidMachine")
    mSkip)
    (mSeq (mIfS (mOrT (mNotT (mTru (mCall (ck.f .u_is_number) (mCons (mVar 5) (mCons (mCall gLen (mCons (mFld pf_states "states" (mVar 1)) mNil)) mNil))))) (mNotT (mTru (mCall (ck.f .u_is_tuple_of) (mCons (mVar 6) (mCons (mBin gItem (mFld pf_states "states" (mVar 1)) (mVar 5)) mNil))))))
    (mRaise "InvalidMachine")
    mSkip)
    (mIfS (mNotT (mTru (mCall gAll (mCons (mLc (mAnyI (mVar 6)) (ngName 7) mYes (mCall (ck.f .u_is_object) (mCons (mVar 7) (mCons (mVar 1) (mCons (mVar 2) mNil)))) [7]) mNil))))
    (mRaise "InvalidMachine")
    mSkip))))
noncomputable def f_u_check_end (ck : Tabl) : MF := fun ds m => endOf (b_u_check_end ck (startM 8 ds) m)
theorem ok_u_check_end {M : Mode} {P : Program} {w : World} {K : PySem.W.Frag} {mg : Str → Option Value} {base : Heap} {k : Nat} {f : Addr} {fd : FuncData} {ck : Tabl} (Fu : Fun K "_check_end" "_check_end" s_u_check_end f fd) (T : Txt K w mg) (I_u_is_number : FnX M P w K mg base (lv k) "_is_number" 2 (ck.f .u_is_number)) (I_u_is_object : FnX M P w K mg base (lv k) "_is_object" 3 (ck.f .u_is_object)) (I_u_is_outcome : FnX M P w K mg base (lv k) "_is_outcome" 3 (ck.f .u_is_outcome)) (I_u_is_tuple_of : FnX M P w K mg base (lv k) "_is_tuple_of" 2 (ck.f .u_is_tuple_of)) :
    FnOk P w K mg base (M.CX P w) (lv k + 1) f fd ["tree", "room", "happened"] (spM K 3 (f_u_check_end ck)) :=
  have nd := sc_u_check_end.nd
  fnx_ok (M := M) (g := b_u_check_end ck) Fu sc_u_check_end rfl (fun _ _ _ => rfl) fun cdv A outer s H E hr W tk hp =>
    (jb_cons (js_asg (j_var 0) (jg_tup rfl (jgs_cons (jg_name 3 nd) (jgs_cons (jg_name 4 nd) (jgs_cons (jg_name 5 nd) (jgs_cons (jg_name 6 nd) jgs_nil))))))
    (jb_cons (js_if (jw_or (jt_not (jt_tru (jx_call I_u_is_tuple_of hr (Nat.le_refl _) tk (ja_cons (j_var 4) (ja_cons j_int ja_nil)) (hlen := (mCons_len (mCons_len mNil_len)))))) (jw_or1 (jt_not (jt_tru (jx_call I_u_is_outcome hr (Nat.le_refl _) tk (ja_cons (j_var 4) (ja_cons (j_var 1) (ja_cons (j_var 2) ja_nil))) (hlen := (mCons_len (mCons_len (mCons_len mNil_len))))))))).jt
    (jb_one (jx_raise (M := M) T.x_InvalidMachine rfl tk))
    jb_nil)
    (jb_cons (js_if (jw_or (jt_not (jt_tru (jx_call I_u_is_number hr (Nat.le_refl _) tk (ja_cons (j_var 5) (ja_cons (je_callB cr_len cm_len T.b_len PySem.boot_len (ja_cons (je_fld (j_var 1) T.f_states) ja_nil)) ja_nil)) (hlen := (mCons_len (mCons_len mNil_len)))))) (jw_or1 (jt_not (jt_tru (jx_call I_u_is_tuple_of hr (Nat.le_refl _) tk (ja_cons (j_var 6) (ja_cons (je_item (hu1 hr) (je_fld (j_var 1) T.f_states) (j_var 5)) ja_nil)) (hlen := (mCons_len (mCons_len mNil_len)))))))).jt
    (jb_one (jx_raise (M := M) T.x_InvalidMachine rfl tk))
    jb_nil)
    (jb_one (js_if (jt_not (jt_tru (je_callB (cr_all rfl) cm_all T.b_all (by decide +kernel) (ja_cons (je_lc [("value", 7)] rfl rfl nd (ji_any (j_var 6)) (blkOk_by (N := ["tree", "room", "happened", "_", "outcome", "following", "hold", "value"]) (sc := defScope s_u_check_end) (by decide +kernel)) (fun _ _ _ _ _ => (jn_name 7 nd)) (fun _ _ _ _ _ => jts_nil) (fun _ _ _ _ _ => (jx_call I_u_is_object hr (Nat.le_refl _) M.tk0 (ja_cons (j_var 7) (ja_cons (j_var 1) (ja_cons (j_var 2) ja_nil))) (hlen := (mCons_len (mCons_len (mCons_len mNil_len)))))) (hgs_name)) ja_nil))))
    (jb_one (jx_raise (M := M) T.x_InvalidMachine rfl tk))
    jb_nil)))))
abbrev s_u_is_outcome : Stmt := topS 33
theorem sc_u_is_outcome : FnScope ["outcome", "room", "happened", "word", "value"] ["outcome", "room", "happened"] (defScope s_u_is_outcome) := ⟨rfl, rfl, rfl, by decide +kernel, rfl, by decide +kernel, by decide +kernel⟩
noncomputable def b_u_is_outcome (ck : Tabl) : MS := (mSeq (mAsg (mVar 0) (nTup 2 (nCons (nName 3) (nCons (nName 4) nNil))))
    (mSeq (mIfS (mB (mBin (gEqA false) (mVar 3) (mC (.str "failed"))))
    (mRet (mAnd (mCall (ck.f .u_is_number) (mCons (mVar 4) (mCons (mCall gLen (mCons (mVar 2) mNil)) mNil))) (mBin gItem (mVar 2) (mVar 4))))
    mSkip)
    (mRet (mAnd (mBin (gEqA false) (mVar 3) (mC (.str "value"))) (mCall (ck.f .u_is_operand) (mCons (mVar 4) (mCons (mVar 1) (mCons (mVar 2) mNil))))))))
noncomputable def f_u_is_outcome (ck : Tabl) : MF := fun ds m => endOf (b_u_is_outcome ck (startM 5 ds) m)
theorem ok_u_is_outcome {M : Mode} {P : Program} {w : World} {K : PySem.W.Frag} {mg : Str → Option Value} {base : Heap} {k : Nat} {f : Addr} {fd : FuncData} {ck : Tabl} (Fu : Fun K "_is_outcome" "_is_outcome" s_u_is_outcome f fd) (T : Txt K w mg) (I_u_is_number : FnX M P w K mg base (lv k) "_is_number" 2 (ck.f .u_is_number)) (I_u_is_operand : FnX M P w K mg base (lv k) "_is_operand" 3 (ck.f .u_is_operand)) :
    FnOk P w K mg base (M.CX P w) (lv k + 1) f fd ["outcome", "room", "happened"] (spM K 3 (f_u_is_outcome ck)) :=
  have nd := sc_u_is_outcome.nd
  fnx_ok (M := M) (g := b_u_is_outcome ck) Fu sc_u_is_outcome rfl (fun _ _ _ => rfl) fun cdv A outer s H E hr W tk hp =>
    (jb_cons (js_asg (j_var 0) (jg_tup rfl (jgs_cons (jg_name 3 nd) (jgs_cons (jg_name 4 nd) jgs_nil))))
    (jb_cons (js_if (jt_cmp (op_eqA (hu64 hr)) om_eqA (j_var 3) j_str)
    (jb_one (js_ret (je_and (jx_call I_u_is_number hr (Nat.le_refl _) tk (ja_cons (j_var 4) (ja_cons (je_callB cr_len cm_len T.b_len PySem.boot_len (ja_cons (j_var 2) ja_nil)) ja_nil)) (hlen := (mCons_len (mCons_len mNil_len)))) (je_one (je_item (hu1 hr) (j_var 2) (j_var 4))))))
    jb_nil)
    (jb_one (js_ret (je_and (j_cmp (op_eqA (hu64 hr)) om_eqA (j_var 3) j_str) (je_one (jx_call I_u_is_operand hr (Nat.le_refl _) tk (ja_cons (j_var 4) (ja_cons (j_var 1) (ja_cons (j_var 2) ja_nil))) (hlen := (mCons_len (mCons_len (mCons_len mNil_len)))))))))))
abbrev s_u_are_operands : Stmt := topS 34
theorem sc_u_are_operands : FnScope ["word", "values", "room", "happened", "value"] ["word", "values", "room", "happened"] (defScope s_u_are_operands) := ⟨rfl, rfl, rfl, by decide +kernel, rfl, by decide +kernel, by decide +kernel⟩
noncomputable def b_u_are_operands (ck : Tabl) : MS := (mSeq (mIfS (mOrT (mNotT (mTru (mIsi "tuple" (mVar 1)))) (mNotT (mTru (mCall gAll (mCons (mLc (mAnyI (mVar 1)) (ngName 4) mYes (mCall (ck.f .u_is_operand) (mCons (mVar 4) (mCons (mVar 2) (mCons (mVar 3) mNil)))) [4]) mNil)))))
    (mRet (mC (.bl false)))
    mSkip)
    (mSeq (mIfS (mTru (mCall (ck.f .is_name) (mCons (mVar 0) mNil)))
    (mRet (mBin gLeS (mCall gLen (mCons (mVar 1) mNil)) (mC c_MOST_OPERANDS)))
    mSkip)
    (mRet (mAnd (mBin (gInB false) (mVar 0) (mC c_SIGNS)) (mBin (gEqA false) (mCall gLen (mCons (mVar 1) mNil)) (mC (.int 2)))))))
noncomputable def f_u_are_operands (ck : Tabl) : MF := fun ds m => endOf (b_u_are_operands ck (startM 5 ds) m)
theorem ok_u_are_operands {M : Mode} {P : Program} {w : World} {K : PySem.W.Frag} {mg : Str → Option Value} {base : Heap} {k : Nat} {f : Addr} {fd : FuncData} {ck : Tabl} (Fu : Fun K "_are_operands" "_are_operands" s_u_are_operands f fd) (T : Txt K w mg) (I_u_is_operand : FnX M P w K mg base (lv k) "_is_operand" 3 (ck.f .u_is_operand)) (I_is_name : FnX M P w K mg base (lv k) "is_name" 1 (ck.f .is_name)) :
    FnOk P w K mg base (M.CX P w) (lv k + 1) f fd ["word", "values", "room", "happened"] (spM K 4 (f_u_are_operands ck)) :=
  have nd := sc_u_are_operands.nd
  fnx_ok (M := M) (g := b_u_are_operands ck) Fu sc_u_are_operands rfl (fun _ _ _ => rfl) fun cdv A outer s H E hr W tk hp =>
    (jb_cons (js_if (jw_or (jt_not (jt_tru (je_isi "tuple" (j_var 1) T.b_isinstance T.b_tuple (by decide +kernel)))) (jw_or1 (jt_not (jt_tru (je_callB (cr_all rfl) cm_all T.b_all (by decide +kernel) (ja_cons (je_lc [("value", 4)] rfl rfl nd (ji_any (j_var 1)) (blkOk_by (N := ["word", "values", "room", "happened", "value"]) (sc := defScope s_u_are_operands) (by decide +kernel)) (fun _ _ _ _ _ => (jn_name 4 nd)) (fun _ _ _ _ _ => jts_nil) (fun _ _ _ _ _ => (jx_call I_u_is_operand hr (Nat.le_refl _) M.tk0 (ja_cons (j_var 4) (ja_cons (j_var 2) (ja_cons (j_var 3) ja_nil))) (hlen := (mCons_len (mCons_len (mCons_len mNil_len)))))) (hgs_name)) ja_nil)))))).jt
    (jb_one (js_ret j_bl))
    jb_nil)
    (jb_cons (js_if (jt_tru (jx_call I_is_name hr (Nat.le_refl _) tk (ja_cons (j_var 0) ja_nil) (hlen := (mCons_len mNil_len))))
    (jb_one (js_ret (j_cmp op_leA om_leA (je_callB cr_len cm_len T.b_len PySem.boot_len (ja_cons (j_var 1) ja_nil)) (j_con T.c_MOST_OPERANDS))))
    jb_nil)
    (jb_one (js_ret (je_and (je_inB (hu1 hr) (hu65 hr) (j_var 0) (j_con T.c_SIGNS)) (je_one (j_cmp (op_eqA (hu64 hr)) om_eqA (je_callB cr_len cm_len T.b_len PySem.boot_len (ja_cons (j_var 1) ja_nil)) j_int)))))))
abbrev s_u_is_operand : Stmt := topS 35
theorem sc_u_is_operand : FnScope ["value", "room", "happened"] ["value", "room", "happened"] (defScope s_u_is_operand) := ⟨rfl, rfl, rfl, by decide +kernel, rfl, by decide +kernel, by decide +kernel⟩
noncomputable def b_u_is_operand (ck : Tabl) : MS := (mSeq (mIfS (mTru (mCall (ck.f .u_is_tuple_of) (mCons (mVar 0) (mCons (mC (.int 1)) mNil))))
    (mRet (mBin (gInB false) (mBin gItem (mVar 0) (mC (.int 0))) (mC c_CONSTANTS)))
    mSkip)
    (mRet (mCall (ck.f .u_is_object) (mCons (mVar 0) (mCons (mVar 1) (mCons (mVar 2) mNil))))))
noncomputable def f_u_is_operand (ck : Tabl) : MF := fun ds m => endOf (b_u_is_operand ck (startM 3 ds) m)
theorem ok_u_is_operand {M : Mode} {P : Program} {w : World} {K : PySem.W.Frag} {mg : Str → Option Value} {base : Heap} {k : Nat} {f : Addr} {fd : FuncData} {ck : Tabl} (Fu : Fun K "_is_operand" "_is_operand" s_u_is_operand f fd) (T : Txt K w mg) (I_u_is_object : FnX M P w K mg base (lv k) "_is_object" 3 (ck.f .u_is_object)) (I_u_is_tuple_of : FnX M P w K mg base (lv k) "_is_tuple_of" 2 (ck.f .u_is_tuple_of)) :
    FnOk P w K mg base (M.CX P w) (lv k + 1) f fd ["value", "room", "happened"] (spM K 3 (f_u_is_operand ck)) :=
  have nd := sc_u_is_operand.nd
  fnx_ok (M := M) (g := b_u_is_operand ck) Fu sc_u_is_operand rfl (fun _ _ _ => rfl) fun cdv A outer s H E hr W tk hp =>
    (jb_cons (js_if (jt_tru (jx_call I_u_is_tuple_of hr (Nat.le_refl _) tk (ja_cons (j_var 0) (ja_cons j_int ja_nil)) (hlen := (mCons_len (mCons_len mNil_len)))))
    (jb_one (js_ret (je_inB (hu1 hr) (hu65 hr) (je_item (hu1 hr) (j_var 0) j_int) (j_con T.c_CONSTANTS))))
    jb_nil)
    (jb_one (js_ret (jx_call I_u_is_object hr (Nat.le_refl _) tk (ja_cons (j_var 0) (ja_cons (j_var 1) (ja_cons (j_var 2) ja_nil))) (hlen := (mCons_len (mCons_len (mCons_len mNil_len))))))))
abbrev s_u_is_object : Stmt := topS 36
theorem sc_u_is_object : FnScope ["value", "room", "happened", "word", "number"] ["value", "room", "happened"] (defScope s_u_is_object) := ⟨rfl, rfl, rfl, by decide +kernel, rfl, by decide +kernel, by decide +kernel⟩
noncomputable def b_u_is_object (ck : Tabl) : MS := (mSeq (mIfS (mNotT (mTru (mCall (ck.f .u_is_tuple_of) (mCons (mVar 0) (mCons (mC (.int 2)) mNil)))))
    (mRet (mC (.bl false)))
    mSkip)
    (mSeq (mAsg (mVar 0) (nTup 2 (nCons (nName 3) (nCons (nName 4) nNil))))
    (mSeq (mIfS (mB (mBin (gEqA false) (mVar 3) (mC (.str "place"))))
    (mRet (mCall (ck.f .u_is_number) (mCons (mVar 4) (mCons (mFld pf_places "places" (mVar 1)) mNil))))
    mSkip)
    (mSeq (mIfS (mB (mBin (gEqA false) (mVar 3) (mC (.str "parameter"))))
    (mRet (mCall (ck.f .u_is_number) (mCons (mVar 4) (mCons (mFld pf_parameters "parameters" (mVar 1)) mNil))))
    mSkip)
    (mRet (mAnd (mBin (gEqA false) (mVar 3) (mC (.str "event"))) (mAnd (mCall (ck.f .u_is_number) (mCons (mVar 4) (mCons (mCall gLen (mCons (mVar 2) mNil)) mNil))) (mNot (mBin gItem (mVar 2) (mVar 4))))))))))
noncomputable def f_u_is_object (ck : Tabl) : MF := fun ds m => endOf (b_u_is_object ck (startM 5 ds) m)
theorem ok_u_is_object {M : Mode} {P : Program} {w : World} {K : PySem.W.Frag} {mg : Str → Option Value} {base : Heap} {k : Nat} {f : Addr} {fd : FuncData} {ck : Tabl} (Fu : Fun K "_is_object" "_is_object" s_u_is_object f fd) (T : Txt K w mg) (I_u_is_number : FnX M P w K mg base (lv k) "_is_number" 2 (ck.f .u_is_number)) (I_u_is_tuple_of : FnX M P w K mg base (lv k) "_is_tuple_of" 2 (ck.f .u_is_tuple_of)) :
    FnOk P w K mg base (M.CX P w) (lv k + 1) f fd ["value", "room", "happened"] (spM K 3 (f_u_is_object ck)) :=
  have nd := sc_u_is_object.nd
  fnx_ok (M := M) (g := b_u_is_object ck) Fu sc_u_is_object rfl (fun _ _ _ => rfl) fun cdv A outer s H E hr W tk hp =>
    (jb_cons (js_if (jt_not (jt_tru (jx_call I_u_is_tuple_of hr (Nat.le_refl _) tk (ja_cons (j_var 0) (ja_cons j_int ja_nil)) (hlen := (mCons_len (mCons_len mNil_len))))))
    (jb_one (js_ret j_bl))
    jb_nil)
    (jb_cons (js_asg (j_var 0) (jg_tup rfl (jgs_cons (jg_name 3 nd) (jgs_cons (jg_name 4 nd) jgs_nil))))
    (jb_cons (js_if (jt_cmp (op_eqA (hu64 hr)) om_eqA (j_var 3) j_str)
    (jb_one (js_ret (jx_call I_u_is_number hr (Nat.le_refl _) tk (ja_cons (j_var 4) (ja_cons (je_fld (j_var 1) T.f_places) ja_nil)) (hlen := (mCons_len (mCons_len mNil_len))))))
    jb_nil)
    (jb_cons (js_if (jt_cmp (op_eqA (hu64 hr)) om_eqA (j_var 3) j_str)
    (jb_one (js_ret (jx_call I_u_is_number hr (Nat.le_refl _) tk (ja_cons (j_var 4) (ja_cons (je_fld (j_var 1) T.f_parameters) ja_nil)) (hlen := (mCons_len (mCons_len mNil_len))))))
    jb_nil)
    (jb_one (js_ret (je_and (j_cmp (op_eqA (hu64 hr)) om_eqA (j_var 3) j_str) (je_and (jx_call I_u_is_number hr (Nat.le_refl _) tk (ja_cons (j_var 4) (ja_cons (je_callB cr_len cm_len T.b_len PySem.boot_len (ja_cons (j_var 2) ja_nil)) ja_nil)) (hlen := (mCons_len (mCons_len mNil_len)))) (je_one (je_not (je_item (hu1 hr) (j_var 2) (j_var 4))))))))))))
abbrev s_run_machine : Stmt := topS 38
theorem sc_run_machine : FnScope ["machine", "history", "state", "held", "told", "number", "call", "run", "end", "_", "outcome", "hold", "operand"] ["machine", "history"] (defScope s_run_machine) := ⟨rfl, rfl, rfl, by decide +kernel, rfl, by decide +kernel, by decide +kernel⟩
noncomputable def b_run_machine (ck : Tabl) (h : Nat → Tabl) (k : Nat) : MS := (mSeq (mDrop (mCall (ck.f .check_machine) (mCons (mVar 0) mNil)))
    (mSeq (mDrop (mCall (ck.f .check_history) (mCons (mVar 0) (mCons (mVar 1) mNil))))
    (mSeq (mAsg (mBin gItem (mVar 0) (mC (.int 1))) (nName 2))
    (mSeq (mAsg (mLst mNil) (nName 3))
    (mSeq (mAsg (mLst mNil) (nName 4))
    (mSeq (mFor (mEnum (mCons (mVar 1) mNil)) (nTup 2 (nCons (nName 5) (nCons (nName 6) nNil)))
    (mSeq (mAsg (mPos k (mCall (gMake "MachineCall" ((h (k - 1)).f .i_MachineCall)) (mCons (mVar 0) (mCons (mVar 5) (mCons (mVar 3) (mCons (mVar 6) mNil)))))) (nName 7))
    (mSeq (mAsg (mMeth "MachineCall" "end_of" (ck.f .m_MachineCall_end_of) (mVar 7) (mCons (mBin gItem (mBin gItem (mBin gItem (mVar 0) (mC (.int 2))) (mVar 2)) (mC (.int 1))) mNil)) (nName 8))
    (mSeq (mIfS (mB (mBin gIsN (mVar 8) (mC .non)))
    (mSeq (mDrop (mBM gAppend (mVar 4) (mCons (mTup (mCons (mFld pf_events "events" (mVar 7)) (mCons (mTup (mCons (mC (.str "wanting")) mNil)) mNil))) mNil)))
    mBrk)
    mSkip)
    (mSeq (mAsg (mVar 8) (nTup 4 (nCons (nName 9) (nCons (nName 10) (nCons (nName 2) (nCons (nName 11) nNil))))))
    (mSeq (mDrop (mBM gAppend (mVar 4) (mCons (mTup (mCons (mFld pf_events "events" (mVar 7)) (mCons (mIf (mB (mBin (gEqA false) (mBin gItem (mVar 10) (mC (.int 0))) (mC (.str "failed")))) (mVar 10) (mTup (mCons (mC (.str "value")) (mCons (mMeth "MachineCall" "value" (ck.f .m_MachineCall_value) (mVar 7) (mCons (mBin gItem (mVar 10) (mC (.int 1))) mNil)) mNil)))) mNil))) mNil)))
    (mAsg (mLc (mAnyI (mVar 11)) (ngName 12) mYes (mMeth "MachineCall" "object_at" (ck.f .m_MachineCall_object_at) (mVar 7) (mCons (mVar 12) mNil)) [12]) (nName 3))))))))
    (mRet (mVar 4))))))))
noncomputable def f_run_machine (ck : Tabl) (h : Nat → Tabl) (k : Nat) : MF := fun ds m => endOf (b_run_machine ck h k (startM 13 ds) m)
theorem ok_run_machine {M : Mode} {P : Program} {w : World} {K : PySem.W.Frag} {mg : Str → Option Value} {base : Heap} {k : Nat} {f : Addr} {fd : FuncData} {ck : Tabl} {h : Nat → Tabl} (Fu : Fun K "run_machine" "run_machine" s_run_machine f fd) (T : Txt K w mg) (I_check_history : FnX M P w K mg base (lv k) "check_history" 2 (ck.f .check_history)) (I_check_machine : FnX M P w K mg base (lv k) "check_machine" 1 (ck.f .check_machine)) (I_m_MachineCall_end_of : MthX M P w K mg base (lv k) "MachineCall" "end_of" 1 (ck.f .m_MachineCall_end_of)) (I_m_MachineCall_object_at : MthX M P w K mg base (lv k) "MachineCall" "object_at" 1 (ck.f .m_MachineCall_object_at)) (I_m_MachineCall_value : MthX M P w K mg base (lv k) "MachineCall" "value" 1 (ck.f .m_MachineCall_value)) (IS_i_MachineCall : ∀ j, j < k → MkX M P w K mg base (lv j) "MachineCall" 4 ((h j).f .i_MachineCall)) :
    FnOk P w K mg base (M.CX P w) (lv k + 1) f fd ["machine", "history"] (spM K 2 (f_run_machine ck h k)) :=
  have nd := sc_run_machine.nd
  fnx_ok (M := M) (g := b_run_machine ck h k) Fu sc_run_machine rfl (fun _ _ _ => rfl) fun cdv A outer s H E hr W tk hp =>
    (jb_cons (js_expr (jx_call I_check_machine hr (Nat.le_refl _) tk (ja_cons (j_var 0) ja_nil) (hlen := (mCons_len mNil_len))))
    (jb_cons (js_expr (jx_call I_check_history hr (Nat.le_refl _) tk (ja_cons (j_var 0) (ja_cons (j_var 1) ja_nil)) (hlen := (mCons_len (mCons_len mNil_len)))))
    (jb_cons (js_set 2 nd (je_item (hu1 hr) (j_var 0) j_int))
    (jb_cons (js_set 3 nd (je_lst ja_nil))
    (jb_cons (js_set 4 nd (je_lst ja_nil))
    (jb_cons (js_for hp rfl (ji_enum T.b_enumerate (ja_cons (j_var 1) ja_nil)) (jg_tup rfl (jgs_cons (jg_name 5 nd) (jgs_cons (jg_name 6 nd) jgs_nil)))
    (jb_cons (js_set 7 nd (je_pos (k := k) fun pos_ => jx_make (IS_i_MachineCall (k - 1) (by omega)) hr (lv_pos pos_) (ja_cons (j_var 0) (ja_cons (j_var 5) (ja_cons (j_var 3) (ja_cons (j_var 6) ja_nil)))) (hlen := (mCons_len (mCons_len (mCons_len (mCons_len mNil_len)))))))
    (jb_cons (js_set 8 nd (jx_meth I_m_MachineCall_end_of hr (Nat.le_refl _) tk (j_var 7) (ja_cons (je_item (hu1 hr) (je_item (hu1 hr) (je_item (hu1 hr) (j_var 0) j_int) (j_var 2)) j_int) ja_nil) (hlen := (mCons_len mNil_len))))
    (jb_cons (js_if (jt_cmp op_isN om_isN (j_var 8) j_non)
    (jb_cons (js_expr (je_bmL PySem.F.slot_list_append PySem.F.type_list_append mt_append mm_append (j_var 4) (ja_cons (je_tup (ja_cons (je_fld (j_var 7) T.f_events) (ja_cons (je_tup (ja_cons j_str ja_nil)) ja_nil))) ja_nil)))
    (jb_one js_brk))
    jb_nil)
    (jb_cons (js_asg (j_var 8) (jg_tup rfl (jgs_cons (jg_name 9 nd) (jgs_cons (jg_name 10 nd) (jgs_cons (jg_name 2 nd) (jgs_cons (jg_name 11 nd) jgs_nil))))))
    (jb_cons (js_expr (je_bmL PySem.F.slot_list_append PySem.F.type_list_append mt_append mm_append (j_var 4) (ja_cons (je_tup (ja_cons (je_fld (j_var 7) T.f_events) (ja_cons (je_if (jt_cmp (op_eqA (hu64 hr)) om_eqA (je_item (hu1 hr) (j_var 10) j_int) j_str) (j_var 10) (je_tup (ja_cons j_str (ja_cons (jx_meth I_m_MachineCall_value hr (Nat.le_refl _) tk (j_var 7) (ja_cons (je_item (hu1 hr) (j_var 10) j_int) ja_nil) (hlen := (mCons_len mNil_len))) ja_nil)))) ja_nil))) ja_nil)))
    (jb_one (js_setLc 3 [("operand", 12)] rfl rfl nd (ji_any (j_var 11)) (blkOk_by (N := ["machine", "history", "state", "held", "told", "number", "call", "run", "end", "_", "outcome", "hold", "operand"]) (sc := defScope s_run_machine) (by decide +kernel)) (fun _ _ _ _ _ => (jn_name 12 nd)) (fun _ _ _ _ _ => jts_nil) (fun _ _ _ _ _ => (jx_meth I_m_MachineCall_object_at hr (Nat.le_refl _) M.tk0 (j_var 7) (ja_cons (j_var 12) ja_nil) (hlen := (mCons_len mNil_len)))) (hgs_name)))))))))
    (jb_one (js_ret (j_var 4)))))))))
abbrev s_l_source : Stmt := topS 40
theorem sc_l_source : FnScope ["_law_script", "_law_cells", "_law_k"] ["_law_script"] (defScope s_l_source) := ⟨rfl, rfl, rfl, by decide +kernel, rfl, by decide +kernel, by decide +kernel⟩
noncomputable def b_l_source (ck : Tabl) : MS := (mSeq (mAsg (mSl (mVar 0) mNo (mEnd (mC (.int 63)))) (nName 1))
    (mSeq (mFor (mRng (mCons (mCall gLen (mCons (mVar 1) mNil)) mNil)) (nName 2)
    (mIfS (mB (mBin gGe (mCall gAbs (mCons (mBin gItem (mVar 1) (mVar 2)) mNil)) (mBin gPow (mC (.int 10)) (mC (.int 18)))))
    (mStore (mVar 1) (mVar 2) (mBin gMod (mCall gInt (mCons (mBin gItem (mVar 1) (mVar 2)) mNil)) (mBin gPow (mBin gPow (mC (.int 10)) (mC (.int 60))) (mC (.int 20)))))
    mSkip))
    (mSeq (mIfS (mB (mBin gEqE (mVar 1) (mLst mNil)))
    (mAsg (mLst (mCons (mC (.int 0)) mNil)) (nName 1))
    mSkip)
    (mRet (mLst (mCons (mVar 1) (mCons (mC (.int 0)) mNil)))))))
noncomputable def f_l_source (ck : Tabl) : MF := fun ds m => endOf (b_l_source ck (startM 3 ds) m)
theorem ok_l_source {M : Mode} {P : Program} {w : World} {K : PySem.W.Frag} {mg : Str → Option Value} {base : Heap} {k : Nat} {f : Addr} {fd : FuncData} {ck : Tabl} (Fu : Fun K "_law_source" "_law_source" s_l_source f fd) (T : Txt K w mg) :
    FnOk P w K mg base (M.CX P w) (lv k + 1) f fd ["_law_script"] (spM K 1 (f_l_source ck)) :=
  have nd := sc_l_source.nd
  fnx_ok (M := M) (g := b_l_source ck) Fu sc_l_source rfl (fun _ _ _ => rfl) fun cdv A outer s H E hr W tk hp =>
    (jb_cons (js_set 1 nd (je_sl (j_var 0) jo_no (jo_end j_int)))
    (jb_cons (js_for hp rfl (ji_rng1 T.b_range (ja_cons (je_callB cr_len cm_len T.b_len PySem.boot_len (ja_cons (j_var 1) ja_nil)) ja_nil)) (jg_name 2 nd)
    (jb_one (js_if (jt_cmp op_ge om_ge (je_callB call_abs cm_abs T.b_abs (by decide +kernel) (ja_cons (je_item (hu1 hr) (j_var 1) (j_var 2)) ja_nil)) (j_op op_powW om_pow j_int j_int))
    (jb_one (js_store (hu1 hr) (j_var 1) (j_var 2) (j_var 1) (j_var 2) (j_op op_mod om_mod (je_callTy call_int1 cm_int T.b_int (by decide +kernel) (ja_cons (je_item (hu1 hr) (j_var 1) (j_var 2)) ja_nil)) (j_op op_powW om_pow (j_op op_powW om_pow j_int j_int) j_int))))
    jb_nil)))
    (jb_cons (js_if (jt_cmp (op_eqE (hu0 hr)) om_eqE (j_var 1) (je_lst ja_nil))
    (jb_one (js_set 1 nd (je_lst (ja_cons j_int ja_nil))))
    jb_nil)
    (jb_one (js_ret (je_lst (ja_cons (j_var 1) (ja_cons j_int ja_nil))))))))
abbrev s_l_draw : Stmt := topS 41
theorem sc_l_draw : FnScope ["_law_source_here", "_law_limit", "_law_cells", "_law_turn", "_law_place", "_law_cell", "_law_number"] ["_law_source_here", "_law_limit"] (defScope s_l_draw) := ⟨rfl, rfl, rfl, by decide +kernel, rfl, by decide +kernel, by decide +kernel⟩
noncomputable def b_l_draw (ck : Tabl) : MS := (mSeq (mAsg (mVar 0) (nTup 2 (nCons (nName 2) (nCons (nName 3) nNil))))
    (mSeq (mAsg (mBin gMod (mCall gInt (mCons (mVar 3) mNil)) (mCall gLen (mCons (mVar 2) mNil))) (nName 4))
    (mSeq (mAsg (mBin gItem (mVar 2) (mVar 4)) (nName 5))
    (mSeq (mStore (mVar 0) (mC (.int 1)) (mBin gAdd (mVar 3) (mC (.int 1))))
    (mSeq (mIfS (mB (mBin gGe (mVar 5) (mBin gPow (mC (.int 10)) (mC (.int 18)))))
    (mSeq (mStore (mVar 2) (mVar 4) (mBin gDiv (mVar 5) (mVar 1)))
    (mRet (mBin gMod (mCall gInt (mCons (mVar 5) mNil)) (mVar 1))))
    mSkip)
    (mSeq (mAsg (mBin gMod (mCall gInt (mCons (mBin gAdd (mBin gAdd (mBin gMul (mBin gMod (mCall gInt (mCons (mVar 5) mNil)) (mC (.int 2147483629))) (mC (.int 48271))) (mBin gMul (mBin gMul (mVar 3) (mVar 3)) (mC (.int 69621)))) (mC (.int 11))) mNil)) (mC (.int 2147483647))) (nName 6))
    (mSeq (mAsg (mBin gMod (mCall gInt (mCons (mBin gMul (mVar 6) (mVar 6)) mNil)) (mC (.int 2147483629))) (nName 6))
    (mSeq (mAsg (mBin gMod (mCall gInt (mCons (mBin gMul (mVar 6) (mVar 6)) mNil)) (mC (.int 2147483587))) (nName 6))
    (mRet (mBin gMod (mCall gInt (mCons (mVar 6) mNil)) (mVar 1)))))))))))
noncomputable def f_l_draw (ck : Tabl) : MF := fun ds m => endOf (b_l_draw ck (startM 7 ds) m)
theorem ok_l_draw {M : Mode} {P : Program} {w : World} {K : PySem.W.Frag} {mg : Str → Option Value} {base : Heap} {k : Nat} {f : Addr} {fd : FuncData} {ck : Tabl} (Fu : Fun K "_law_draw" "_law_draw" s_l_draw f fd) (T : Txt K w mg) :
    FnOk P w K mg base (M.CX P w) (lv k + 1) f fd ["_law_source_here", "_law_limit"] (spM K 2 (f_l_draw ck)) :=
  have nd := sc_l_draw.nd
  fnx_ok (M := M) (g := b_l_draw ck) Fu sc_l_draw rfl (fun _ _ _ => rfl) fun cdv A outer s H E hr W tk hp =>
    (jb_cons (js_asg (j_var 0) (jg_tup rfl (jgs_cons (jg_name 2 nd) (jgs_cons (jg_name 3 nd) jgs_nil))))
    (jb_cons (js_set 4 nd (j_op op_mod om_mod (je_callTy call_int1 cm_int T.b_int (by decide +kernel) (ja_cons (j_var 3) ja_nil)) (je_callB cr_len cm_len T.b_len PySem.boot_len (ja_cons (j_var 2) ja_nil))))
    (jb_cons (js_set 5 nd (je_item (hu1 hr) (j_var 2) (j_var 4)))
    (jb_cons (js_store (hu1 hr) (j_var 0) j_int (j_var 0) j_int (j_op op_addA om_add (j_var 3) j_int))
    (jb_cons (js_if (jt_cmp op_ge om_ge (j_var 5) (j_op op_powW om_pow j_int j_int))
    (jb_cons (js_store (hu1 hr) (j_var 2) (j_var 4) (j_var 2) (j_var 4) (j_op op_fdivW om_div (j_var 5) (j_var 1)))
    (jb_one (js_ret (j_op op_mod om_mod (je_callTy call_int1 cm_int T.b_int (by decide +kernel) (ja_cons (j_var 5) ja_nil)) (j_var 1)))))
    jb_nil)
    (jb_cons (js_set 6 nd (j_op op_mod om_mod (je_callTy call_int1 cm_int T.b_int (by decide +kernel) (ja_cons (j_op op_addA om_add (j_op op_addA om_add (j_op op_mulA om_mul (j_op op_mod om_mod (je_callTy call_int1 cm_int T.b_int (by decide +kernel) (ja_cons (j_var 5) ja_nil)) j_int) j_int) (j_op op_mulA om_mul (j_op op_mulA om_mul (j_var 3) (j_var 3)) j_int)) j_int) ja_nil)) j_int))
    (jb_cons (js_set 6 nd (j_op op_mod om_mod (je_callTy call_int1 cm_int T.b_int (by decide +kernel) (ja_cons (j_op op_mulA om_mul (j_var 6) (j_var 6)) ja_nil)) j_int))
    (jb_cons (js_set 6 nd (j_op op_mod om_mod (je_callTy call_int1 cm_int T.b_int (by decide +kernel) (ja_cons (j_op op_mulA om_mul (j_var 6) (j_var 6)) ja_nil)) j_int))
    (jb_one (js_ret (j_op op_mod om_mod (je_callTy call_int1 cm_int T.b_int (by decide +kernel) (ja_cons (j_var 6) ja_nil)) (j_var 1))))))))))))
abbrev s_l_pick : Stmt := topS 42
theorem sc_l_pick : FnScope ["_law_source_here", "_law_values"] ["_law_source_here", "_law_values"] (defScope s_l_pick) := ⟨rfl, rfl, rfl, by decide +kernel, rfl, by decide +kernel, by decide +kernel⟩
noncomputable def b_l_pick (ck : Tabl) : MS := (mRet (mBin gItem (mVar 1) (mCall (ck.f .l_draw) (mCons (mVar 0) (mCons (mCall gLen (mCons (mVar 1) mNil)) mNil)))))
noncomputable def f_l_pick (ck : Tabl) : MF := fun ds m => endOf (b_l_pick ck (startM 2 ds) m)
theorem ok_l_pick {M : Mode} {P : Program} {w : World} {K : PySem.W.Frag} {mg : Str → Option Value} {base : Heap} {k : Nat} {f : Addr} {fd : FuncData} {ck : Tabl} (Fu : Fun K "_law_pick" "_law_pick" s_l_pick f fd) (T : Txt K w mg) (I_l_draw : FnX M P w K mg base (lv k) "_law_draw" 2 (ck.f .l_draw)) :
    FnOk P w K mg base (M.CX P w) (lv k + 1) f fd ["_law_source_here", "_law_values"] (spM K 2 (f_l_pick ck)) :=
  have nd := sc_l_pick.nd
  fnx_ok (M := M) (g := b_l_pick ck) Fu sc_l_pick rfl (fun _ _ _ => rfl) fun cdv A outer s H E hr W tk hp =>
    (jb_one (js_ret (je_item (hu1 hr) (j_var 1) (jx_call I_l_draw hr (Nat.le_refl _) tk (ja_cons (j_var 0) (ja_cons (je_callB cr_len cm_len T.b_len PySem.boot_len (ja_cons (j_var 1) ja_nil)) ja_nil)) (hlen := (mCons_len (mCons_len mNil_len)))))))
abbrev s_l_value_in : Stmt := topS 43
theorem sc_l_value_in : FnScope ["_law_call", "_law_operand_here"] ["_law_call", "_law_operand_here"] (defScope s_l_value_in) := ⟨rfl, rfl, rfl, by decide +kernel, rfl, by decide +kernel, by decide +kernel⟩
noncomputable def b_l_value_in (ck : Tabl) : MS := (mRet (mNGet2 (mBin gItem (mVar 0) (mC (.int 0))) (mVar 1) (mVar 1)))
noncomputable def f_l_value_in (ck : Tabl) : MF := fun ds m => endOf (b_l_value_in ck (startM 2 ds) m)
theorem ok_l_value_in {M : Mode} {P : Program} {w : World} {K : PySem.W.Frag} {mg : Str → Option Value} {base : Heap} {k : Nat} {f : Addr} {fd : FuncData} {ck : Tabl} (Fu : Fun K "_law_value_in" "_law_value_in" s_l_value_in f fd) (T : Txt K w mg) :
    FnOk P w K mg base (M.CX P w) (lv k + 1) f fd ["_law_call", "_law_operand_here"] (spM K 2 (f_l_value_in ck)) :=
  have nd := sc_l_value_in.nd
  fnx_ok (M := M) (g := b_l_value_in ck) Fu sc_l_value_in rfl (fun _ _ _ => rfl) fun cdv A outer s H E hr W tk hp =>
    (jb_one (js_ret (je_nget2 T.wd hr.units (je_item (hu1 hr) (j_var 0) j_int) (j_var 1) (j_var 1))))
abbrev s_l_kind_in : Stmt := topS 44
theorem sc_l_kind_in : FnScope ["_law_call", "_law_operand_here", "_law_value"] ["_law_call", "_law_operand_here"] (defScope s_l_kind_in) := ⟨rfl, rfl, rfl, by decide +kernel, rfl, by decide +kernel, by decide +kernel⟩
noncomputable def b_l_kind_in (ck : Tabl) : MS := (mSeq (mAsg (mCall (ck.f .l_value_in) (mCons (mVar 0) (mCons (mVar 1) mNil))) (nName 2))
    (mSeq (mIfS (mB (mBin (gEqA false) (mBin gItem (mVar 2) (mC (.int 0))) (mC (.str "object"))))
    (mRet (mBin gItemN (mBin gItem (mVar 0) (mC (.int 1))) (mBin gItem (mVar 2) (mC (.int 1)))))
    mSkip)
    (mRet (mC (.str "n")))))
noncomputable def f_l_kind_in (ck : Tabl) : MF := fun ds m => endOf (b_l_kind_in ck (startM 3 ds) m)
theorem ok_l_kind_in {M : Mode} {P : Program} {w : World} {K : PySem.W.Frag} {mg : Str → Option Value} {base : Heap} {k : Nat} {f : Addr} {fd : FuncData} {ck : Tabl} (Fu : Fun K "_law_kind_in" "_law_kind_in" s_l_kind_in f fd) (T : Txt K w mg) (I_l_value_in : FnX M P w K mg base (lv k) "_law_value_in" 2 (ck.f .l_value_in)) :
    FnOk P w K mg base (M.CX P w) (lv k + 1) f fd ["_law_call", "_law_operand_here"] (spM K 2 (f_l_kind_in ck)) :=
  have nd := sc_l_kind_in.nd
  fnx_ok (M := M) (g := b_l_kind_in ck) Fu sc_l_kind_in rfl (fun _ _ _ => rfl) fun cdv A outer s H E hr W tk hp =>
    (jb_cons (js_set 2 nd (jx_call I_l_value_in hr (Nat.le_refl _) tk (ja_cons (j_var 0) (ja_cons (j_var 1) ja_nil)) (hlen := (mCons_len (mCons_len mNil_len)))))
    (jb_cons (js_if (jt_cmp (op_eqA (hu64 hr)) om_eqA (je_item (hu1 hr) (j_var 2) j_int) j_str)
    (jb_one (js_ret (je_itemN T.wd hr.units (je_item (hu1 hr) (j_var 0) j_int) (je_item (hu1 hr) (j_var 2) j_int))))
    jb_nil)
    (jb_one (js_ret j_str))))
abbrev s_l_tree_end : Stmt := topS 45
theorem sc_l_tree_end : FnScope ["_law_call", "_law_tree_here", "_law_answers", "_law_number", "_law_at", "_law_mark", "_law_operand_here"] ["_law_call", "_law_tree_here", "_law_answers", "_law_number"] (defScope s_l_tree_end) := ⟨rfl, rfl, rfl, by decide +kernel, rfl, by decide +kernel, by decide +kernel⟩
noncomputable def b_l_tree_end (ck : Tabl) : MS := (mSeq (whileM (mB (mBin (gEqA true) (mBin gItem (mVar 1) (mC (.int 0))) (mC (.str "end"))))
    (mIfS (mB (mBin (gEqA false) (mBin gItem (mVar 1) (mC (.int 0))) (mC (.str "test"))))
    (mAsg (mBin gItemN (mBin gItem (mVar 1) (mC (.int 2))) (mBM gIdx (mLst (mCons (mC (.str "t")) (mCons (mC (.str "f")) (mCons (mC (.str "n")) mNil)))) (mCons (mCall (ck.f .l_kind_in) (mCons (mVar 0) (mCons (mBin gItem (mVar 1) (mC (.int 1))) mNil))) mNil))) (nName 1))
    (mSeq (mAsg (mCall gLen (mCons (mBin gItem (mVar 0) (mC (.int 2))) mNil)) (nName 4))
    (mSeq (mDrop (mBM gAppend (mBin gItem (mVar 0) (mC (.int 2))) (mCons (mTup (mCons (mBin gItem (mVar 1) (mC (.int 1))) (mCons (mCall gTuple (mCons (mLc (mAnyI (mBin gItem (mVar 1) (mC (.int 2)))) (ngName 6) mYes (mCall (ck.f .l_value_in) (mCons (mVar 0) (mCons (mVar 6) mNil))) [6]) mNil)) mNil))) mNil)))
    (mSeq (mIfS (mB (mBin gGe (mVar 4) (mCall gLen (mCons (mVar 2) mNil))))
    (mRet (mC .non))
    mSkip)
    (mSeq (mAsg (mTup (mCons (mC (.str "event")) (mCons (mVar 4) mNil))) (nName 5))
    (mSeq (mAsg (mBin gItemN (mBin gItem (mVar 1) (mC (.int 3))) (mCall gInt (mCons (mBin (gEqA false) (mBin gItemN (mVar 2) (mVar 4)) (mC (.str "x"))) mNil))) (nName 1))
    (mSeq (mNPut (mBin gItem (mVar 0) (mC (.int 1))) (mTup (mCons (mVar 3) (mCons (mVar 5) mNil))) (mBin gItemN (mVar 2) (mVar 4)))
    (mSeq (mNPut (mBin gItem (mVar 0) (mC (.int 0))) (mVar 5) (mTup (mCons (mC (.str "object")) (mCons (mTup (mCons (mVar 3) (mCons (mVar 5) mNil))) mNil))))
    (mIfS (mB (mBin (gEqA false) (mBin gItemN (mVar 2) (mVar 4)) (mC (.str "n"))))
    (mNPut (mBin gItem (mVar 0) (mC (.int 0))) (mVar 5) (mTup (mCons (mC (.str "none")) mNil)))
    mSkip))))))))) turns)
    (mRet (mVar 1)))
noncomputable def f_l_tree_end (ck : Tabl) : MF := fun ds m => endOf (b_l_tree_end ck (startM 7 ds) m)
theorem ok_l_tree_end {M : Mode} {P : Program} {w : World} {K : PySem.W.Frag} {mg : Str → Option Value} {base : Heap} {k : Nat} {f : Addr} {fd : FuncData} {ck : Tabl} (Fu : Fun K "_law_tree_end" "_law_tree_end" s_l_tree_end f fd) (T : Txt K w mg) (I_l_kind_in : FnX M P w K mg base (lv k) "_law_kind_in" 2 (ck.f .l_kind_in)) (I_l_value_in : FnX M P w K mg base (lv k) "_law_value_in" 2 (ck.f .l_value_in)) :
    FnOk P w K mg base (M.CX P w) (lv k + 1) f fd ["_law_call", "_law_tree_here", "_law_answers", "_law_number"] (spM K 4 (f_l_tree_end ck)) :=
  have nd := sc_l_tree_end.nd
  fnx_ok (M := M) (g := b_l_tree_end ck) Fu sc_l_tree_end rfl (fun _ _ _ => rfl) fun cdv A outer s H E hr W tk hp =>
    (jb_cons (js_while turns hp (jt_cmp (op_neA (hu64 hr)) om_neA (je_item (hu1 hr) (j_var 1) j_int) j_str)
    (jb_one (js_if (jt_cmp (op_eqA (hu64 hr)) om_eqA (je_item (hu1 hr) (j_var 1) j_int) j_str)
    (jb_one (js_set 1 nd (je_itemN T.wd hr.units (je_item (hu1 hr) (j_var 1) j_int) (je_bmL PySem.F.slot_list_index PySem.F.type_list_index mt_index mm_idx (je_lst (ja_cons j_str (ja_cons j_str (ja_cons j_str ja_nil)))) (ja_cons (jx_call I_l_kind_in hr (Nat.le_refl _) tk (ja_cons (j_var 0) (ja_cons (je_item (hu1 hr) (j_var 1) j_int) ja_nil)) (hlen := (mCons_len (mCons_len mNil_len)))) ja_nil)))))
    (jb_cons (js_set 4 nd (je_callB cr_len cm_len T.b_len PySem.boot_len (ja_cons (je_item (hu1 hr) (j_var 0) j_int) ja_nil)))
    (jb_cons (js_expr (je_bmL PySem.F.slot_list_append PySem.F.type_list_append mt_append mm_append (je_item (hu1 hr) (j_var 0) j_int) (ja_cons (je_tup (ja_cons (je_item (hu1 hr) (j_var 1) j_int) (ja_cons (je_callTy call_tuple_of cm_tuple T.b_tuple (by decide +kernel) (ja_cons (je_lc [("_law_operand_here", 6)] rfl rfl nd (ji_any (je_item (hu1 hr) (j_var 1) j_int)) (blkOk_by (N := ["_law_call", "_law_tree_here", "_law_answers", "_law_number", "_law_at", "_law_mark", "_law_operand_here"]) (sc := defScope s_l_tree_end) (by decide +kernel)) (fun _ _ _ _ _ => (jn_name 6 nd)) (fun _ _ _ _ _ => jts_nil) (fun _ _ _ _ _ => (jx_call I_l_value_in hr (Nat.le_refl _) M.tk0 (ja_cons (j_var 0) (ja_cons (j_var 6) ja_nil)) (hlen := (mCons_len (mCons_len mNil_len))))) (hgs_name)) ja_nil)) ja_nil))) ja_nil)))
    (jb_cons (js_if (jt_cmp op_ge om_ge (j_var 4) (je_callB cr_len cm_len T.b_len PySem.boot_len (ja_cons (j_var 2) ja_nil)))
    (jb_one (js_ret j_non))
    jb_nil)
    (jb_cons (js_set 5 nd (je_tup (ja_cons j_str (ja_cons (j_var 4) ja_nil))))
    (jb_cons (js_set 1 nd (je_itemN T.wd hr.units (je_item (hu1 hr) (j_var 1) j_int) (je_callTy call_int1 cm_int T.b_int (by decide +kernel) (ja_cons (j_cmp (op_eqA (hu64 hr)) om_eqA (je_itemN T.wd hr.units (j_var 2) (j_var 4)) j_str) ja_nil))))
    (jb_cons (js_nput T.wd hr.units (je_item (hu1 hr) (j_var 0) j_int) (je_tup (ja_cons (j_var 3) (ja_cons (j_var 5) ja_nil))) (je_itemN T.wd hr.units (j_var 2) (j_var 4)))
    (jb_cons (js_nput T.wd hr.units (je_item (hu1 hr) (j_var 0) j_int) (j_var 5) (je_tup (ja_cons j_str (ja_cons (je_tup (ja_cons (j_var 3) (ja_cons (j_var 5) ja_nil))) ja_nil))))
    (jb_one (js_if (jt_cmp (op_eqA (hu64 hr)) om_eqA (je_itemN T.wd hr.units (j_var 2) (j_var 4)) j_str)
    (jb_one (js_nput T.wd hr.units (je_item (hu1 hr) (j_var 0) j_int) (j_var 5) (je_tup (ja_cons j_str ja_nil))))
    jb_nil))))))))))))
    (jb_one (js_ret (j_var 1))))
abbrev s_l_follow : Stmt := topS 46
theorem sc_l_follow : FnScope ["_law_machine_made", "_law_history", "_law_parameters", "_law_state", "_law_states", "_law_held", "_law_known", "_law_told", "_law_visited", "_law_number", "_law_kinds", "_law_answers", "_law_call", "_law_k", "_law_end_here", "_law_outcome", "_law_source_here", "_law_operand_here"] ["_law_machine_made", "_law_history"] (defScope s_l_follow) := ⟨rfl, rfl, rfl, by decide +kernel, rfl, by decide +kernel, by decide +kernel⟩
noncomputable def b_l_follow (ck : Tabl) : MS := (mSeq (mAsg (mVar 0) (nTup 3 (nCons (nName 2) (nCons (nName 3) (nCons (nName 4) nNil)))))
    (mSeq (mAsg (mLst mNil) (nName 5))
    (mSeq (mAsg mDNew (nName 6))
    (mSeq (mAsg (mLst mNil) (nName 7))
    (mSeq (mAsg (mLst (mCons (mBin gItem (mBin gItemN (mVar 4) (mVar 3)) (mC (.int 0))) mNil)) (nName 8))
    (mSeq (mFor (mRng (mCons (mCall gLen (mCons (mVar 1) mNil)) mNil)) (nName 9)
    (mSeq (mAsg (mBin gItemN (mVar 1) (mVar 9)) (nTup 2 (nCons (nName 10) (nCons (nName 11) nNil))))
    (mSeq (mAsg (mLst (mCons mDNew (mCons (mVar 6) (mCons (mLst mNil) mNil)))) (nName 12))
    (mSeq (mFor (mRng (mCons (mCall gLen (mCons (mVar 5) mNil)) mNil)) (nName 13)
    (mNPut (mBin gItem (mVar 12) (mC (.int 0))) (mTup (mCons (mC (.str "place")) (mCons (mVar 13) mNil))) (mBin gItemN (mVar 5) (mVar 13))))
    (mSeq (mFor (mRng (mCons (mCall gLen (mCons (mVar 2) mNil)) mNil)) (nName 13)
    (mSeq (mAsg (mTup (mCons (mVar 9) (mCons (mTup (mCons (mC (.str "name")) (mCons (mBin gItemN (mVar 2) (mVar 13)) mNil))) mNil))) (nName 16))
    (mSeq (mNPut (mVar 6) (mVar 16) (mBin gItemN (mVar 10) (mVar 13)))
    (mSeq (mNPut (mBin gItem (mVar 12) (mC (.int 0))) (mTup (mCons (mC (.str "parameter")) (mCons (mVar 13) mNil))) (mTup (mCons (mC (.str "object")) (mCons (mVar 16) mNil))))
    (mIfS (mB (mBin (gEqA false) (mBin gItemN (mVar 10) (mVar 13)) (mC (.str "n"))))
    (mNPut (mBin gItem (mVar 12) (mC (.int 0))) (mTup (mCons (mC (.str "parameter")) (mCons (mVar 13) mNil))) (mTup (mCons (mC (.str "none")) mNil)))
    mSkip)))))
    (mSeq (mAsg (mCall (ck.f .l_tree_end) (mCons (mVar 12) (mCons (mBin gItem (mBin gItemN (mVar 4) (mVar 3)) (mC (.int 1))) (mCons (mVar 11) (mCons (mVar 9) mNil))))) (nName 14))
    (mSeq (mIfS (mB (mBin gIsN (mVar 14) (mC .non)))
    (mRet (mTup (mCons (mBin gAdd (mVar 7) (mLst (mCons (mTup (mCons (mBin gItem (mVar 12) (mC (.int 2))) (mCons (mTup (mCons (mC (.str "wanting")) mNil)) mNil))) mNil))) (mCons (mVar 8) mNil))))
    mSkip)
    (mSeq (mAsg (mBin gItem (mVar 14) (mC (.int 1))) (nName 15))
    (mSeq (mIfS (mB (mBin (gEqA false) (mBin gItem (mVar 15) (mC (.int 0))) (mC (.str "value"))))
    (mAsg (mTup (mCons (mC (.str "value")) (mCons (mCall (ck.f .l_value_in) (mCons (mVar 12) (mCons (mBin gItem (mVar 15) (mC (.int 1))) mNil))) mNil))) (nName 15))
    mSkip)
    (mSeq (mDrop (mBM gAppend (mVar 7) (mCons (mTup (mCons (mBin gItem (mVar 12) (mC (.int 2))) (mCons (mVar 15) mNil))) mNil)))
    (mSeq (mAsg (mLc (mAnyI (mBin gItem (mVar 14) (mC (.int 3)))) (ngName 17) mYes (mCall (ck.f .l_value_in) (mCons (mVar 12) (mCons (mVar 17) mNil))) [17]) (nName 5))
    (mSeq (mAsg (mBin gItem (mVar 14) (mC (.int 2))) (nName 3))
    (mDrop (mBM gAppend (mVar 8) (mCons (mBin gItem (mBin gItemN (mVar 4) (mVar 3)) (mC (.int 0))) mNil)))))))))))))))
    (mRet (mTup (mCons (mVar 7) (mCons (mVar 8) mNil))))))))))
noncomputable def f_l_follow (ck : Tabl) : MF := fun ds m => endOf (b_l_follow ck (startM 18 ds) m)
theorem ok_l_follow {M : Mode} {P : Program} {w : World} {K : PySem.W.Frag} {mg : Str → Option Value} {base : Heap} {k : Nat} {f : Addr} {fd : FuncData} {ck : Tabl} (Fu : Fun K "_law_follow" "_law_follow" s_l_follow f fd) (T : Txt K w mg) (I_l_tree_end : FnX M P w K mg base (lv k) "_law_tree_end" 4 (ck.f .l_tree_end)) (I_l_value_in : FnX M P w K mg base (lv k) "_law_value_in" 2 (ck.f .l_value_in)) :
    FnOk P w K mg base (M.CX P w) (lv k + 1) f fd ["_law_machine_made", "_law_history"] (spM K 2 (f_l_follow ck)) :=
  have nd := sc_l_follow.nd
  fnx_ok (M := M) (g := b_l_follow ck) Fu sc_l_follow rfl (fun _ _ _ => rfl) fun cdv A outer s H E hr W tk hp =>
    (jb_cons (js_asg (j_var 0) (jg_tup rfl (jgs_cons (jg_name 2 nd) (jgs_cons (jg_name 3 nd) (jgs_cons (jg_name 4 nd) jgs_nil)))))
    (jb_cons (js_set 5 nd (je_lst ja_nil))
    (jb_cons (js_set 6 nd je_dnew)
    (jb_cons (js_set 7 nd (je_lst ja_nil))
    (jb_cons (js_set 8 nd (je_lst (ja_cons (je_item (hu1 hr) (je_itemN T.wd hr.units (j_var 4) (j_var 3)) j_int) ja_nil)))
    (jb_cons (js_for hp rfl (ji_rng1 T.b_range (ja_cons (je_callB cr_len cm_len T.b_len PySem.boot_len (ja_cons (j_var 1) ja_nil)) ja_nil)) (jg_name 9 nd)
    (jb_cons (js_asg (je_itemN T.wd hr.units (j_var 1) (j_var 9)) (jg_tup rfl (jgs_cons (jg_name 10 nd) (jgs_cons (jg_name 11 nd) jgs_nil))))
    (jb_cons (js_set 12 nd (je_lst (ja_cons je_dnew (ja_cons (j_var 6) (ja_cons (je_lst ja_nil) ja_nil)))))
    (jb_cons (js_for hp rfl (ji_rng1 T.b_range (ja_cons (je_callB cr_len cm_len T.b_len PySem.boot_len (ja_cons (j_var 5) ja_nil)) ja_nil)) (jg_name 13 nd)
    (jb_one (js_nput T.wd hr.units (je_item (hu1 hr) (j_var 12) j_int) (je_tup (ja_cons j_str (ja_cons (j_var 13) ja_nil))) (je_itemN T.wd hr.units (j_var 5) (j_var 13)))))
    (jb_cons (js_for hp rfl (ji_rng1 T.b_range (ja_cons (je_callB cr_len cm_len T.b_len PySem.boot_len (ja_cons (j_var 2) ja_nil)) ja_nil)) (jg_name 13 nd)
    (jb_cons (js_set 16 nd (je_tup (ja_cons (j_var 9) (ja_cons (je_tup (ja_cons j_str (ja_cons (je_itemN T.wd hr.units (j_var 2) (j_var 13)) ja_nil))) ja_nil))))
    (jb_cons (js_nput T.wd hr.units (j_var 6) (j_var 16) (je_itemN T.wd hr.units (j_var 10) (j_var 13)))
    (jb_cons (js_nput T.wd hr.units (je_item (hu1 hr) (j_var 12) j_int) (je_tup (ja_cons j_str (ja_cons (j_var 13) ja_nil))) (je_tup (ja_cons j_str (ja_cons (j_var 16) ja_nil))))
    (jb_one (js_if (jt_cmp (op_eqA (hu64 hr)) om_eqA (je_itemN T.wd hr.units (j_var 10) (j_var 13)) j_str)
    (jb_one (js_nput T.wd hr.units (je_item (hu1 hr) (j_var 12) j_int) (je_tup (ja_cons j_str (ja_cons (j_var 13) ja_nil))) (je_tup (ja_cons j_str ja_nil))))
    jb_nil))))))
    (jb_cons (js_set 14 nd (jx_call I_l_tree_end hr (Nat.le_refl _) tk (ja_cons (j_var 12) (ja_cons (je_item (hu1 hr) (je_itemN T.wd hr.units (j_var 4) (j_var 3)) j_int) (ja_cons (j_var 11) (ja_cons (j_var 9) ja_nil)))) (hlen := (mCons_len (mCons_len (mCons_len (mCons_len mNil_len)))))))
    (jb_cons (js_if (jt_cmp op_isN om_isN (j_var 14) j_non)
    (jb_one (js_ret (je_tup (ja_cons (j_op op_addA om_add (j_var 7) (je_lst (ja_cons (je_tup (ja_cons (je_item (hu1 hr) (j_var 12) j_int) (ja_cons (je_tup (ja_cons j_str ja_nil)) ja_nil))) ja_nil))) (ja_cons (j_var 8) ja_nil)))))
    jb_nil)
    (jb_cons (js_set 15 nd (je_item (hu1 hr) (j_var 14) j_int))
    (jb_cons (js_if (jt_cmp (op_eqA (hu64 hr)) om_eqA (je_item (hu1 hr) (j_var 15) j_int) j_str)
    (jb_one (js_set 15 nd (je_tup (ja_cons j_str (ja_cons (jx_call I_l_value_in hr (Nat.le_refl _) tk (ja_cons (j_var 12) (ja_cons (je_item (hu1 hr) (j_var 15) j_int) ja_nil)) (hlen := (mCons_len (mCons_len mNil_len)))) ja_nil)))))
    jb_nil)
    (jb_cons (js_expr (je_bmL PySem.F.slot_list_append PySem.F.type_list_append mt_append mm_append (j_var 7) (ja_cons (je_tup (ja_cons (je_item (hu1 hr) (j_var 12) j_int) (ja_cons (j_var 15) ja_nil))) ja_nil)))
    (jb_cons (js_setLc 5 [("_law_operand_here", 17)] rfl rfl nd (ji_any (je_item (hu1 hr) (j_var 14) j_int)) (blkOk_by (N := ["_law_machine_made", "_law_history", "_law_parameters", "_law_state", "_law_states", "_law_held", "_law_known", "_law_told", "_law_visited", "_law_number", "_law_kinds", "_law_answers", "_law_call", "_law_k", "_law_end_here", "_law_outcome", "_law_source_here", "_law_operand_here"]) (sc := defScope s_l_follow) (by decide +kernel)) (fun _ _ _ _ _ => (jn_name 17 nd)) (fun _ _ _ _ _ => jts_nil) (fun _ _ _ _ _ => (jx_call I_l_value_in hr (Nat.le_refl _) M.tk0 (ja_cons (j_var 12) (ja_cons (j_var 17) ja_nil)) (hlen := (mCons_len (mCons_len mNil_len))))) (hgs_name))
    (jb_cons (js_set 3 nd (je_item (hu1 hr) (j_var 14) j_int))
    (jb_one (js_expr (je_bmL PySem.F.slot_list_append PySem.F.type_list_append mt_append mm_append (j_var 8) (ja_cons (je_item (hu1 hr) (je_itemN T.wd hr.units (j_var 4) (j_var 3)) j_int) ja_nil))))))))))))))))
    (jb_one (js_ret (je_tup (ja_cons (j_var 7) (ja_cons (j_var 8) ja_nil)))))))))))
abbrev s_l_object : Stmt := topS 47
theorem sc_l_object : FnScope ["_law_source_here", "_law_places", "_law_many", "_law_events", "_law_some", "_law_k", "_law_j"] ["_law_source_here", "_law_places", "_law_many", "_law_events"] (defScope s_l_object) := ⟨rfl, rfl, rfl, by decide +kernel, rfl, by decide +kernel, by decide +kernel⟩
noncomputable def b_l_object (ck : Tabl) : MS := (mSeq (mAsg (mBin gAdd (mLc (mRng (mCons (mVar 1) mNil)) (ngName 5) mYes (mTup (mCons (mC (.str "place")) (mCons (mVar 5) mNil))) [5]) (mLc (mRng (mCons (mVar 2) mNil)) (ngName 5) mYes (mTup (mCons (mC (.str "parameter")) (mCons (mVar 5) mNil))) [5])) (nName 4))
    (mSeq (mAsg (mBin gAdd (mVar 4) (mLc (mRng (mCons (mCall gLen (mCons (mVar 3) mNil)) mNil)) (ngName 6) (mTru (mBin gItem (mVar 3) (mVar 6))) (mTup (mCons (mC (.str "event")) (mCons (mVar 6) mNil))) [6])) (nName 4))
    (mSeq (mIfS (mB (mBin gEqE (mVar 4) (mLst mNil)))
    (mRet (mC .non))
    mSkip)
    (mRet (mCall (ck.f .l_pick) (mCons (mVar 0) (mCons (mVar 4) mNil)))))))
noncomputable def f_l_object (ck : Tabl) : MF := fun ds m => endOf (b_l_object ck (startM 7 ds) m)
theorem ok_l_object {M : Mode} {P : Program} {w : World} {K : PySem.W.Frag} {mg : Str → Option Value} {base : Heap} {k : Nat} {f : Addr} {fd : FuncData} {ck : Tabl} (Fu : Fun K "_law_object" "_law_object" s_l_object f fd) (T : Txt K w mg) (I_l_pick : FnX M P w K mg base (lv k) "_law_pick" 2 (ck.f .l_pick)) :
    FnOk P w K mg base (M.CX P w) (lv k + 1) f fd ["_law_source_here", "_law_places", "_law_many", "_law_events"] (spM K 4 (f_l_object ck)) :=
  have nd := sc_l_object.nd
  fnx_ok (M := M) (g := b_l_object ck) Fu sc_l_object rfl (fun _ _ _ => rfl) fun cdv A outer s H E hr W tk hp =>
    (jb_cons (js_set 4 nd (j_op op_addA om_add (je_lc [("_law_k", 5)] rfl rfl nd (ji_rng1 T.b_range (ja_cons (j_var 1) ja_nil)) (blkOk_by (N := ["_law_source_here", "_law_places", "_law_many", "_law_events", "_law_some", "_law_k", "_law_j"]) (sc := defScope s_l_object) (by decide +kernel)) (fun _ _ _ _ _ => (jn_name 5 nd)) (fun _ _ _ _ _ => jts_nil) (fun _ _ _ _ _ => (je_tup (ja_cons j_str (ja_cons (j_var 5) ja_nil)))) (hgs_name)) (je_lc [("_law_k", 5)] rfl rfl nd (ji_rng1 T.b_range (ja_cons (j_var 2) ja_nil)) (blkOk_by (N := ["_law_source_here", "_law_places", "_law_many", "_law_events", "_law_some", "_law_k", "_law_j"]) (sc := defScope s_l_object) (by decide +kernel)) (fun _ _ _ _ _ => (jn_name 5 nd)) (fun _ _ _ _ _ => jts_nil) (fun _ _ _ _ _ => (je_tup (ja_cons j_str (ja_cons (j_var 5) ja_nil)))) (hgs_name))))
    (jb_cons (js_set 4 nd (j_op op_addA om_add (j_var 4) (je_lc [("_law_j", 6)] rfl rfl nd (ji_rng1 T.b_range (ja_cons (je_callB cr_len cm_len T.b_len PySem.boot_len (ja_cons (j_var 3) ja_nil)) ja_nil)) (blkOk_by (N := ["_law_source_here", "_law_places", "_law_many", "_law_events", "_law_some", "_law_k", "_law_j"]) (sc := defScope s_l_object) (by decide +kernel)) (fun _ _ _ _ _ => (jn_name 6 nd)) (fun _ _ _ _ _ => (jts_one (jt_tru (je_item (hu1 hr) (j_var 3) (j_var 6))))) (fun _ _ _ _ _ => (je_tup (ja_cons j_str (ja_cons (j_var 6) ja_nil)))) (hgs_name))))
    (jb_cons (js_if (jt_cmp (op_eqE (hu0 hr)) om_eqE (j_var 4) (je_lst ja_nil))
    (jb_one (js_ret j_non))
    jb_nil)
    (jb_one (js_ret (jx_call I_l_pick hr (Nat.le_refl _) tk (ja_cons (j_var 0) (ja_cons (j_var 4) ja_nil)) (hlen := (mCons_len (mCons_len mNil_len)))))))))
abbrev s_l_operand : Stmt := topS 48
theorem sc_l_operand : FnScope ["_law_source_here", "_law_places", "_law_many", "_law_events", "_law_found"] ["_law_source_here", "_law_places", "_law_many", "_law_events"] (defScope s_l_operand) := ⟨rfl, rfl, rfl, by decide +kernel, rfl, by decide +kernel, by decide +kernel⟩
noncomputable def b_l_operand (ck : Tabl) : MS := (mSeq (mAsg (mCall (ck.f .l_object) (mCons (mVar 0) (mCons (mVar 1) (mCons (mVar 2) (mCons (mVar 3) mNil))))) (nName 4))
    (mSeq (mIfS (mOrT (mB (mBin gIsN (mVar 4) (mC .non))) (mB (mBin (gEqA false) (mCall (ck.f .l_draw) (mCons (mVar 0) (mCons (mC (.int 3)) mNil))) (mC (.int 0)))))
    (mRet (mTup (mCons (mCall (ck.f .l_pick) (mCons (mVar 0) (mCons (mLst (mCons (mC (.str "none")) (mCons (mC (.str "true")) (mCons (mC (.str "false")) mNil)))) mNil))) mNil)))
    mSkip)
    (mRet (mVar 4))))
noncomputable def f_l_operand (ck : Tabl) : MF := fun ds m => endOf (b_l_operand ck (startM 5 ds) m)
theorem ok_l_operand {M : Mode} {P : Program} {w : World} {K : PySem.W.Frag} {mg : Str → Option Value} {base : Heap} {k : Nat} {f : Addr} {fd : FuncData} {ck : Tabl} (Fu : Fun K "_law_operand" "_law_operand" s_l_operand f fd) (T : Txt K w mg) (I_l_draw : FnX M P w K mg base (lv k) "_law_draw" 2 (ck.f .l_draw)) (I_l_object : FnX M P w K mg base (lv k) "_law_object" 4 (ck.f .l_object)) (I_l_pick : FnX M P w K mg base (lv k) "_law_pick" 2 (ck.f .l_pick)) :
    FnOk P w K mg base (M.CX P w) (lv k + 1) f fd ["_law_source_here", "_law_places", "_law_many", "_law_events"] (spM K 4 (f_l_operand ck)) :=
  have nd := sc_l_operand.nd
  fnx_ok (M := M) (g := b_l_operand ck) Fu sc_l_operand rfl (fun _ _ _ => rfl) fun cdv A outer s H E hr W tk hp =>
    (jb_cons (js_set 4 nd (jx_call I_l_object hr (Nat.le_refl _) tk (ja_cons (j_var 0) (ja_cons (j_var 1) (ja_cons (j_var 2) (ja_cons (j_var 3) ja_nil)))) (hlen := (mCons_len (mCons_len (mCons_len (mCons_len mNil_len)))))))
    (jb_cons (js_if (jw_or (jt_cmp op_isN om_isN (j_var 4) j_non) (jw_or1 (jt_cmp (op_eqA (hu64 hr)) om_eqA (jx_call I_l_draw hr (Nat.le_refl _) tk (ja_cons (j_var 0) (ja_cons j_int ja_nil)) (hlen := (mCons_len (mCons_len mNil_len)))) j_int))).jt
    (jb_one (js_ret (je_tup (ja_cons (jx_call I_l_pick hr (Nat.le_refl _) tk (ja_cons (j_var 0) (ja_cons (je_lst (ja_cons j_str (ja_cons j_str (ja_cons j_str ja_nil)))) ja_nil)) (hlen := (mCons_len (mCons_len mNil_len)))) ja_nil))))
    jb_nil)
    (jb_one (js_ret (j_var 4)))))
abbrev s_l_end : Stmt := topS 49
theorem sc_l_end : FnScope ["_law_source_here", "_law_shape", "_law_places", "_law_events", "_law_many", "_law_counts", "_law_failed", "_law_outcome", "_law_number", "_law_j", "_law_k"] ["_law_source_here", "_law_shape", "_law_places", "_law_events"] (defScope s_l_end) := ⟨rfl, rfl, rfl, by decide +kernel, rfl, by decide +kernel, by decide +kernel⟩
noncomputable def b_l_end (ck : Tabl) : MS := (mSeq (mAsg (mVar 1) (nTup 2 (nCons (nName 4) (nCons (nName 5) nNil))))
    (mSeq (mAsg (mLc (mRng (mCons (mCall gLen (mCons (mVar 3) mNil)) mNil)) (ngName 9) (mNotT (mTru (mBin gItem (mVar 3) (mVar 9)))) (mVar 9) [9]) (nName 6))
    (mSeq (mAsg (mTup (mCons (mC (.str "value")) (mCons (mCall (ck.f .l_operand) (mCons (mVar 0) (mCons (mVar 2) (mCons (mVar 4) (mCons (mVar 3) mNil))))) mNil))) (nName 7))
    (mSeq (mIfS (mAndT (mB (mBin gNeE (mVar 6) (mLst mNil))) (mB (mBin (gEqA false) (mCall (ck.f .l_draw) (mCons (mVar 0) (mCons (mC (.int 2)) mNil))) (mC (.int 0)))))
    (mAsg (mTup (mCons (mC (.str "failed")) (mCons (mCall (ck.f .l_pick) (mCons (mVar 0) (mCons (mVar 6) mNil))) mNil))) (nName 7))
    mSkip)
    (mSeq (mAsg (mCall (ck.f .l_draw) (mCons (mVar 0) (mCons (mCall gLen (mCons (mVar 5) mNil)) mNil))) (nName 8))
    (mSeq (mIfS (mB (mBin gIsN (mCall (ck.f .l_object) (mCons (mVar 0) (mCons (mVar 2) (mCons (mVar 4) (mCons (mVar 3) mNil))))) (mC .non)))
    (mAsg (mBM gIdx (mVar 5) (mCons (mC (.int 0)) mNil)) (nName 8))
    mSkip)
    (mRet (mTup (mCons (mC (.str "end")) (mCons (mVar 7) (mCons (mVar 8) (mCons (mCall gTuple (mCons (mLc (mRng (mCons (mBin gItem (mVar 5) (mVar 8)) mNil)) (ngName 10) mYes (mCall (ck.f .l_object) (mCons (mVar 0) (mCons (mVar 2) (mCons (mVar 4) (mCons (mVar 3) mNil))))) [10]) mNil)) mNil))))))))))))
noncomputable def f_l_end (ck : Tabl) : MF := fun ds m => endOf (b_l_end ck (startM 11 ds) m)
theorem ok_l_end {M : Mode} {P : Program} {w : World} {K : PySem.W.Frag} {mg : Str → Option Value} {base : Heap} {k : Nat} {f : Addr} {fd : FuncData} {ck : Tabl} (Fu : Fun K "_law_end" "_law_end" s_l_end f fd) (T : Txt K w mg) (I_l_draw : FnX M P w K mg base (lv k) "_law_draw" 2 (ck.f .l_draw)) (I_l_object : FnX M P w K mg base (lv k) "_law_object" 4 (ck.f .l_object)) (I_l_operand : FnX M P w K mg base (lv k) "_law_operand" 4 (ck.f .l_operand)) (I_l_pick : FnX M P w K mg base (lv k) "_law_pick" 2 (ck.f .l_pick)) :
    FnOk P w K mg base (M.CX P w) (lv k + 1) f fd ["_law_source_here", "_law_shape", "_law_places", "_law_events"] (spM K 4 (f_l_end ck)) :=
  have nd := sc_l_end.nd
  fnx_ok (M := M) (g := b_l_end ck) Fu sc_l_end rfl (fun _ _ _ => rfl) fun cdv A outer s H E hr W tk hp =>
    (jb_cons (js_asg (j_var 1) (jg_tup rfl (jgs_cons (jg_name 4 nd) (jgs_cons (jg_name 5 nd) jgs_nil))))
    (jb_cons (js_setLc 6 [("_law_j", 9)] rfl rfl nd (ji_rng1 T.b_range (ja_cons (je_callB cr_len cm_len T.b_len PySem.boot_len (ja_cons (j_var 3) ja_nil)) ja_nil)) (blkOk_by (N := ["_law_source_here", "_law_shape", "_law_places", "_law_events", "_law_many", "_law_counts", "_law_failed", "_law_outcome", "_law_number", "_law_j", "_law_k"]) (sc := defScope s_l_end) (by decide +kernel)) (fun _ _ _ _ _ => (jn_name 9 nd)) (fun _ _ _ _ _ => (jts_one (jt_not (jt_tru (je_item (hu1 hr) (j_var 3) (j_var 9)))))) (fun _ _ _ _ _ => (j_var 9)) (hgs_name))
    (jb_cons (js_set 7 nd (je_tup (ja_cons j_str (ja_cons (jx_call I_l_operand hr (Nat.le_refl _) tk (ja_cons (j_var 0) (ja_cons (j_var 2) (ja_cons (j_var 4) (ja_cons (j_var 3) ja_nil)))) (hlen := (mCons_len (mCons_len (mCons_len (mCons_len mNil_len)))))) ja_nil))))
    (jb_cons (js_if (jw_and (jt_cmp (op_neE (hu0 hr)) om_neE (j_var 6) (je_lst ja_nil)) (jw_and1 (jt_cmp (op_eqA (hu64 hr)) om_eqA (jx_call I_l_draw hr (Nat.le_refl _) tk (ja_cons (j_var 0) (ja_cons j_int ja_nil)) (hlen := (mCons_len (mCons_len mNil_len)))) j_int))).jt
    (jb_one (js_set 7 nd (je_tup (ja_cons j_str (ja_cons (jx_call I_l_pick hr (Nat.le_refl _) tk (ja_cons (j_var 0) (ja_cons (j_var 6) ja_nil)) (hlen := (mCons_len (mCons_len mNil_len)))) ja_nil)))))
    jb_nil)
    (jb_cons (js_set 8 nd (jx_call I_l_draw hr (Nat.le_refl _) tk (ja_cons (j_var 0) (ja_cons (je_callB cr_len cm_len T.b_len PySem.boot_len (ja_cons (j_var 5) ja_nil)) ja_nil)) (hlen := (mCons_len (mCons_len mNil_len)))))
    (jb_cons (js_if (jt_cmp op_isN om_isN (jx_call I_l_object hr (Nat.le_refl _) tk (ja_cons (j_var 0) (ja_cons (j_var 2) (ja_cons (j_var 4) (ja_cons (j_var 3) ja_nil)))) (hlen := (mCons_len (mCons_len (mCons_len (mCons_len mNil_len)))))) j_non)
    (jb_one (js_set 8 nd (je_bmL PySem.F.slot_list_index PySem.F.type_list_index mt_index mm_idx (j_var 5) (ja_cons j_int ja_nil))))
    jb_nil)
    (jb_one (js_ret (je_tup (ja_cons j_str (ja_cons (j_var 7) (ja_cons (j_var 8) (ja_cons (je_callTy call_tuple_of cm_tuple T.b_tuple (by decide +kernel) (ja_cons (je_lc [("_law_k", 10)] rfl rfl nd (ji_rng1 T.b_range (ja_cons (je_item (hu1 hr) (j_var 5) (j_var 8)) ja_nil)) (blkOk_by (N := ["_law_source_here", "_law_shape", "_law_places", "_law_events", "_law_many", "_law_counts", "_law_failed", "_law_outcome", "_law_number", "_law_j", "_law_k"]) (sc := defScope s_l_end) (by decide +kernel)) (fun _ _ _ _ _ => (jn_name 10 nd)) (fun _ _ _ _ _ => jts_nil) (fun _ _ _ _ _ => (jx_call I_l_object hr (Nat.le_refl _) M.tk0 (ja_cons (j_var 0) (ja_cons (j_var 2) (ja_cons (j_var 4) (ja_cons (j_var 3) ja_nil)))) (hlen := (mCons_len (mCons_len (mCons_len (mCons_len mNil_len))))))) (hgs_name)) ja_nil)) ja_nil)))))))))))))
abbrev s_l_tree : Stmt := topS 50
theorem sc_l_tree : FnScope ["_law_source_here", "_law_shape", "_law_places", "_law_events", "_law_deep", "_law_way", "_law_some", "_law_word_here", "_law_many", "_law_operands", "_law_parts", "_law_good", "_law_k"] ["_law_source_here", "_law_shape", "_law_places", "_law_events", "_law_deep"] (defScope s_l_tree) := ⟨rfl, rfl, rfl, by decide +kernel, rfl, by decide +kernel, by decide +kernel⟩
noncomputable def b_l_tree (ck : Tabl) : MS := (mSeq (mAsg (mCall (ck.f .l_draw) (mCons (mVar 0) (mCons (mC (.int 4)) mNil))) (nName 5))
    (mSeq (mAsg (mCall (ck.f .l_object) (mCons (mVar 0) (mCons (mVar 2) (mCons (mBin gItem (mVar 1) (mC (.int 0))) (mCons (mVar 3) mNil))))) (nName 6))
    (mSeq (mIfS (mOrT (mB (mBin (gEqA false) (mVar 4) (mC (.int 0)))) (mB (mBin (gEqA false) (mVar 5) (mC (.int 0)))))
    (mRet (mCall (ck.f .l_end) (mCons (mVar 0) (mCons (mVar 1) (mCons (mVar 2) (mCons (mVar 3) mNil))))))
    mSkip)
    (mSeq (mIfS (mAndT (mB (mBin (gEqA false) (mVar 5) (mC (.int 1)))) (mB (mBin gNotN (mVar 6) (mC .non))))
    (mRet (mTup (mCons (mC (.str "test")) (mCons (mVar 6) (mCons (mCall gTuple (mCons (mLc (mRng (mCons (mC (.int 3)) mNil)) (ngName 12) mYes (mCall (ck.f .l_tree) (mCons (mVar 0) (mCons (mVar 1) (mCons (mVar 2) (mCons (mVar 3) (mCons (mBin gSub (mVar 4) (mC (.int 1))) mNil)))))) [12]) mNil)) mNil)))))
    mSkip)
    (mSeq (mAsg (mCall (ck.f .l_pick) (mCons (mVar 0) (mCons (mLst (mCons (mTup (mCons (mC (.str "f")) (mCons (mC (.int 0)) mNil))) (mCons (mTup (mCons (mC (.str "g")) (mCons (mC (.int 1)) mNil))) (mCons (mTup (mCons (mC (.str "name")) (mCons (mC (.int 2)) mNil))) (mCons (mTup (mCons (mC (.str "<")) (mCons (mC (.int 2)) mNil))) (mCons (mTup (mCons (mC (.str "!=")) (mCons (mC (.int 2)) mNil))) (mCons (mTup (mCons (mC (.str "h")) (mCons (mC (.int 3)) mNil))) mNil))))))) mNil))) (nTup 2 (nCons (nName 7) (nCons (nName 8) nNil))))
    (mSeq (mAsg (mCall gTuple (mCons (mLc (mRng (mCons (mVar 8) mNil)) (ngName 12) mYes (mCall (ck.f .l_operand) (mCons (mVar 0) (mCons (mVar 2) (mCons (mBin gItem (mVar 1) (mC (.int 0))) (mCons (mVar 3) mNil))))) [12]) mNil)) (nName 9))
    (mSeq (mAsg (mLc (mAnyI (mLst (mCons (mC (.bl true)) (mCons (mC (.bl false)) mNil)))) (ngName 11) mYes (mCall (ck.f .l_tree) (mCons (mVar 0) (mCons (mVar 1) (mCons (mVar 2) (mCons (mBin gAdd (mVar 3) (mLst (mCons (mVar 11) mNil))) (mCons (mBin gSub (mVar 4) (mC (.int 1))) mNil)))))) [11]) (nName 10))
    (mRet (mTup (mCons (mC (.str "ask")) (mCons (mVar 7) (mCons (mVar 9) (mCons (mCall gTuple (mCons (mVar 10) mNil)) mNil)))))))))))))
noncomputable def f_l_tree (ck : Tabl) : MF := fun ds m => endOf (b_l_tree ck (startM 13 ds) m)
theorem ok_l_tree {M : Mode} {P : Program} {w : World} {K : PySem.W.Frag} {mg : Str → Option Value} {base : Heap} {k : Nat} {f : Addr} {fd : FuncData} {ck : Tabl} (Fu : Fun K "_law_tree" "_law_tree" s_l_tree f fd) (T : Txt K w mg) (I_l_draw : FnX M P w K mg base (lv k) "_law_draw" 2 (ck.f .l_draw)) (I_l_end : FnX M P w K mg base (lv k) "_law_end" 4 (ck.f .l_end)) (I_l_object : FnX M P w K mg base (lv k) "_law_object" 4 (ck.f .l_object)) (I_l_operand : FnX M P w K mg base (lv k) "_law_operand" 4 (ck.f .l_operand)) (I_l_pick : FnX M P w K mg base (lv k) "_law_pick" 2 (ck.f .l_pick)) (I_l_tree : FnX M P w K mg base (lv k) "_law_tree" 5 (ck.f .l_tree)) :
    FnOk P w K mg base (M.CX P w) (lv k + 1) f fd ["_law_source_here", "_law_shape", "_law_places", "_law_events", "_law_deep"] (spM K 5 (f_l_tree ck)) :=
  have nd := sc_l_tree.nd
  fnx_ok (M := M) (g := b_l_tree ck) Fu sc_l_tree rfl (fun _ _ _ => rfl) fun cdv A outer s H E hr W tk hp =>
    (jb_cons (js_set 5 nd (jx_call I_l_draw hr (Nat.le_refl _) tk (ja_cons (j_var 0) (ja_cons j_int ja_nil)) (hlen := (mCons_len (mCons_len mNil_len)))))
    (jb_cons (js_set 6 nd (jx_call I_l_object hr (Nat.le_refl _) tk (ja_cons (j_var 0) (ja_cons (j_var 2) (ja_cons (je_item (hu1 hr) (j_var 1) j_int) (ja_cons (j_var 3) ja_nil)))) (hlen := (mCons_len (mCons_len (mCons_len (mCons_len mNil_len)))))))
    (jb_cons (js_if (jw_or (jt_cmp (op_eqA (hu64 hr)) om_eqA (j_var 4) j_int) (jw_or1 (jt_cmp (op_eqA (hu64 hr)) om_eqA (j_var 5) j_int))).jt
    (jb_one (js_ret (jx_call I_l_end hr (Nat.le_refl _) tk (ja_cons (j_var 0) (ja_cons (j_var 1) (ja_cons (j_var 2) (ja_cons (j_var 3) ja_nil)))) (hlen := (mCons_len (mCons_len (mCons_len (mCons_len mNil_len))))))))
    jb_nil)
    (jb_cons (js_if (jw_and (jt_cmp (op_eqA (hu64 hr)) om_eqA (j_var 5) j_int) (jw_and1 (jt_cmp op_notN om_notN (j_var 6) j_non))).jt
    (jb_one (js_ret (je_tup (ja_cons j_str (ja_cons (j_var 6) (ja_cons (je_callTy call_tuple_of cm_tuple T.b_tuple (by decide +kernel) (ja_cons (je_lc [("_law_k", 12)] rfl rfl nd (ji_rng1 T.b_range (ja_cons j_int ja_nil)) (blkOk_by (N := ["_law_source_here", "_law_shape", "_law_places", "_law_events", "_law_deep", "_law_way", "_law_some", "_law_word_here", "_law_many", "_law_operands", "_law_parts", "_law_good", "_law_k"]) (sc := defScope s_l_tree) (by decide +kernel)) (fun _ _ _ _ _ => (jn_name 12 nd)) (fun _ _ _ _ _ => jts_nil) (fun _ _ _ _ _ => (jx_call I_l_tree hr (Nat.le_refl _) M.tk0 (ja_cons (j_var 0) (ja_cons (j_var 1) (ja_cons (j_var 2) (ja_cons (j_var 3) (ja_cons (j_op op_sub om_sub (j_var 4) j_int) ja_nil))))) (hlen := (mCons_len (mCons_len (mCons_len (mCons_len (mCons_len mNil_len)))))))) (hgs_name)) ja_nil)) ja_nil))))))
    jb_nil)
    (jb_cons (js_asg (jx_call I_l_pick hr (Nat.le_refl _) tk (ja_cons (j_var 0) (ja_cons (je_lst (ja_cons (je_tup (ja_cons j_str (ja_cons j_int ja_nil))) (ja_cons (je_tup (ja_cons j_str (ja_cons j_int ja_nil))) (ja_cons (je_tup (ja_cons j_str (ja_cons j_int ja_nil))) (ja_cons (je_tup (ja_cons j_str (ja_cons j_int ja_nil))) (ja_cons (je_tup (ja_cons j_str (ja_cons j_int ja_nil))) (ja_cons (je_tup (ja_cons j_str (ja_cons j_int ja_nil))) ja_nil))))))) ja_nil)) (hlen := (mCons_len (mCons_len mNil_len)))) (jg_tup rfl (jgs_cons (jg_name 7 nd) (jgs_cons (jg_name 8 nd) jgs_nil))))
    (jb_cons (js_set 9 nd (je_callTy call_tuple_of cm_tuple T.b_tuple (by decide +kernel) (ja_cons (je_lc [("_law_k", 12)] rfl rfl nd (ji_rng1 T.b_range (ja_cons (j_var 8) ja_nil)) (blkOk_by (N := ["_law_source_here", "_law_shape", "_law_places", "_law_events", "_law_deep", "_law_way", "_law_some", "_law_word_here", "_law_many", "_law_operands", "_law_parts", "_law_good", "_law_k"]) (sc := defScope s_l_tree) (by decide +kernel)) (fun _ _ _ _ _ => (jn_name 12 nd)) (fun _ _ _ _ _ => jts_nil) (fun _ _ _ _ _ => (jx_call I_l_operand hr (Nat.le_refl _) M.tk0 (ja_cons (j_var 0) (ja_cons (j_var 2) (ja_cons (je_item (hu1 hr) (j_var 1) j_int) (ja_cons (j_var 3) ja_nil)))) (hlen := (mCons_len (mCons_len (mCons_len (mCons_len mNil_len))))))) (hgs_name)) ja_nil)))
    (jb_cons (js_setLc 10 [("_law_good", 11)] rfl rfl nd (ji_any (je_lst (ja_cons j_bl (ja_cons j_bl ja_nil)))) (blkOk_by (N := ["_law_source_here", "_law_shape", "_law_places", "_law_events", "_law_deep", "_law_way", "_law_some", "_law_word_here", "_law_many", "_law_operands", "_law_parts", "_law_good", "_law_k"]) (sc := defScope s_l_tree) (by decide +kernel)) (fun _ _ _ _ _ => (jn_name 11 nd)) (fun _ _ _ _ _ => jts_nil) (fun _ _ _ _ _ => (jx_call I_l_tree hr (Nat.le_refl _) M.tk0 (ja_cons (j_var 0) (ja_cons (j_var 1) (ja_cons (j_var 2) (ja_cons (j_op op_addA om_add (j_var 3) (je_lst (ja_cons (j_var 11) ja_nil))) (ja_cons (j_op op_sub om_sub (j_var 4) j_int) ja_nil))))) (hlen := (mCons_len (mCons_len (mCons_len (mCons_len (mCons_len mNil_len)))))))) (hgs_name))
    (jb_one (js_ret (je_tup (ja_cons j_str (ja_cons (j_var 7) (ja_cons (j_var 9) (ja_cons (je_callTy call_tuple_of cm_tuple T.b_tuple (by decide +kernel) (ja_cons (j_var 10) ja_nil)) ja_nil))))))))))))))
abbrev s_l_machine : Stmt := topS 51
theorem sc_l_machine : FnScope ["_law_source_here", "_law_parameters", "_law_counts", "_law_begin", "_law_shape", "_law_deep", "_law_states", "_law_k", "_law_places"] ["_law_source_here"] (defScope s_l_machine) := ⟨rfl, rfl, rfl, by decide +kernel, rfl, by decide +kernel, by decide +kernel⟩
noncomputable def b_l_machine (ck : Tabl) : MS := (mSeq (mAsg (mSl (mLst (mCons (mC (.str "p")) (mCons (mC (.str "q")) mNil))) mNo (mEnd (mCall (ck.f .l_draw) (mCons (mVar 0) (mCons (mC (.int 3)) mNil))))) (nName 1))
    (mSeq (mAsg (mLc (mRng (mCons (mCall (ck.f .l_draw) (mCons (mVar 0) (mCons (mC (.int 3)) mNil))) mNil)) (ngName 7) mYes (mCall (ck.f .l_draw) (mCons (mVar 0) (mCons (mC (.int 3)) mNil))) [7]) (nName 2))
    (mSeq (mAsg (mCall (ck.f .l_draw) (mCons (mVar 0) (mCons (mBin gAdd (mCall gLen (mCons (mVar 2) mNil)) (mC (.int 1))) mNil))) (nName 3))
    (mSeq (mDrop (mBM gInsert (mVar 2) (mCons (mVar 3) (mCons (mC (.int 0)) mNil))))
    (mSeq (mAsg (mTup (mCons (mCall gLen (mCons (mVar 1) mNil)) (mCons (mVar 2) mNil))) (nName 4))
    (mSeq (mAsg (mCall (ck.f .l_pick) (mCons (mVar 0) (mCons (mLst (mCons (mC (.int 1)) (mCons (mC (.int 2)) (mCons (mC (.int 3)) (mCons (mC (.int 4)) mNil))))) mNil))) (nName 5))
    (mSeq (mAsg (mLc (mAnyI (mVar 2)) (ngName 8) mYes (mTup (mCons (mVar 8) (mCons (mCall (ck.f .l_tree) (mCons (mVar 0) (mCons (mVar 4) (mCons (mVar 8) (mCons (mLst mNil) (mCons (mVar 5) mNil)))))) mNil))) [8]) (nName 6))
    (mRet (mTup (mCons (mCall gTuple (mCons (mVar 1) mNil)) (mCons (mVar 3) (mCons (mCall gTuple (mCons (mVar 6) mNil)) mNil))))))))))))
noncomputable def f_l_machine (ck : Tabl) : MF := fun ds m => endOf (b_l_machine ck (startM 9 ds) m)
theorem ok_l_machine {M : Mode} {P : Program} {w : World} {K : PySem.W.Frag} {mg : Str → Option Value} {base : Heap} {k : Nat} {f : Addr} {fd : FuncData} {ck : Tabl} (Fu : Fun K "_law_machine" "_law_machine" s_l_machine f fd) (T : Txt K w mg) (I_l_draw : FnX M P w K mg base (lv k) "_law_draw" 2 (ck.f .l_draw)) (I_l_pick : FnX M P w K mg base (lv k) "_law_pick" 2 (ck.f .l_pick)) (I_l_tree : FnX M P w K mg base (lv k) "_law_tree" 5 (ck.f .l_tree)) :
    FnOk P w K mg base (M.CX P w) (lv k + 1) f fd ["_law_source_here"] (spM K 1 (f_l_machine ck)) :=
  have nd := sc_l_machine.nd
  fnx_ok (M := M) (g := b_l_machine ck) Fu sc_l_machine rfl (fun _ _ _ => rfl) fun cdv A outer s H E hr W tk hp =>
    (jb_cons (js_set 1 nd (je_sl (je_lst (ja_cons j_str (ja_cons j_str ja_nil))) jo_no (jo_end (jx_call I_l_draw hr (Nat.le_refl _) tk (ja_cons (j_var 0) (ja_cons j_int ja_nil)) (hlen := (mCons_len (mCons_len mNil_len)))))))
    (jb_cons (js_setLc 2 [("_law_k", 7)] rfl rfl nd (ji_rng1 T.b_range (ja_cons (jx_call I_l_draw hr (Nat.le_refl _) tk (ja_cons (j_var 0) (ja_cons j_int ja_nil)) (hlen := (mCons_len (mCons_len mNil_len)))) ja_nil)) (blkOk_by (N := ["_law_source_here", "_law_parameters", "_law_counts", "_law_begin", "_law_shape", "_law_deep", "_law_states", "_law_k", "_law_places"]) (sc := defScope s_l_machine) (by decide +kernel)) (fun _ _ _ _ _ => (jn_name 7 nd)) (fun _ _ _ _ _ => jts_nil) (fun _ _ _ _ _ => (jx_call I_l_draw hr (Nat.le_refl _) M.tk0 (ja_cons (j_var 0) (ja_cons j_int ja_nil)) (hlen := (mCons_len (mCons_len mNil_len))))) (hgs_name))
    (jb_cons (js_set 3 nd (jx_call I_l_draw hr (Nat.le_refl _) tk (ja_cons (j_var 0) (ja_cons (j_op op_addA om_add (je_callB cr_len cm_len T.b_len PySem.boot_len (ja_cons (j_var 2) ja_nil)) j_int) ja_nil)) (hlen := (mCons_len (mCons_len mNil_len)))))
    (jb_cons (js_expr (je_bmL PySem.F.slot_list_insert PySem.F.type_list_insert mt_insertI mm_insert (j_var 2) (ja_cons (j_var 3) (ja_cons j_int ja_nil))))
    (jb_cons (js_set 4 nd (je_tup (ja_cons (je_callB cr_len cm_len T.b_len PySem.boot_len (ja_cons (j_var 1) ja_nil)) (ja_cons (j_var 2) ja_nil))))
    (jb_cons (js_set 5 nd (jx_call I_l_pick hr (Nat.le_refl _) tk (ja_cons (j_var 0) (ja_cons (je_lst (ja_cons j_int (ja_cons j_int (ja_cons j_int (ja_cons j_int ja_nil))))) ja_nil)) (hlen := (mCons_len (mCons_len mNil_len)))))
    (jb_cons (js_setLc 6 [("_law_places", 8)] rfl rfl nd (ji_any (j_var 2)) (blkOk_by (N := ["_law_source_here", "_law_parameters", "_law_counts", "_law_begin", "_law_shape", "_law_deep", "_law_states", "_law_k", "_law_places"]) (sc := defScope s_l_machine) (by decide +kernel)) (fun _ _ _ _ _ => (jn_name 8 nd)) (fun _ _ _ _ _ => jts_nil) (fun _ _ _ _ _ => (je_tup (ja_cons (j_var 8) (ja_cons (jx_call I_l_tree hr (Nat.le_refl _) M.tk0 (ja_cons (j_var 0) (ja_cons (j_var 4) (ja_cons (j_var 8) (ja_cons (je_lst ja_nil) (ja_cons (j_var 5) ja_nil))))) (hlen := (mCons_len (mCons_len (mCons_len (mCons_len (mCons_len mNil_len))))))) ja_nil)))) (hgs_name))
    (jb_one (js_ret (je_tup (ja_cons (je_callTy call_tuple_of cm_tuple T.b_tuple (by decide +kernel) (ja_cons (j_var 1) ja_nil)) (ja_cons (j_var 3) (ja_cons (je_callTy call_tuple_of cm_tuple T.b_tuple (by decide +kernel) (ja_cons (j_var 6) ja_nil)) ja_nil)))))))))))))
abbrev s_l_word : Stmt := topS 52
theorem sc_l_word : FnScope ["_law_made", "_law_history", "_law_caught", "_law_found", "e"] ["_law_made", "_law_history"] (defScope s_l_word) := ⟨rfl, rfl, rfl, by decide +kernel, rfl, by decide +kernel, by decide +kernel⟩
noncomputable def b_l_word (ck : Tabl) : MS := (mSeq (mAsg (mC .non) (nName 2))
    (mSeq (mTryK p_OperandError 4 2 (mDrop (mCall (ck.f .run_machine) (mCons (mVar 0) (mCons (mVar 1) mNil)))))
    (mSeq (mAsg (mLst (mCons (mIsx p_InvalidMachine (mVar 2)) (mCons (mIsx p_InvalidHistory (mVar 2)) mNil))) (nName 3))
    (mRet (mBin gItem (mLst (mCons (mC (.str "good")) (mCons (mC (.str "machine")) (mCons (mC (.str "history")) (mCons (mC (.str "both")) mNil))))) (mBin gAdd (mCall gInt (mCons (mBin gItem (mVar 3) (mC (.int 0))) mNil)) (mBin gMul (mC (.int 2)) (mCall gInt (mCons (mBin gItem (mVar 3) (mC (.int 1))) mNil)))))))))
noncomputable def f_l_word (ck : Tabl) : MF := fun ds m => endOf (b_l_word ck (startM 5 ds) m)
theorem ok_l_word {P : Program} {w : World} {K : PySem.W.Frag} {mg : Str → Option Value} {base : Heap} {k : Nat} {f : Addr} {fd : FuncData} {ck : Tabl} (Fu : Fun K "_law_word" "_law_word" s_l_word f fd) (T : Txt K w mg) (I_run_machine : FnX M2 P w K mg base (lv k) "run_machine" 2 (ck.f .run_machine)) :
    FnOk P w K mg base (M2.CX P w) (lv k + 1) f fd ["_law_made", "_law_history"] (spM K 2 (f_l_word ck)) :=
  have nd := sc_l_word.nd
  fnx_ok (M := M2) (g := b_l_word ck) Fu sc_l_word rfl (fun _ _ _ => rfl) fun cdv A outer s H E hr W tk hp =>
    (jb_cons (js_set 2 nd j_non)
    (jb_cons (jx_tryKN 4 2 rfl rfl rfl nd T.h_OperandError tk (fun W tk_pn xe tk hp => (jb_one (js_expr (jx_call I_run_machine hr (Nat.le_refl _) tk (ja_cons (j_var 0) (ja_cons (j_var 1) ja_nil)) (hlen := (mCons_len (mCons_len mNil_len))))))))
    (jb_cons (js_set 3 nd (je_lst (ja_cons (je_isxN (j_var 2) T.i_InvalidMachine T.b_isinstance) (ja_cons (je_isxN (j_var 2) T.i_InvalidHistory T.b_isinstance) ja_nil))))
    (jb_one (js_ret (je_item (hu1 hr) (je_lst (ja_cons j_str (ja_cons j_str (ja_cons j_str (ja_cons j_str ja_nil))))) (j_op op_addA om_add (je_callTy call_int1 cm_int T.b_int (by decide +kernel) (ja_cons (je_item (hu1 hr) (j_var 3) j_int) ja_nil)) (j_op op_mulA om_mul j_int (je_callTy call_int1 cm_int T.b_int (by decide +kernel) (ja_cons (je_item (hu1 hr) (j_var 3) j_int) ja_nil))))))))))
abbrev s_l_bounds : Stmt := topS 53
theorem sc_l_bounds : FnScope ["_law_end_here", "_law_tree_here", "_law_turn", "_law_deep", "_law_full", "_law_back", "_law_six", "_law_due"] [] (defScope s_l_bounds) := ⟨rfl, rfl, rfl, by decide +kernel, rfl, by decide +kernel, by decide +kernel⟩
noncomputable def b_l_bounds (ck : Tabl) : MS := (mSeq (mAsg (mTup (mCons (mC (.str "end")) (mCons (mTup (mCons (mC (.str "value")) (mCons (mTup (mCons (mC (.str "none")) mNil)) mNil))) (mCons (mC (.int 0)) (mCons (mTup mNil) mNil))))) (nName 0))
    (mSeq (mAsg (mVar 0) (nName 1))
    (mSeq (mFor (mRng (mCons (mC (.int 6)) mNil)) (nName 2)
    (mAsg (mTup (mCons (mC (.str "ask")) (mCons (mC (.str "f")) (mCons (mTup mNil) (mCons (mTup (mCons (mVar 1) (mCons (mVar 0) mNil))) mNil))))) (nName 1)))
    (mSeq (mAsg (mVar 0) (nName 3))
    (mSeq (mFor (mRng (mCons (mC (.int 29)) mNil)) (nName 2)
    (mAsg (mTup (mCons (mC (.str "test")) (mCons (mTup (mCons (mC (.str "parameter")) (mCons (mC (.int 0)) mNil))) (mCons (mTup (mCons (mVar 3) (mCons (mVar 0) (mCons (mVar 0) mNil)))) mNil)))) (nName 3)))
    (mSeq (mAsg (mTup (mCons (mC (.str "end")) (mCons (mTup (mCons (mC (.str "value")) (mCons (mTup (mCons (mC (.str "parameter")) (mCons (mC (.int 0)) mNil))) mNil))) (mCons (mC (.int 1)) (mCons (mBin gMulB (mTup (mCons (mTup (mCons (mC (.str "parameter")) (mCons (mC (.int 0)) mNil))) mNil)) (mC (.int 8))) mNil))))) (nName 4))
    (mSeq (mAsg (mTup (mCons (mC (.str "end")) (mCons (mTup (mCons (mC (.str "value")) (mCons (mTup (mCons (mC (.str "place")) (mCons (mC (.int 7)) mNil))) mNil))) (mCons (mC (.int 0)) (mCons (mTup mNil) mNil))))) (nName 5))
    (mSeq (mAsg (mLst (mCons (mTup (mCons (mTup mNil) (mCons (mBin gMul (mLst (mCons (mC (.str "t")) mNil)) (mC (.int 6))) mNil))) (mCons (mTup (mCons (mTup mNil) (mCons (mBin gMul (mLst (mCons (mC (.str "t")) mNil)) (mC (.int 5))) mNil))) (mCons (mTup (mCons (mTup mNil) (mCons (mLst (mCons (mC (.str "t")) mNil)) mNil))) mNil)))) (nName 6))
    (mSeq (mIfS (mOrT (mB (mBin (gEqA true) (mCall (ck.f .l_word) (mCons (mTup (mCons (mTup mNil) (mCons (mC (.int 0)) (mCons (mTup (mCons (mTup (mCons (mC (.int 0)) (mCons (mVar 1) mNil))) mNil)) mNil)))) (mCons (mVar 6) mNil))) (mC (.str "good")))) (mB (mBin (gEqA true) (mCall (ck.f .l_word) (mCons (mTup (mCons (mTup (mCons (mC (.str "p")) mNil)) (mCons (mC (.int 0)) (mCons (mTup (mCons (mTup (mCons (mC (.int 0)) (mCons (mVar 3) mNil))) mNil)) mNil)))) (mCons (mLst mNil) mNil))) (mC (.str "good")))))
    (mRet (mC (.bl false)))
    mSkip)
    (mSeq (mIfS (mOrT (mB (mBin (gEqA true) (mCall gLen (mCons (mCall (ck.f .run_machine) (mCons (mTup (mCons (mTup mNil) (mCons (mC (.int 0)) (mCons (mTup (mCons (mTup (mCons (mC (.int 0)) (mCons (mVar 1) mNil))) mNil)) mNil)))) (mCons (mVar 6) mNil))) mNil)) (mC (.int 2)))) (mB (mBin (gEqA true) (mCall (ck.f .l_word) (mCons (mTup (mCons (mTup mNil) (mCons (mC (.int 0)) (mCons (mBin gMulB (mTup (mCons (mTup (mCons (mC (.int 0)) (mCons (mVar 0) mNil))) mNil)) (mC (.int 2000))) mNil)))) (mCons (mLst mNil) mNil))) (mC (.str "good")))))
    (mRet (mC (.bl false)))
    mSkip)
    (mSeq (mAsg (mTup (mCons (mC (.str "test")) (mCons (mTup (mCons (mC (.str "parameter")) (mCons (mC (.int 0)) mNil))) (mCons (mTup (mCons (mVar 0) (mCons (mVar 0) (mCons (mVar 3) mNil)))) mNil)))) (nName 3))
    (mSeq (mIfS (mOrT (mB (mBin (gEqA true) (mCall (ck.f .l_word) (mCons (mTup (mCons (mTup (mCons (mC (.str "p")) mNil)) (mCons (mC (.int 0)) (mCons (mTup (mCons (mTup (mCons (mC (.int 0)) (mCons (mVar 3) mNil))) mNil)) mNil)))) (mCons (mLst mNil) mNil))) (mC (.str "machine")))) (mB (mBin (gEqA true) (mCall (ck.f .l_word) (mCons (mTup (mCons (mTup mNil) (mCons (mC (.int 0)) (mCons (mBin gMulB (mTup (mCons (mTup (mCons (mC (.int 0)) (mCons (mVar 0) mNil))) mNil)) (mC (.int 2001))) mNil)))) (mCons (mLst mNil) mNil))) (mC (.str "machine")))))
    (mRet (mC (.bl false)))
    mSkip)
    (mSeq (mAsg (mLst (mCons (mTup (mCons (mLst mNil) (mCons (mTup (mCons (mC (.str "value")) (mCons (mTup (mCons (mC (.str "object")) (mCons (mTup (mCons (mC (.int 0)) (mCons (mTup (mCons (mC (.str "name")) (mCons (mC (.str "p")) mNil))) mNil))) mNil))) mNil))) mNil))) (mCons (mTup (mCons (mLst mNil) (mCons (mTup (mCons (mC (.str "value")) (mCons (mTup (mCons (mC (.str "object")) (mCons (mTup (mCons (mC (.int 0)) (mCons (mTup (mCons (mC (.str "name")) (mCons (mC (.str "p")) mNil))) mNil))) mNil))) mNil))) mNil))) mNil))) (nName 7))
    (mRet (mBin (gEqA false) (mCall (ck.f .run_machine) (mCons (mTup (mCons (mTup (mCons (mC (.str "p")) mNil)) (mCons (mC (.int 0)) (mCons (mTup (mCons (mTup (mCons (mC (.int 0)) (mCons (mVar 4) mNil))) (mCons (mTup (mCons (mC (.int 8)) (mCons (mVar 5) mNil))) mNil))) mNil)))) (mCons (mLst (mCons (mTup (mCons (mTup (mCons (mC (.str "f")) mNil)) (mCons (mLst mNil) mNil))) (mCons (mTup (mCons (mTup (mCons (mC (.str "t")) mNil)) (mCons (mLst mNil) mNil))) mNil))) mNil))) (mVar 7))))))))))))))))
noncomputable def f_l_bounds (ck : Tabl) : MF := fun ds m => endOf (b_l_bounds ck (startM 8 ds) m)
theorem ok_l_bounds {M : Mode} {P : Program} {w : World} {K : PySem.W.Frag} {mg : Str → Option Value} {base : Heap} {k : Nat} {f : Addr} {fd : FuncData} {ck : Tabl} (Fu : Fun K "_law_bounds" "_law_bounds" s_l_bounds f fd) (T : Txt K w mg) (I_l_word : FnX M P w K mg base (lv k) "_law_word" 2 (ck.f .l_word)) (I_run_machine : FnX M P w K mg base (lv k) "run_machine" 2 (ck.f .run_machine)) :
    FnOk P w K mg base (M.CX P w) (lv k + 1) f fd [] (spM K 0 (f_l_bounds ck)) :=
  have nd := sc_l_bounds.nd
  fnx_ok (M := M) (g := b_l_bounds ck) Fu sc_l_bounds rfl (fun _ _ _ => rfl) fun cdv A outer s H E hr W tk hp =>
    (jb_cons (js_set 0 nd (je_tup (ja_cons j_str (ja_cons (je_tup (ja_cons j_str (ja_cons (je_tup (ja_cons j_str ja_nil)) ja_nil))) (ja_cons j_int (ja_cons (je_tup ja_nil) ja_nil))))))
    (jb_cons (js_set 1 nd (j_var 0))
    (jb_cons (js_for hp rfl (ji_rng1 T.b_range (ja_cons j_int ja_nil)) (jg_name 2 nd)
    (jb_one (js_set 1 nd (je_tup (ja_cons j_str (ja_cons j_str (ja_cons (je_tup ja_nil) (ja_cons (je_tup (ja_cons (j_var 1) (ja_cons (j_var 0) ja_nil))) ja_nil))))))))
    (jb_cons (js_set 3 nd (j_var 0))
    (jb_cons (js_for hp rfl (ji_rng1 T.b_range (ja_cons j_int ja_nil)) (jg_name 2 nd)
    (jb_one (js_set 3 nd (je_tup (ja_cons j_str (ja_cons (je_tup (ja_cons j_str (ja_cons j_int ja_nil))) (ja_cons (je_tup (ja_cons (j_var 3) (ja_cons (j_var 0) (ja_cons (j_var 0) ja_nil)))) ja_nil)))))))
    (jb_cons (js_set 4 nd (je_tup (ja_cons j_str (ja_cons (je_tup (ja_cons j_str (ja_cons (je_tup (ja_cons j_str (ja_cons j_int ja_nil))) ja_nil))) (ja_cons j_int (ja_cons (j_op op_mulB om_mulB (je_tup (ja_cons (je_tup (ja_cons j_str (ja_cons j_int ja_nil))) ja_nil)) j_int) ja_nil))))))
    (jb_cons (js_set 5 nd (je_tup (ja_cons j_str (ja_cons (je_tup (ja_cons j_str (ja_cons (je_tup (ja_cons j_str (ja_cons j_int ja_nil))) ja_nil))) (ja_cons j_int (ja_cons (je_tup ja_nil) ja_nil))))))
    (jb_cons (js_set 6 nd (je_lst (ja_cons (je_tup (ja_cons (je_tup ja_nil) (ja_cons (j_op op_mulA om_mul (je_lst (ja_cons j_str ja_nil)) j_int) ja_nil))) (ja_cons (je_tup (ja_cons (je_tup ja_nil) (ja_cons (j_op op_mulA om_mul (je_lst (ja_cons j_str ja_nil)) j_int) ja_nil))) (ja_cons (je_tup (ja_cons (je_tup ja_nil) (ja_cons (je_lst (ja_cons j_str ja_nil)) ja_nil))) ja_nil)))))
    (jb_cons (js_if (jw_or (jt_cmp (op_neA (hu64 hr)) om_neA (jx_call I_l_word hr (Nat.le_refl _) tk (ja_cons (je_tup (ja_cons (je_tup ja_nil) (ja_cons j_int (ja_cons (je_tup (ja_cons (je_tup (ja_cons j_int (ja_cons (j_var 1) ja_nil))) ja_nil)) ja_nil)))) (ja_cons (j_var 6) ja_nil)) (hlen := (mCons_len (mCons_len mNil_len)))) j_str) (jw_or1 (jt_cmp (op_neA (hu64 hr)) om_neA (jx_call I_l_word hr (Nat.le_refl _) tk (ja_cons (je_tup (ja_cons (je_tup (ja_cons j_str ja_nil)) (ja_cons j_int (ja_cons (je_tup (ja_cons (je_tup (ja_cons j_int (ja_cons (j_var 3) ja_nil))) ja_nil)) ja_nil)))) (ja_cons (je_lst ja_nil) ja_nil)) (hlen := (mCons_len (mCons_len mNil_len)))) j_str))).jt
    (jb_one (js_ret j_bl))
    jb_nil)
    (jb_cons (js_if (jw_or (jt_cmp (op_neA (hu64 hr)) om_neA (je_callB cr_len cm_len T.b_len PySem.boot_len (ja_cons (jx_call I_run_machine hr (Nat.le_refl _) tk (ja_cons (je_tup (ja_cons (je_tup ja_nil) (ja_cons j_int (ja_cons (je_tup (ja_cons (je_tup (ja_cons j_int (ja_cons (j_var 1) ja_nil))) ja_nil)) ja_nil)))) (ja_cons (j_var 6) ja_nil)) (hlen := (mCons_len (mCons_len mNil_len)))) ja_nil)) j_int) (jw_or1 (jt_cmp (op_neA (hu64 hr)) om_neA (jx_call I_l_word hr (Nat.le_refl _) tk (ja_cons (je_tup (ja_cons (je_tup ja_nil) (ja_cons j_int (ja_cons (j_op op_mulB om_mulB (je_tup (ja_cons (je_tup (ja_cons j_int (ja_cons (j_var 0) ja_nil))) ja_nil)) j_int) ja_nil)))) (ja_cons (je_lst ja_nil) ja_nil)) (hlen := (mCons_len (mCons_len mNil_len)))) j_str))).jt
    (jb_one (js_ret j_bl))
    jb_nil)
    (jb_cons (js_set 3 nd (je_tup (ja_cons j_str (ja_cons (je_tup (ja_cons j_str (ja_cons j_int ja_nil))) (ja_cons (je_tup (ja_cons (j_var 0) (ja_cons (j_var 0) (ja_cons (j_var 3) ja_nil)))) ja_nil)))))
    (jb_cons (js_if (jw_or (jt_cmp (op_neA (hu64 hr)) om_neA (jx_call I_l_word hr (Nat.le_refl _) tk (ja_cons (je_tup (ja_cons (je_tup (ja_cons j_str ja_nil)) (ja_cons j_int (ja_cons (je_tup (ja_cons (je_tup (ja_cons j_int (ja_cons (j_var 3) ja_nil))) ja_nil)) ja_nil)))) (ja_cons (je_lst ja_nil) ja_nil)) (hlen := (mCons_len (mCons_len mNil_len)))) j_str) (jw_or1 (jt_cmp (op_neA (hu64 hr)) om_neA (jx_call I_l_word hr (Nat.le_refl _) tk (ja_cons (je_tup (ja_cons (je_tup ja_nil) (ja_cons j_int (ja_cons (j_op op_mulB om_mulB (je_tup (ja_cons (je_tup (ja_cons j_int (ja_cons (j_var 0) ja_nil))) ja_nil)) j_int) ja_nil)))) (ja_cons (je_lst ja_nil) ja_nil)) (hlen := (mCons_len (mCons_len mNil_len)))) j_str))).jt
    (jb_one (js_ret j_bl))
    jb_nil)
    (jb_cons (js_set 7 nd (je_lst (ja_cons (je_tup (ja_cons (je_lst ja_nil) (ja_cons (je_tup (ja_cons j_str (ja_cons (je_tup (ja_cons j_str (ja_cons (je_tup (ja_cons j_int (ja_cons (je_tup (ja_cons j_str (ja_cons j_str ja_nil))) ja_nil))) ja_nil))) ja_nil))) ja_nil))) (ja_cons (je_tup (ja_cons (je_lst ja_nil) (ja_cons (je_tup (ja_cons j_str (ja_cons (je_tup (ja_cons j_str (ja_cons (je_tup (ja_cons j_int (ja_cons (je_tup (ja_cons j_str (ja_cons j_str ja_nil))) ja_nil))) ja_nil))) ja_nil))) ja_nil))) ja_nil))))
    (jb_one (js_ret (j_cmp (op_eqA (hu64 hr)) om_eqA (jx_call I_run_machine hr (Nat.le_refl _) tk (ja_cons (je_tup (ja_cons (je_tup (ja_cons j_str ja_nil)) (ja_cons j_int (ja_cons (je_tup (ja_cons (je_tup (ja_cons j_int (ja_cons (j_var 4) ja_nil))) (ja_cons (je_tup (ja_cons j_int (ja_cons (j_var 5) ja_nil))) ja_nil))) ja_nil)))) (ja_cons (je_lst (ja_cons (je_tup (ja_cons (je_tup (ja_cons j_str ja_nil)) (ja_cons (je_lst ja_nil) ja_nil))) (ja_cons (je_tup (ja_cons (je_tup (ja_cons j_str ja_nil)) (ja_cons (je_lst ja_nil) ja_nil))) ja_nil))) ja_nil)) (hlen := (mCons_len (mCons_len mNil_len)))) (j_var 7)))))))))))))))))
abbrev s_law : Stmt := topS 54
theorem sc_law : FnScope ["_law_script", "_law_source_here", "_law_turn", "_law_made", "_law_kinds", "_law_history", "_law_k", "_law_handed", "_law_found", "_law_due", "_law_told", "_law_good", "_law_wrong", "_law_given", "_law_many", "_law_call", "_law_name", "_law_j"] ["_law_script"] (defScope s_law) := ⟨rfl, rfl, rfl, by decide +kernel, rfl, by decide +kernel, by decide +kernel⟩
noncomputable def b_law (ck : Tabl) : MS := (mSeq (mAsg (mCall (ck.f .l_source) (mCons (mVar 0) mNil)) (nName 1))
    (mSeq (mIfS (mNotT (mTru (mCall (ck.f .l_bounds) mNil)))
    (mRet (mC (.bl false)))
    mSkip)
    (mSeq (mFor (mRng (mCons (mC (.int 20)) mNil)) (nName 2)
    (mSeq (mAsg (mCall (ck.f .l_machine) (mCons (mVar 1) mNil)) (nName 3))
    (mSeq (mAsg (mLst (mCons (mC (.str "t")) (mCons (mC (.str "f")) (mCons (mC (.str "n")) mNil)))) (nName 4))
    (mSeq (mAsg (mLst mNil) (nName 5))
    (mSeq (mFor (mRng (mCons (mCall (ck.f .l_draw) (mCons (mVar 1) (mCons (mC (.int 5)) mNil))) mNil)) (nName 6)
    (mSeq (mAsg (mCall gTuple (mCons (mLc (mAnyI (mBin gItem (mVar 3) (mC (.int 0)))) (ngName 16) mYes (mCall (ck.f .l_pick) (mCons (mVar 1) (mCons (mVar 4) mNil))) [16]) mNil)) (nName 13))
    (mSeq (mAsg (mCall (ck.f .l_pick) (mCons (mVar 1) (mCons (mLst (mCons (mC (.int 4)) (mCons (mC (.int 4)) (mCons (mC (.int 4)) (mCons (mC (.int 1)) (mCons (mC (.int 0)) mNil)))))) mNil))) (nName 14))
    (mDrop (mBM gAppend (mVar 5) (mCons (mTup (mCons (mVar 13) (mCons (mLc (mRng (mCons (mVar 14) mNil)) (ngName 17) mYes (mCall (ck.f .l_pick) (mCons (mVar 1) (mCons (mBin gAdd (mVar 4) (mLst (mCons (mC (.str "x")) (mCons (mC (.str "t")) mNil)))) mNil))) [17]) mNil))) mNil))))))
    (mSeq (mAsg (mLc (mAnyI (mVar 5)) (ngName 15) mYes (mTup (mCons (mBin gItem (mVar 15) (mC (.int 0))) (mCons (mCall gListA (mCons (mBin gItem (mVar 15) (mC (.int 1))) mNil)) mNil))) [15]) (nName 7))
    (mSeq (mAsg (mCall (ck.f .run_machine) (mCons (mVar 3) (mCons (mVar 7) mNil))) (nName 8))
    (mSeq (mAsg (mBin gItem (mCall (ck.f .l_follow) (mCons (mVar 3) (mCons (mVar 5) mNil))) (mC (.int 0))) (nName 9))
    (mSeq (mIfS (mOrT (mB (mBin (gEqA true) (mVar 8) (mVar 9))) (mB (mBin (gEqA true) (mVar 7) (mVar 5))))
    (mRet (mC (.bl false)))
    mSkip)
    (mSeq (mFor (mAnyI (mVar 8)) (nName 10)
    (mDrop (mBM gAppend (mBin gItem (mVar 10) (mC (.int 0))) (mCons (mC (.str "q")) mNil))))
    (mSeq (mIfS (mB (mBin (gEqA true) (mLc (mAnyI (mVar 8)) (ngName 10) mYes (mCall gLen (mCons (mBin gItem (mVar 10) (mC (.int 0))) mNil)) [10]) (mLc (mAnyI (mVar 9)) (ngName 10) mYes (mBin gAdd (mC (.int 1)) (mCall gLen (mCons (mBin gItem (mVar 10) (mC (.int 0))) mNil))) [10])))
    (mRet (mC (.bl false)))
    mSkip)
    (mSeq (mFor (mRng (mCons (mCall gLen (mCons (mBin gItem (mVar 3) (mC (.int 2))) mNil)) mNil)) (nName 6)
    (mSeq (mAsg (mBin gItem (mLst (mCons (mC (.str "good")) (mCons (mC (.str "machine")) mNil))) (mCall gInt (mCons (mBin gGt (mBin gItem (mBin gItem (mBin gItem (mVar 3) (mC (.int 2))) (mVar 6)) (mC (.int 0))) (mC (.int 0))) mNil))) (nName 9))
    (mIfS (mB (mBin (gEqA true) (mCall (ck.f .l_word) (mCons (mTup (mCons (mBin gItem (mVar 3) (mC (.int 0))) (mCons (mVar 6) (mCons (mBin gItem (mVar 3) (mC (.int 2))) mNil)))) (mCons (mLst mNil) mNil))) (mVar 9)))
    (mRet (mC (.bl false)))
    mSkip)))
    (mSeq (mAsg (mBin gMulB (mTup (mCons (mC (.str "t")) mNil)) (mCall gLen (mCons (mBin gItem (mVar 3) (mC (.int 0))) mNil))) (nName 11))
    (mSeq (mFor (mAnyI (mLst (mCons (mC .non) (mCons (mTup mNil) (mCons (mLst (mCons (mC .non) mNil)) (mCons (mLst (mCons (mTup (mCons (mBin gAdd (mVar 11) (mTup (mCons (mC (.str "t")) mNil))) (mCons (mLst mNil) mNil))) mNil)) (mCons (mLst (mCons (mTup (mCons (mVar 11) (mCons (mC .non) mNil))) mNil)) (mCons (mLst (mCons (mTup (mCons (mVar 11) (mCons (mLst (mCons (mC (.str "y")) mNil)) mNil))) mNil)) (mCons (mLst (mCons (mTup (mCons (mVar 11) (mCons (mLst (mCons (mC .non) mNil)) mNil))) mNil)) mNil))))))))) (nName 12)
    (mIfS (mOrT (mB (mBin (gEqA true) (mCall (ck.f .l_word) (mCons (mVar 3) (mCons (mVar 12) mNil))) (mC (.str "history")))) (mB (mBin (gEqA true) (mCall (ck.f .l_word) (mCons (mVar 3) (mCons (mBin gAdd (mVar 5) (mLst (mCons (mTup (mCons (mVar 11) (mCons (mLst (mCons (mLst (mCons (mC (.str "t")) mNil)) mNil)) mNil))) mNil))) mNil))) (mC (.str "history")))))
    (mRet (mC (.bl false)))
    mSkip))
    (mIfS (mAndT (mB (mBin (gEqA true) (mVar 11) (mTup mNil))) (mB (mBin (gEqA true) (mCall (ck.f .l_word) (mCons (mVar 3) (mCons (mLst (mCons (mTup (mCons (mBin gAdd (mTup (mCons (mC (.str "x")) mNil)) (mSl (mVar 11) (mEnd (mC (.int 1))) mNo)) (mCons (mLst mNil) mNil))) mNil)) mNil))) (mC (.str "history")))))
    (mRet (mC (.bl false)))
    mSkip)))))))))))))))
    (mRet (mC (.bl true))))))
noncomputable def f_law (ck : Tabl) : MF := fun ds m => endOf (b_law ck (startM 18 ds) m)
theorem ok_law {M : Mode} {P : Program} {w : World} {K : PySem.W.Frag} {mg : Str → Option Value} {base : Heap} {k : Nat} {f : Addr} {fd : FuncData} {ck : Tabl} (Fu : Fun K "law" "law" s_law f fd) (T : Txt K w mg) (I_l_bounds : FnX M P w K mg base (lv k) "_law_bounds" 0 (ck.f .l_bounds)) (I_l_draw : FnX M P w K mg base (lv k) "_law_draw" 2 (ck.f .l_draw)) (I_l_follow : FnX M P w K mg base (lv k) "_law_follow" 2 (ck.f .l_follow)) (I_l_machine : FnX M P w K mg base (lv k) "_law_machine" 1 (ck.f .l_machine)) (I_l_pick : FnX M P w K mg base (lv k) "_law_pick" 2 (ck.f .l_pick)) (I_l_source : FnX M P w K mg base (lv k) "_law_source" 1 (ck.f .l_source)) (I_l_word : FnX M P w K mg base (lv k) "_law_word" 2 (ck.f .l_word)) (I_run_machine : FnX M P w K mg base (lv k) "run_machine" 2 (ck.f .run_machine)) :
    FnOk P w K mg base (M.CX P w) (lv k + 1) f fd ["_law_script"] (spM K 1 (f_law ck)) :=
  have nd := sc_law.nd
  fnx_ok (M := M) (g := b_law ck) Fu sc_law rfl (fun _ _ _ => rfl) fun cdv A outer s H E hr W tk hp =>
    (jb_cons (js_set 1 nd (jx_call I_l_source hr (Nat.le_refl _) tk (ja_cons (j_var 0) ja_nil) (hlen := (mCons_len mNil_len))))
    (jb_cons (js_if (jt_not (jt_tru (jx_call0 I_l_bounds hr (Nat.le_refl _) tk)))
    (jb_one (js_ret j_bl))
    jb_nil)
    (jb_cons (js_for hp rfl (ji_rng1 T.b_range (ja_cons j_int ja_nil)) (jg_name 2 nd)
    (jb_cons (js_set 3 nd (jx_call I_l_machine hr (Nat.le_refl _) tk (ja_cons (j_var 1) ja_nil) (hlen := (mCons_len mNil_len))))
    (jb_cons (js_set 4 nd (je_lst (ja_cons j_str (ja_cons j_str (ja_cons j_str ja_nil)))))
    (jb_cons (js_set 5 nd (je_lst ja_nil))
    (jb_cons (js_for hp rfl (ji_rng1 T.b_range (ja_cons (jx_call I_l_draw hr (Nat.le_refl _) tk (ja_cons (j_var 1) (ja_cons j_int ja_nil)) (hlen := (mCons_len (mCons_len mNil_len)))) ja_nil)) (jg_name 6 nd)
    (jb_cons (js_set 13 nd (je_callTy call_tuple_of cm_tuple T.b_tuple (by decide +kernel) (ja_cons (je_lc [("_law_name", 16)] rfl rfl nd (ji_any (je_item (hu1 hr) (j_var 3) j_int)) (blkOk_by (N := ["_law_script", "_law_source_here", "_law_turn", "_law_made", "_law_kinds", "_law_history", "_law_k", "_law_handed", "_law_found", "_law_due", "_law_told", "_law_good", "_law_wrong", "_law_given", "_law_many", "_law_call", "_law_name", "_law_j"]) (sc := defScope s_law) (by decide +kernel)) (fun _ _ _ _ _ => (jn_name 16 nd)) (fun _ _ _ _ _ => jts_nil) (fun _ _ _ _ _ => (jx_call I_l_pick hr (Nat.le_refl _) M.tk0 (ja_cons (j_var 1) (ja_cons (j_var 4) ja_nil)) (hlen := (mCons_len (mCons_len mNil_len))))) (hgs_name)) ja_nil)))
    (jb_cons (js_set 14 nd (jx_call I_l_pick hr (Nat.le_refl _) tk (ja_cons (j_var 1) (ja_cons (je_lst (ja_cons j_int (ja_cons j_int (ja_cons j_int (ja_cons j_int (ja_cons j_int ja_nil)))))) ja_nil)) (hlen := (mCons_len (mCons_len mNil_len)))))
    (jb_one (js_expr (je_bmL PySem.F.slot_list_append PySem.F.type_list_append mt_append mm_append (j_var 5) (ja_cons (je_tup (ja_cons (j_var 13) (ja_cons (je_lc [("_law_j", 17)] rfl rfl nd (ji_rng1 T.b_range (ja_cons (j_var 14) ja_nil)) (blkOk_by (N := ["_law_script", "_law_source_here", "_law_turn", "_law_made", "_law_kinds", "_law_history", "_law_k", "_law_handed", "_law_found", "_law_due", "_law_told", "_law_good", "_law_wrong", "_law_given", "_law_many", "_law_call", "_law_name", "_law_j"]) (sc := defScope s_law) (by decide +kernel)) (fun _ _ _ _ _ => (jn_name 17 nd)) (fun _ _ _ _ _ => jts_nil) (fun _ _ _ _ _ => (jx_call I_l_pick hr (Nat.le_refl _) M.tk0 (ja_cons (j_var 1) (ja_cons (j_op op_addA om_add (j_var 4) (je_lst (ja_cons j_str (ja_cons j_str ja_nil)))) ja_nil)) (hlen := (mCons_len (mCons_len mNil_len))))) (hgs_name)) ja_nil))) ja_nil)))))))
    (jb_cons (js_setLc 7 [("_law_call", 15)] rfl rfl nd (ji_any (j_var 5)) (blkOk_by (N := ["_law_script", "_law_source_here", "_law_turn", "_law_made", "_law_kinds", "_law_history", "_law_k", "_law_handed", "_law_found", "_law_due", "_law_told", "_law_good", "_law_wrong", "_law_given", "_law_many", "_law_call", "_law_name", "_law_j"]) (sc := defScope s_law) (by decide +kernel)) (fun _ _ _ _ _ => (jn_name 15 nd)) (fun _ _ _ _ _ => jts_nil) (fun _ _ _ _ _ => (je_tup (ja_cons (je_item (hu1 hr) (j_var 15) j_int) (ja_cons (je_callTy (cr_listA rfl) cm_listA T.b_list (by decide +kernel) (ja_cons (je_item (hu1 hr) (j_var 15) j_int) ja_nil)) ja_nil)))) (hgs_name))
    (jb_cons (js_set 8 nd (jx_call I_run_machine hr (Nat.le_refl _) tk (ja_cons (j_var 3) (ja_cons (j_var 7) ja_nil)) (hlen := (mCons_len (mCons_len mNil_len)))))
    (jb_cons (js_set 9 nd (je_item (hu1 hr) (jx_call I_l_follow hr (Nat.le_refl _) tk (ja_cons (j_var 3) (ja_cons (j_var 5) ja_nil)) (hlen := (mCons_len (mCons_len mNil_len)))) j_int))
    (jb_cons (js_if (jw_or (jt_cmp (op_neA (hu64 hr)) om_neA (j_var 8) (j_var 9)) (jw_or1 (jt_cmp (op_neA (hu64 hr)) om_neA (j_var 7) (j_var 5)))).jt
    (jb_one (js_ret j_bl))
    jb_nil)
    (jb_cons (js_for hp rfl (ji_any (j_var 8)) (jg_name 10 nd)
    (jb_one (js_expr (je_bmL PySem.F.slot_list_append PySem.F.type_list_append mt_append mm_append (je_item (hu1 hr) (j_var 10) j_int) (ja_cons j_str ja_nil)))))
    (jb_cons (js_if (jt_cmp (op_neA (hu64 hr)) om_neA (je_lc [("_law_told", 10)] rfl rfl nd (ji_any (j_var 8)) (blkOk_by (N := ["_law_script", "_law_source_here", "_law_turn", "_law_made", "_law_kinds", "_law_history", "_law_k", "_law_handed", "_law_found", "_law_due", "_law_told", "_law_good", "_law_wrong", "_law_given", "_law_many", "_law_call", "_law_name", "_law_j"]) (sc := defScope s_law) (by decide +kernel)) (fun _ _ _ _ _ => (jn_name 10 nd)) (fun _ _ _ _ _ => jts_nil) (fun _ _ _ _ _ => (je_callB cr_len cm_len T.b_len PySem.boot_len (ja_cons (je_item (hu1 hr) (j_var 10) j_int) ja_nil))) (hgs_name)) (je_lc [("_law_told", 10)] rfl rfl nd (ji_any (j_var 9)) (blkOk_by (N := ["_law_script", "_law_source_here", "_law_turn", "_law_made", "_law_kinds", "_law_history", "_law_k", "_law_handed", "_law_found", "_law_due", "_law_told", "_law_good", "_law_wrong", "_law_given", "_law_many", "_law_call", "_law_name", "_law_j"]) (sc := defScope s_law) (by decide +kernel)) (fun _ _ _ _ _ => (jn_name 10 nd)) (fun _ _ _ _ _ => jts_nil) (fun _ _ _ _ _ => (j_op op_addA om_add j_int (je_callB cr_len cm_len T.b_len PySem.boot_len (ja_cons (je_item (hu1 hr) (j_var 10) j_int) ja_nil)))) (hgs_name)))
    (jb_one (js_ret j_bl))
    jb_nil)
    (jb_cons (js_for hp rfl (ji_rng1 T.b_range (ja_cons (je_callB cr_len cm_len T.b_len PySem.boot_len (ja_cons (je_item (hu1 hr) (j_var 3) j_int) ja_nil)) ja_nil)) (jg_name 6 nd)
    (jb_cons (js_set 9 nd (je_item (hu1 hr) (je_lst (ja_cons j_str (ja_cons j_str ja_nil))) (je_callTy call_int1 cm_int T.b_int (by decide +kernel) (ja_cons (j_cmp op_gt om_gt (je_item (hu1 hr) (je_item (hu1 hr) (je_item (hu1 hr) (j_var 3) j_int) (j_var 6)) j_int) j_int) ja_nil))))
    (jb_one (js_if (jt_cmp (op_neA (hu64 hr)) om_neA (jx_call I_l_word hr (Nat.le_refl _) tk (ja_cons (je_tup (ja_cons (je_item (hu1 hr) (j_var 3) j_int) (ja_cons (j_var 6) (ja_cons (je_item (hu1 hr) (j_var 3) j_int) ja_nil)))) (ja_cons (je_lst ja_nil) ja_nil)) (hlen := (mCons_len (mCons_len mNil_len)))) (j_var 9))
    (jb_one (js_ret j_bl))
    jb_nil))))
    (jb_cons (js_set 11 nd (j_op op_mulB om_mulB (je_tup (ja_cons j_str ja_nil)) (je_callB cr_len cm_len T.b_len PySem.boot_len (ja_cons (je_item (hu1 hr) (j_var 3) j_int) ja_nil))))
    (jb_cons (js_for hp rfl (ji_any (je_lst (ja_cons j_non (ja_cons (je_tup ja_nil) (ja_cons (je_lst (ja_cons j_non ja_nil)) (ja_cons (je_lst (ja_cons (je_tup (ja_cons (j_op op_addA om_add (j_var 11) (je_tup (ja_cons j_str ja_nil))) (ja_cons (je_lst ja_nil) ja_nil))) ja_nil)) (ja_cons (je_lst (ja_cons (je_tup (ja_cons (j_var 11) (ja_cons j_non ja_nil))) ja_nil)) (ja_cons (je_lst (ja_cons (je_tup (ja_cons (j_var 11) (ja_cons (je_lst (ja_cons j_str ja_nil)) ja_nil))) ja_nil)) (ja_cons (je_lst (ja_cons (je_tup (ja_cons (j_var 11) (ja_cons (je_lst (ja_cons j_non ja_nil)) ja_nil))) ja_nil)) ja_nil))))))))) (jg_name 12 nd)
    (jb_one (js_if (jw_or (jt_cmp (op_neA (hu64 hr)) om_neA (jx_call I_l_word hr (Nat.le_refl _) tk (ja_cons (j_var 3) (ja_cons (j_var 12) ja_nil)) (hlen := (mCons_len (mCons_len mNil_len)))) j_str) (jw_or1 (jt_cmp (op_neA (hu64 hr)) om_neA (jx_call I_l_word hr (Nat.le_refl _) tk (ja_cons (j_var 3) (ja_cons (j_op op_addA om_add (j_var 5) (je_lst (ja_cons (je_tup (ja_cons (j_var 11) (ja_cons (je_lst (ja_cons (je_lst (ja_cons j_str ja_nil)) ja_nil)) ja_nil))) ja_nil))) ja_nil)) (hlen := (mCons_len (mCons_len mNil_len)))) j_str))).jt
    (jb_one (js_ret j_bl))
    jb_nil)))
    (jb_one (js_if (jw_and (jt_cmp (op_neA (hu64 hr)) om_neA (j_var 11) (je_tup ja_nil)) (jw_and1 (jt_cmp (op_neA (hu64 hr)) om_neA (jx_call I_l_word hr (Nat.le_refl _) tk (ja_cons (j_var 3) (ja_cons (je_lst (ja_cons (je_tup (ja_cons (j_op op_addA om_add (je_tup (ja_cons j_str ja_nil)) (je_sl (j_var 11) (jo_end j_int) jo_no)) (ja_cons (je_lst ja_nil) ja_nil))) ja_nil)) ja_nil)) (hlen := (mCons_len (mCons_len mNil_len)))) j_str))).jt
    (jb_one (js_ret j_bl))
    jb_nil))))))))))))))))
    (jb_one (js_ret j_bl)))))
abbrev s_i_Room : Stmt := clsS (topS 29) 0
theorem sc_i_Room : FnScope ["self", "parameters", "states", "places"] ["self", "parameters", "states", "places"] (defScope s_i_Room) := ⟨rfl, rfl, rfl, by decide +kernel, rfl, by decide +kernel, by decide +kernel⟩
noncomputable def b_i_Room (ck : Tabl) : MS := (mSeq (mFldS pf_parameters "parameters" (mVar 0) (mVar 1))
    (mSeq (mFldS pf_states "states" (mVar 0) (mVar 2))
    (mFldS pf_places "places" (mVar 0) (mVar 3))))
noncomputable def f_i_Room (ck : Tabl) : MF := fun ds m => endOf (b_i_Room ck (startM 4 ds) m)
theorem ok_i_Room {M : Mode} {P : Program} {w : World} {K : PySem.W.Frag} {mg : Str → Option Value} {base : Heap} {k : Nat} {f : Addr} {fd : FuncData} {ck : Tabl} (Fu : Fun K "__init__" "Room.__init__" s_i_Room f fd) (T : Txt K w mg) :
    FnOk P w K mg base (M.CX P w) (lv k + 1) f fd ["self", "parameters", "states", "places"] (spM K 4 (f_i_Room ck)) :=
  have nd := sc_i_Room.nd
  fnx_ok (M := M) (g := b_i_Room ck) Fu sc_i_Room rfl (fun _ _ _ => rfl) fun cdv A outer s H E hr W tk hp =>
    (jb_cons (js_fld (j_var 0) (j_var 1) T.f_parameters)
    (jb_cons (js_fld (j_var 0) (j_var 2) T.f_states)
    (jb_one (js_fld (j_var 0) (j_var 3) T.f_places))))
abbrev s_i_MachineCall : Stmt := clsS (topS 37) 0
theorem sc_i_MachineCall : FnScope ["self", "machine", "number", "held", "call", "kinds", "answers", "name", "kind", "at"] ["self", "machine", "number", "held", "call"] (defScope s_i_MachineCall) := ⟨rfl, rfl, rfl, by decide +kernel, rfl, by decide +kernel, by decide +kernel⟩
noncomputable def b_i_MachineCall (ck : Tabl) : MS := (mSeq (mAsg (mVar 4) (nTup 2 (nCons (nName 5) (nCons (nName 6) nNil))))
    (mSeq (mFldS pf_number "number" (mVar 0) (mVar 2))
    (mSeq (mFldS pf_answers "answers" (mVar 0) (mVar 6))
    (mSeq (mFldS pf_events "events" (mVar 0) (mLst mNil))
    (mFldS pf_objects "objects" (mVar 0) (mDispE [(.inr "place", (mVar 3)), (.inr "parameter", (mLc (mZip (mCons (mBin gItem (mVar 1) (mC (.int 0))) (mCons (mVar 5) mNil))) (ngTup 2 (ngCons (ngName 7) (ngCons (ngName 8) ngNil))) mYes (mTup (mCons (mTup (mCons (mVar 2) (mCons (mTup (mCons (mC (.str "name")) (mCons (mVar 7) mNil))) mNil))) (mCons (mVar 8) mNil))) [8, 7])), (.inr "event", (mLc (mEnum (mCons (mVar 6) mNil)) (ngTup 2 (ngCons (ngName 9) (ngCons (ngName 8) ngNil))) mYes (mTup (mCons (mTup (mCons (mVar 2) (mCons (mTup (mCons (mC (.str "event")) (mCons (mVar 9) mNil))) mNil))) (mCons (mVar 8) mNil))) [8, 9]))]))))))
noncomputable def f_i_MachineCall (ck : Tabl) : MF := fun ds m => endOf (b_i_MachineCall ck (startM 10 ds) m)
theorem ok_i_MachineCall {M : Mode} {P : Program} {w : World} {K : PySem.W.Frag} {mg : Str → Option Value} {base : Heap} {k : Nat} {f : Addr} {fd : FuncData} {ck : Tabl} (Fu : Fun K "__init__" "MachineCall.__init__" s_i_MachineCall f fd) (T : Txt K w mg) :
    FnOk P w K mg base (M.CX P w) (lv k + 1) f fd ["self", "machine", "number", "held", "call"] (spM K 5 (f_i_MachineCall ck)) :=
  have nd := sc_i_MachineCall.nd
  fnx_ok (M := M) (g := b_i_MachineCall ck) Fu sc_i_MachineCall rfl (fun _ _ _ => rfl) fun cdv A outer s H E hr W tk hp =>
    (jb_cons (js_asg (j_var 4) (jg_tup rfl (jgs_cons (jg_name 5 nd) (jgs_cons (jg_name 6 nd) jgs_nil))))
    (jb_cons (js_fld (j_var 0) (j_var 2) T.f_number)
    (jb_cons (js_fld (j_var 0) (j_var 6) T.f_answers)
    (jb_cons (js_fld (j_var 0) (je_lst ja_nil) T.f_events)
    (jb_one (js_fld (j_var 0) (je_dispE (jvs_cons pe_str (j_var 3) (jvs_cons pe_str (je_lc [("kind", 8), ("name", 7)] rfl rfl nd (ji_zip T.b_zip (ja_cons (je_item (hu1 hr) (j_var 1) j_int) (ja_cons (j_var 5) ja_nil))) (blkOk_by (N := ["self", "machine", "number", "held", "call", "kinds", "answers", "name", "kind", "at"]) (sc := defScope s_i_MachineCall) (by decide +kernel)) (fun _ _ _ _ _ => (jn_tup rfl (jn_cons (jn_name 7 nd) (jn_cons (jn_name 8 nd) jn_nil)))) (fun _ _ _ _ _ => jts_nil) (fun _ _ _ _ _ => (je_tup (ja_cons (je_tup (ja_cons (j_var 2) (ja_cons (je_tup (ja_cons j_str (ja_cons (j_var 7) ja_nil))) ja_nil))) (ja_cons (j_var 8) ja_nil)))) (by (first | exact MI.wr_tup (MI.wr_cons (MI.wr_name (by decide)) (MI.wr_cons (MI.wr_name (by decide)) MI.wr_nil)) | exact MI.wr_tup (MI.wr_cons (MI.wr_name (by decide)) (MI.wr_cons (MI.wr_name (by decide)) (MI.wr_cons (MI.wr_name (by decide)) MI.wr_nil)))))) (jvs_cons pe_str (je_lc [("kind", 8), ("at", 9)] rfl rfl nd (ji_enum T.b_enumerate (ja_cons (j_var 6) ja_nil)) (blkOk_by (N := ["self", "machine", "number", "held", "call", "kinds", "answers", "name", "kind", "at"]) (sc := defScope s_i_MachineCall) (by decide +kernel)) (fun _ _ _ _ _ => (jn_tup rfl (jn_cons (jn_name 9 nd) (jn_cons (jn_name 8 nd) jn_nil)))) (fun _ _ _ _ _ => jts_nil) (fun _ _ _ _ _ => (je_tup (ja_cons (je_tup (ja_cons (j_var 2) (ja_cons (je_tup (ja_cons j_str (ja_cons (j_var 9) ja_nil))) ja_nil))) (ja_cons (j_var 8) ja_nil)))) (by (first | exact MI.wr_tup (MI.wr_cons (MI.wr_name (by decide)) (MI.wr_cons (MI.wr_name (by decide)) MI.wr_nil)) | exact MI.wr_tup (MI.wr_cons (MI.wr_name (by decide)) (MI.wr_cons (MI.wr_name (by decide)) (MI.wr_cons (MI.wr_name (by decide)) MI.wr_nil)))))) jvs_nil))) (by simp) (by decide)) T.f_objects))))))
abbrev s_m_MachineCall_value : Stmt := clsS (topS 37) 1
theorem sc_m_MachineCall_value : FnScope ["self", "operand", "source", "kind"] ["self", "operand"] (defScope s_m_MachineCall_value) := ⟨rfl, rfl, rfl, by decide +kernel, rfl, by decide +kernel, by decide +kernel⟩
noncomputable def b_m_MachineCall_value (ck : Tabl) : MS := (mSeq (mIfS (mB (mBin (gInB false) (mBin gItem (mVar 1) (mC (.int 0))) (mC c_CONSTANTS)))
    (mRet (mVar 1))
    mSkip)
    (mSeq (mAsg (mMeth "MachineCall" "object_at" (ck.f .m_MachineCall_object_at) (mVar 0) (mCons (mVar 1) mNil)) (nTup 2 (nCons (nName 2) (nCons (nName 3) nNil))))
    (mRet (mBin gItem (mCall (ck.f .held_object) (mCons (mVar 2) (mCons (mVar 3) mNil))) (mC (.int 0))))))
noncomputable def f_m_MachineCall_value (ck : Tabl) : MF := fun ds m => endOf (b_m_MachineCall_value ck (startM 4 ds) m)
theorem ok_m_MachineCall_value {M : Mode} {P : Program} {w : World} {K : PySem.W.Frag} {mg : Str → Option Value} {base : Heap} {k : Nat} {f : Addr} {fd : FuncData} {ck : Tabl} (Fu : Fun K "value" "MachineCall.value" s_m_MachineCall_value f fd) (T : Txt K w mg) (I_held_object : FnX M P w K mg base (lv k) "held_object" 2 (ck.f .held_object)) (I_m_MachineCall_object_at : MthX M P w K mg base (lv k) "MachineCall" "object_at" 1 (ck.f .m_MachineCall_object_at)) :
    FnOk P w K mg base (M.CX P w) (lv k + 1) f fd ["self", "operand"] (spM K 2 (f_m_MachineCall_value ck)) :=
  have nd := sc_m_MachineCall_value.nd
  fnx_ok (M := M) (g := b_m_MachineCall_value ck) Fu sc_m_MachineCall_value rfl (fun _ _ _ => rfl) fun cdv A outer s H E hr W tk hp =>
    (jb_cons (js_if (jt_inB (hu1 hr) (hu65 hr) (je_item (hu1 hr) (j_var 1) j_int) (j_con T.c_CONSTANTS))
    (jb_one (js_ret (j_var 1)))
    jb_nil)
    (jb_cons (js_asg (jx_meth I_m_MachineCall_object_at hr (Nat.le_refl _) tk (j_var 0) (ja_cons (j_var 1) ja_nil) (hlen := (mCons_len mNil_len))) (jg_tup rfl (jgs_cons (jg_name 2 nd) (jgs_cons (jg_name 3 nd) jgs_nil))))
    (jb_one (js_ret (je_item (hu1 hr) (jx_call I_held_object hr (Nat.le_refl _) tk (ja_cons (j_var 2) (ja_cons (j_var 3) ja_nil)) (hlen := (mCons_len (mCons_len mNil_len)))) j_int)))))
abbrev s_m_MachineCall_object_at : Stmt := clsS (topS 37) 2
theorem sc_m_MachineCall_object_at : FnScope ["self", "operand", "word", "at"] ["self", "operand"] (defScope s_m_MachineCall_object_at) := ⟨rfl, rfl, rfl, by decide +kernel, rfl, by decide +kernel, by decide +kernel⟩
noncomputable def b_m_MachineCall_object_at (ck : Tabl) : MS := (mSeq (mAsg (mVar 1) (nTup 2 (nCons (nName 2) (nCons (nName 3) nNil))))
    (mRet (mBin gItem (mBin gItem (mFld pf_objects "objects" (mVar 0)) (mVar 2)) (mVar 3))))
noncomputable def f_m_MachineCall_object_at (ck : Tabl) : MF := fun ds m => endOf (b_m_MachineCall_object_at ck (startM 4 ds) m)
theorem ok_m_MachineCall_object_at {M : Mode} {P : Program} {w : World} {K : PySem.W.Frag} {mg : Str → Option Value} {base : Heap} {k : Nat} {f : Addr} {fd : FuncData} {ck : Tabl} (Fu : Fun K "object_at" "MachineCall.object_at" s_m_MachineCall_object_at f fd) (T : Txt K w mg) :
    FnOk P w K mg base (M.CX P w) (lv k + 1) f fd ["self", "operand"] (spM K 2 (f_m_MachineCall_object_at ck)) :=
  have nd := sc_m_MachineCall_object_at.nd
  fnx_ok (M := M) (g := b_m_MachineCall_object_at ck) Fu sc_m_MachineCall_object_at rfl (fun _ _ _ => rfl) fun cdv A outer s H E hr W tk hp =>
    (jb_cons (js_asg (j_var 1) (jg_tup rfl (jgs_cons (jg_name 2 nd) (jgs_cons (jg_name 3 nd) jgs_nil))))
    (jb_one (js_ret (je_item (hu1 hr) (je_item (hu1 hr) (je_fld (j_var 0) T.f_objects) (j_var 2)) (j_var 3)))))
abbrev s_m_MachineCall_end_of : Stmt := clsS (topS 37) 3
theorem sc_m_MachineCall_end_of : FnScope ["self", "tree", "at", "operand"] ["self", "tree"] (defScope s_m_MachineCall_end_of) := ⟨rfl, rfl, rfl, by decide +kernel, rfl, by decide +kernel, by decide +kernel⟩
noncomputable def b_m_MachineCall_end_of (ck : Tabl) : MS := (mSeq (whileM (mB (mBin (gEqA true) (mBin gItem (mVar 1) (mC (.int 0))) (mC (.str "end"))))
    (mIfS (mB (mBin (gEqA false) (mBin gItem (mVar 1) (mC (.int 0))) (mC (.str "test"))))
    (mAsg (mBin gItem (mBin gItem (mVar 1) (mC (.int 2))) (mIdxK ["t", "f", "n"] (mBin gItem (mMeth "MachineCall" "object_at" (ck.f .m_MachineCall_object_at) (mVar 0) (mCons (mBin gItem (mVar 1) (mC (.int 1))) mNil)) (mC (.int 1))))) (nName 1))
    (mSeq (mAsg (mCall gLen (mCons (mFld pf_events "events" (mVar 0)) mNil)) (nName 2))
    (mSeq (mDrop (mBM gAppend (mFld pf_events "events" (mVar 0)) (mCons (mTup (mCons (mBin gItem (mVar 1) (mC (.int 1))) (mCons (mCall gTuple (mCons (mLc (mAnyI (mBin gItem (mVar 1) (mC (.int 2)))) (ngName 3) mYes (mMeth "MachineCall" "value" (ck.f .m_MachineCall_value) (mVar 0) (mCons (mVar 3) mNil)) [3]) mNil)) mNil))) mNil)))
    (mSeq (mIfS (mB (mBin (gEqA false) (mVar 2) (mCall gLen (mCons (mFld pf_answers "answers" (mVar 0)) mNil))))
    (mRet (mC .non))
    mSkip)
    (mAsg (mBin gItem (mBin gItem (mVar 1) (mC (.int 3))) (mIf (mB (mBin (gEqA false) (mBin gItem (mFld pf_answers "answers" (mVar 0)) (mVar 2)) (mC (.str "x")))) (mC (.int 1)) (mC (.int 0)))) (nName 1)))))) turns)
    (mRet (mVar 1)))
noncomputable def f_m_MachineCall_end_of (ck : Tabl) : MF := fun ds m => endOf (b_m_MachineCall_end_of ck (startM 4 ds) m)
theorem ok_m_MachineCall_end_of {M : Mode} {P : Program} {w : World} {K : PySem.W.Frag} {mg : Str → Option Value} {base : Heap} {k : Nat} {f : Addr} {fd : FuncData} {ck : Tabl} (Fu : Fun K "end_of" "MachineCall.end_of" s_m_MachineCall_end_of f fd) (T : Txt K w mg) (I_m_MachineCall_object_at : MthX M P w K mg base (lv k) "MachineCall" "object_at" 1 (ck.f .m_MachineCall_object_at)) (I_m_MachineCall_value : MthX M P w K mg base (lv k) "MachineCall" "value" 1 (ck.f .m_MachineCall_value)) :
    FnOk P w K mg base (M.CX P w) (lv k + 1) f fd ["self", "tree"] (spM K 2 (f_m_MachineCall_end_of ck)) :=
  have nd := sc_m_MachineCall_end_of.nd
  fnx_ok (M := M) (g := b_m_MachineCall_end_of ck) Fu sc_m_MachineCall_end_of rfl (fun _ _ _ => rfl) fun cdv A outer s H E hr W tk hp =>
    (jb_cons (js_while turns hp (jt_cmp (op_neA (hu64 hr)) om_neA (je_item (hu1 hr) (j_var 1) j_int) j_str)
    (jb_one (js_if (jt_cmp (op_eqA (hu64 hr)) om_eqA (je_item (hu1 hr) (j_var 1) j_int) j_str)
    (jb_one (js_set 1 nd (je_item (hu1 hr) (je_item (hu1 hr) (j_var 1) j_int) (je_idxK (ss := ["t", "f", "n"]) T.c_KINDS T.u_KINDS (je_item (hu1 hr) (jx_meth I_m_MachineCall_object_at hr (Nat.le_refl _) tk (j_var 0) (ja_cons (je_item (hu1 hr) (j_var 1) j_int) ja_nil) (hlen := (mCons_len mNil_len))) j_int)))))
    (jb_cons (js_set 2 nd (je_callB cr_len cm_len T.b_len PySem.boot_len (ja_cons (je_fld (j_var 0) T.f_events) ja_nil)))
    (jb_cons (js_expr (je_bmL PySem.F.slot_list_append PySem.F.type_list_append mt_append mm_append (je_fld (j_var 0) T.f_events) (ja_cons (je_tup (ja_cons (je_item (hu1 hr) (j_var 1) j_int) (ja_cons (je_callTy call_tuple_of cm_tuple T.b_tuple (by decide +kernel) (ja_cons (je_lc [("operand", 3)] rfl rfl nd (ji_any (je_item (hu1 hr) (j_var 1) j_int)) (blkOk_by (N := ["self", "tree", "at", "operand"]) (sc := defScope s_m_MachineCall_end_of) (by decide +kernel)) (fun _ _ _ _ _ => (jn_name 3 nd)) (fun _ _ _ _ _ => jts_nil) (fun _ _ _ _ _ => (jx_meth I_m_MachineCall_value hr (Nat.le_refl _) M.tk0 (j_var 0) (ja_cons (j_var 3) ja_nil) (hlen := (mCons_len mNil_len)))) (hgs_name)) ja_nil)) ja_nil))) ja_nil)))
    (jb_cons (js_if (jt_cmp (op_eqA (hu64 hr)) om_eqA (j_var 2) (je_callB cr_len cm_len T.b_len PySem.boot_len (ja_cons (je_fld (j_var 0) T.f_answers) ja_nil)))
    (jb_one (js_ret j_non))
    jb_nil)
    (jb_one (js_set 1 nd (je_item (hu1 hr) (je_item (hu1 hr) (j_var 1) j_int) (je_if (jt_cmp (op_eqA (hu64 hr)) om_eqA (je_item (hu1 hr) (je_fld (j_var 0) T.f_answers) (j_var 2)) j_str) j_int j_int))))))))))
    (jb_one (js_ret (j_var 1))))
structure Defs (K : PySem.W.Frag) (mg : Str → Option Value) : Prop where
  is_integer : DefAt K mg "is_integer" s_is_integer ["value"]
  is_name : DefAt K mg "is_name" s_is_name ["value"]
  held_object : DefAt K mg "held_object" s_held_object ["source", "kind"]
  is_call : DefAt K mg "is_call" s_is_call ["value", "program"]
  is_history : DefAt K mg "is_history" s_is_history ["program", "value"]
  check_history : DefAt K mg "check_history" s_check_history ["program", "history"]
  check_machine : DefAt K mg "check_machine" s_check_machine ["machine"]
  u_is_machine_state : DefAt K mg "_is_machine_state" s_u_is_machine_state ["value"]
  u_is_number : DefAt K mg "_is_number" s_u_is_number ["value", "many"]
  u_check_tree : DefAt K mg "_check_tree" s_u_check_tree ["tree", "room", "happened", "level"]
  u_is_tuple_of : DefAt K mg "_is_tuple_of" s_u_is_tuple_of ["value", "many"]
  u_check_end : DefAt K mg "_check_end" s_u_check_end ["tree", "room", "happened"]
  u_is_outcome : DefAt K mg "_is_outcome" s_u_is_outcome ["outcome", "room", "happened"]
  u_are_operands : DefAt K mg "_are_operands" s_u_are_operands ["word", "values", "room", "happened"]
  u_is_operand : DefAt K mg "_is_operand" s_u_is_operand ["value", "room", "happened"]
  u_is_object : DefAt K mg "_is_object" s_u_is_object ["value", "room", "happened"]
  run_machine : DefAt K mg "run_machine" s_run_machine ["machine", "history"]
  l_source : DefAt K mg "_law_source" s_l_source ["_law_script"]
  l_draw : DefAt K mg "_law_draw" s_l_draw ["_law_source_here", "_law_limit"]
  l_pick : DefAt K mg "_law_pick" s_l_pick ["_law_source_here", "_law_values"]
  l_value_in : DefAt K mg "_law_value_in" s_l_value_in ["_law_call", "_law_operand_here"]
  l_kind_in : DefAt K mg "_law_kind_in" s_l_kind_in ["_law_call", "_law_operand_here"]
  l_tree_end : DefAt K mg "_law_tree_end" s_l_tree_end ["_law_call", "_law_tree_here", "_law_answers", "_law_number"]
  l_follow : DefAt K mg "_law_follow" s_l_follow ["_law_machine_made", "_law_history"]
  l_object : DefAt K mg "_law_object" s_l_object ["_law_source_here", "_law_places", "_law_many", "_law_events"]
  l_operand : DefAt K mg "_law_operand" s_l_operand ["_law_source_here", "_law_places", "_law_many", "_law_events"]
  l_end : DefAt K mg "_law_end" s_l_end ["_law_source_here", "_law_shape", "_law_places", "_law_events"]
  l_tree : DefAt K mg "_law_tree" s_l_tree ["_law_source_here", "_law_shape", "_law_places", "_law_events", "_law_deep"]
  l_machine : DefAt K mg "_law_machine" s_l_machine ["_law_source_here"]
  l_word : DefAt K mg "_law_word" s_l_word ["_law_made", "_law_history"]
  l_bounds : DefAt K mg "_law_bounds" s_l_bounds []
  law : DefAt K mg "law" s_law ["_law_script"]
  i_Room : IniAt K mg "Room" "Room.__init__" s_i_Room ["self", "parameters", "states", "places"]
  i_MachineCall : IniAt K mg "MachineCall" "MachineCall.__init__" s_i_MachineCall ["self", "machine", "number", "held", "call"]
  m_MachineCall_value : MthAt K "MachineCall" "value" "MachineCall.value" s_m_MachineCall_value ["self", "operand"]
  m_MachineCall_object_at : MthAt K "MachineCall" "object_at" "MachineCall.object_at" s_m_MachineCall_object_at ["self", "operand"]
  m_MachineCall_end_of : MthAt K "MachineCall" "end_of" "MachineCall.end_of" s_m_MachineCall_end_of ["self", "tree"]
structure Bas (K : PySem.W.Frag) (mg : Str → Option Value) (base : Heap) : Prop where
noncomputable def bodyF (ck : Tabl) (h : Nat → Tabl) (k : Nat) : Fnm → MF
  | .is_integer => f_is_integer ck
  | .is_name => f_is_name ck
  | .held_object => f_held_object ck
  | .is_call => f_is_call ck
  | .is_history => f_is_history ck
  | .check_history => f_check_history ck
  | .check_machine => f_check_machine ck h k
  | .u_is_machine_state => f_u_is_machine_state ck
  | .u_is_number => f_u_is_number ck
  | .u_check_tree => f_u_check_tree ck
  | .u_is_tuple_of => f_u_is_tuple_of ck
  | .u_check_end => f_u_check_end ck
  | .u_is_outcome => f_u_is_outcome ck
  | .u_are_operands => f_u_are_operands ck
  | .u_is_operand => f_u_is_operand ck
  | .u_is_object => f_u_is_object ck
  | .run_machine => f_run_machine ck h k
  | .l_source => f_l_source ck
  | .l_draw => f_l_draw ck
  | .l_pick => f_l_pick ck
  | .l_value_in => f_l_value_in ck
  | .l_kind_in => f_l_kind_in ck
  | .l_tree_end => f_l_tree_end ck
  | .l_follow => f_l_follow ck
  | .l_object => f_l_object ck
  | .l_operand => f_l_operand ck
  | .l_end => f_l_end ck
  | .l_tree => f_l_tree ck
  | .l_machine => f_l_machine ck
  | .l_word => f_l_word ck
  | .l_bounds => f_l_bounds ck
  | .law => f_law ck
  | .i_Room => f_i_Room ck
  | .i_MachineCall => f_i_MachineCall ck
  | .m_MachineCall_value => f_m_MachineCall_value ck
  | .m_MachineCall_object_at => f_m_MachineCall_object_at ck
  | .m_MachineCall_end_of => f_m_MachineCall_end_of ck
noncomputable def bodyC (ck : Tabl) (h : Nat → Tabl) (k : Nat) : Fnm → (Nat → MF) → MF
  | _ => fun _ _ _ => .stuck
def noTab : Tabl := ⟨fun _ _ _ => .stuck, fun _ _ _ _ => .stuck⟩
noncomputable def PT : Nat → Tabl × (Nat → Tabl) := fun k => Nat.rec (noTab, fun _ => noTab) (fun k p => (⟨bodyF p.1 (fun j => if j = k then p.1 else p.2 j) k, bodyC p.1 (fun j => if j = k then p.1 else p.2 j) k⟩, fun j => if j = k then p.1 else p.2 j)) k
noncomputable def Tab (k : Nat) : Tabl := (PT k).1
noncomputable def Hk (k : Nat) : Nat → Tabl := (PT (k + 1)).2
theorem Hk_eq : ∀ {k j : Nat}, j ≤ k → Hk k j = Tab j
  | k, j, h => by
    show (if j = k then Tab k else (PT k).2 j) = Tab j
    by_cases e : j = k
    · rw [if_pos e, e]
    · rw [if_neg e]
      cases k with
      | zero => exact absurd (Nat.le_zero.mp h) e
      | succ k => exact Hk_eq (k := k) (by omega)
structure OkN (M : Mode) (P : Program) (w : World) (K : PySem.W.Frag) (mg : Str → Option Value) (base : Heap) (k : Nat) : Prop where
  is_integer : FnX M P w K mg base (lv k) "is_integer" 1 ((Tab k).f .is_integer)
  is_name : FnX M P w K mg base (lv k) "is_name" 1 ((Tab k).f .is_name)
  held_object : FnX M P w K mg base (lv k) "held_object" 2 ((Tab k).f .held_object)
  is_call : FnX M P w K mg base (lv k) "is_call" 2 ((Tab k).f .is_call)
  is_history : FnX M P w K mg base (lv k) "is_history" 2 ((Tab k).f .is_history)
  check_history : FnX M P w K mg base (lv k) "check_history" 2 ((Tab k).f .check_history)
  check_machine : FnX M P w K mg base (lv k) "check_machine" 1 ((Tab k).f .check_machine)
  u_is_machine_state : FnX M P w K mg base (lv k) "_is_machine_state" 1 ((Tab k).f .u_is_machine_state)
  u_is_number : FnX M P w K mg base (lv k) "_is_number" 2 ((Tab k).f .u_is_number)
  u_check_tree : FnX M P w K mg base (lv k) "_check_tree" 4 ((Tab k).f .u_check_tree)
  u_is_tuple_of : FnX M P w K mg base (lv k) "_is_tuple_of" 2 ((Tab k).f .u_is_tuple_of)
  u_check_end : FnX M P w K mg base (lv k) "_check_end" 3 ((Tab k).f .u_check_end)
  u_is_outcome : FnX M P w K mg base (lv k) "_is_outcome" 3 ((Tab k).f .u_is_outcome)
  u_are_operands : FnX M P w K mg base (lv k) "_are_operands" 4 ((Tab k).f .u_are_operands)
  u_is_operand : FnX M P w K mg base (lv k) "_is_operand" 3 ((Tab k).f .u_is_operand)
  u_is_object : FnX M P w K mg base (lv k) "_is_object" 3 ((Tab k).f .u_is_object)
  run_machine : FnX M P w K mg base (lv k) "run_machine" 2 ((Tab k).f .run_machine)
  l_source : FnX M P w K mg base (lv k) "_law_source" 1 ((Tab k).f .l_source)
  l_draw : FnX M P w K mg base (lv k) "_law_draw" 2 ((Tab k).f .l_draw)
  l_pick : FnX M P w K mg base (lv k) "_law_pick" 2 ((Tab k).f .l_pick)
  l_value_in : FnX M P w K mg base (lv k) "_law_value_in" 2 ((Tab k).f .l_value_in)
  l_kind_in : FnX M P w K mg base (lv k) "_law_kind_in" 2 ((Tab k).f .l_kind_in)
  l_tree_end : FnX M P w K mg base (lv k) "_law_tree_end" 4 ((Tab k).f .l_tree_end)
  l_follow : FnX M P w K mg base (lv k) "_law_follow" 2 ((Tab k).f .l_follow)
  l_object : FnX M P w K mg base (lv k) "_law_object" 4 ((Tab k).f .l_object)
  l_operand : FnX M P w K mg base (lv k) "_law_operand" 4 ((Tab k).f .l_operand)
  l_end : FnX M P w K mg base (lv k) "_law_end" 4 ((Tab k).f .l_end)
  l_tree : FnX M P w K mg base (lv k) "_law_tree" 5 ((Tab k).f .l_tree)
  l_machine : FnX M P w K mg base (lv k) "_law_machine" 1 ((Tab k).f .l_machine)
  i_Room : MkX M P w K mg base (lv k) "Room" 3 ((Tab k).f .i_Room)
  i_MachineCall : MkX M P w K mg base (lv k) "MachineCall" 4 ((Tab k).f .i_MachineCall)
  m_MachineCall_value : MthX M P w K mg base (lv k) "MachineCall" "value" 1 ((Tab k).f .m_MachineCall_value)
  m_MachineCall_object_at : MthX M P w K mg base (lv k) "MachineCall" "object_at" 1 ((Tab k).f .m_MachineCall_object_at)
  m_MachineCall_end_of : MthX M P w K mg base (lv k) "MachineCall" "end_of" 1 ((Tab k).f .m_MachineCall_end_of)
theorem ok0 (M : Mode) {P : Program} {w : World} {K : PySem.W.Frag} {mg : Str → Option Value} {base : Heap} (D : Defs K mg) : OkN M P w K mg base 0 :=
  ⟨D.is_integer.fn0 rfl, D.is_name.fn0 rfl, D.held_object.fn0 rfl, D.is_call.fn0 rfl, D.is_history.fn0 rfl, D.check_history.fn0 rfl, D.check_machine.fn0 rfl, D.u_is_machine_state.fn0 rfl, D.u_is_number.fn0 rfl, D.u_check_tree.fn0 rfl, D.u_is_tuple_of.fn0 rfl, D.u_check_end.fn0 rfl, D.u_is_outcome.fn0 rfl, D.u_are_operands.fn0 rfl, D.u_is_operand.fn0 rfl, D.u_is_object.fn0 rfl, D.run_machine.fn0 rfl, D.l_source.fn0 rfl, D.l_draw.fn0 rfl, D.l_pick.fn0 rfl, D.l_value_in.fn0 rfl, D.l_kind_in.fn0 rfl, D.l_tree_end.fn0 rfl, D.l_follow.fn0 rfl, D.l_object.fn0 rfl, D.l_operand.fn0 rfl, D.l_end.fn0 rfl, D.l_tree.fn0 rfl, D.l_machine.fn0 rfl, D.i_Room.mk0 rfl, D.i_MachineCall.mk0 rfl, D.m_MachineCall_value.mth0 rfl, D.m_MachineCall_object_at.mth0 rfl, D.m_MachineCall_end_of.mth0 rfl⟩
theorem okS (M : Mode) {P : Program} {w : World} {K : PySem.W.Frag} {mg : Str → Option Value} {base : Heap} (D : Defs K mg) (T : Txt K w mg) (B : Bas K mg base) {k : Nat} (hs : ∀ j, j ≤ k → OkN M P w K mg base j) : OkN M P w K mg base (k + 1) :=
    have h := hs k (Nat.le_refl k)
    ⟨D.is_integer.fnx fun f fd Fu => ok_is_integer (M := M) (ck := Tab k) Fu T,
     D.is_name.fnx fun f fd Fu => ok_is_name (M := M) (ck := Tab k) Fu T,
     D.held_object.fnx fun f fd Fu => ok_held_object (M := M) (ck := Tab k) Fu T,
     D.is_call.fnx fun f fd Fu => ok_is_call (M := M) (ck := Tab k) Fu T,
     D.is_history.fnx fun f fd Fu => ok_is_history (M := M) (ck := Tab k) Fu T h.is_call,
     D.check_history.fnx fun f fd Fu => ok_check_history (M := M) (ck := Tab k) Fu T h.is_history,
     D.check_machine.fnx fun f fd Fu => ok_check_machine (M := M) (ck := Tab k) (h := Hk k) Fu T h.u_check_tree h.u_is_machine_state h.u_is_number h.is_name (fun j hj => by rw [Hk_eq (Nat.le_of_lt hj)]; exact (hs j (Nat.le_of_lt hj)).i_Room),
     D.u_is_machine_state.fnx fun f fd Fu => ok_u_is_machine_state (M := M) (ck := Tab k) Fu T h.u_is_number,
     D.u_is_number.fnx fun f fd Fu => ok_u_is_number (M := M) (ck := Tab k) Fu T h.is_integer,
     D.u_check_tree.fnx fun f fd Fu => ok_u_check_tree (M := M) (ck := Tab k) Fu T h.u_are_operands h.u_check_end h.u_check_tree h.u_is_object h.u_is_tuple_of,
     D.u_is_tuple_of.fnx fun f fd Fu => ok_u_is_tuple_of (M := M) (ck := Tab k) Fu T,
     D.u_check_end.fnx fun f fd Fu => ok_u_check_end (M := M) (ck := Tab k) Fu T h.u_is_number h.u_is_object h.u_is_outcome h.u_is_tuple_of,
     D.u_is_outcome.fnx fun f fd Fu => ok_u_is_outcome (M := M) (ck := Tab k) Fu T h.u_is_number h.u_is_operand,
     D.u_are_operands.fnx fun f fd Fu => ok_u_are_operands (M := M) (ck := Tab k) Fu T h.u_is_operand h.is_name,
     D.u_is_operand.fnx fun f fd Fu => ok_u_is_operand (M := M) (ck := Tab k) Fu T h.u_is_object h.u_is_tuple_of,
     D.u_is_object.fnx fun f fd Fu => ok_u_is_object (M := M) (ck := Tab k) Fu T h.u_is_number h.u_is_tuple_of,
     D.run_machine.fnx fun f fd Fu => ok_run_machine (M := M) (ck := Tab k) (h := Hk k) Fu T h.check_history h.check_machine h.m_MachineCall_end_of h.m_MachineCall_object_at h.m_MachineCall_value (fun j hj => by rw [Hk_eq (Nat.le_of_lt hj)]; exact (hs j (Nat.le_of_lt hj)).i_MachineCall),
     D.l_source.fnx fun f fd Fu => ok_l_source (M := M) (ck := Tab k) Fu T,
     D.l_draw.fnx fun f fd Fu => ok_l_draw (M := M) (ck := Tab k) Fu T,
     D.l_pick.fnx fun f fd Fu => ok_l_pick (M := M) (ck := Tab k) Fu T h.l_draw,
     D.l_value_in.fnx fun f fd Fu => ok_l_value_in (M := M) (ck := Tab k) Fu T,
     D.l_kind_in.fnx fun f fd Fu => ok_l_kind_in (M := M) (ck := Tab k) Fu T h.l_value_in,
     D.l_tree_end.fnx fun f fd Fu => ok_l_tree_end (M := M) (ck := Tab k) Fu T h.l_kind_in h.l_value_in,
     D.l_follow.fnx fun f fd Fu => ok_l_follow (M := M) (ck := Tab k) Fu T h.l_tree_end h.l_value_in,
     D.l_object.fnx fun f fd Fu => ok_l_object (M := M) (ck := Tab k) Fu T h.l_pick,
     D.l_operand.fnx fun f fd Fu => ok_l_operand (M := M) (ck := Tab k) Fu T h.l_draw h.l_object h.l_pick,
     D.l_end.fnx fun f fd Fu => ok_l_end (M := M) (ck := Tab k) Fu T h.l_draw h.l_object h.l_operand h.l_pick,
     D.l_tree.fnx fun f fd Fu => ok_l_tree (M := M) (ck := Tab k) Fu T h.l_draw h.l_end h.l_object h.l_operand h.l_pick h.l_tree,
     D.l_machine.fnx fun f fd Fu => ok_l_machine (M := M) (ck := Tab k) Fu T h.l_draw h.l_pick h.l_tree,
     D.i_Room.mkx fun f fd Fu => ok_i_Room (M := M) (ck := Tab k) Fu T,
     D.i_MachineCall.mkx fun f fd Fu => ok_i_MachineCall (M := M) (ck := Tab k) Fu T,
     D.m_MachineCall_value.mthx fun f fd Fu => ok_m_MachineCall_value (M := M) (ck := Tab k) Fu T h.held_object h.m_MachineCall_object_at,
     D.m_MachineCall_object_at.mthx fun f fd Fu => ok_m_MachineCall_object_at (M := M) (ck := Tab k) Fu T,
     D.m_MachineCall_end_of.mthx fun f fd Fu => ok_m_MachineCall_end_of (M := M) (ck := Tab k) Fu T h.m_MachineCall_object_at h.m_MachineCall_value⟩
theorem okA (M : Mode) {P : Program} {w : World} {K : PySem.W.Frag} {mg : Str → Option Value} {base : Heap} (D : Defs K mg) (T : Txt K w mg) (B : Bas K mg base) : ∀ k, ∀ j, j ≤ k → OkN M P w K mg base j
  | 0, j, h => by rw [Nat.le_zero.mp h]; exact ok0 M D
  | k + 1, j, h => by
    by_cases e : j = k + 1
    · rw [e]; exact okS M D T B (okA M D T B k)
    · exact okA M D T B k j (by omega)
theorem okN (M : Mode) {P : Program} {w : World} {K : PySem.W.Frag} {mg : Str → Option Value} {base : Heap} (D : Defs K mg) (T : Txt K w mg) (B : Bas K mg base) (k : Nat) : OkN M P w K mg base k := okA M D T B k k (Nat.le_refl k)
structure Ok2 (P : Program) (w : World) (K : PySem.W.Frag) (mg : Str → Option Value) (base : Heap) (k : Nat) : Prop where
  l_word : FnX M2 P w K mg base (lv k) "_law_word" 2 ((Tab k).f .l_word)
  l_bounds : FnX M2 P w K mg base (lv k) "_law_bounds" 0 ((Tab k).f .l_bounds)
  law : FnX M2 P w K mg base (lv k) "law" 1 ((Tab k).f .law)
theorem ok2 {P : Program} {w : World} {K : PySem.W.Frag} {mg : Str → Option Value} {base : Heap} (D : Defs K mg) (T : Txt K w mg) (B : Bas K mg base) : ∀ k, Ok2 P w K mg base k
  | 0 => ⟨D.l_word.fn0 rfl, D.l_bounds.fn0 rfl, D.law.fn0 rfl⟩
  | k + 1 =>
    have h : Ok2 P w K mg base k := ok2 D T B k
    have g : OkN M2 P w K mg base k := okN M2 D T B k
    have gN : OkN MN P w K mg base k := okN MN D T B k
    have hs : ∀ j, j ≤ k → OkN M2 P w K mg base j := okA M2 D T B k
    have hsN : ∀ j, j ≤ k → OkN MN P w K mg base j := okA MN D T B k
    ⟨D.l_word.fnx fun f fd Fu => ok_l_word (ck := Tab k) Fu T g.run_machine,
     D.l_bounds.fnx fun f fd Fu => ok_l_bounds (M := M2) (ck := Tab k) Fu T h.l_word g.run_machine,
     D.law.fnx fun f fd Fu => ok_law (M := M2) (ck := Tab k) Fu T h.l_bounds g.l_draw g.l_follow g.l_machine g.l_pick g.l_source h.l_word g.run_machine⟩
theorem law_at {P : Program} {w : World} {K : PySem.W.Frag} {mg : Str → Option Value} (D : Defs K mg) (T : Txt K w mg) {cs : List (Addr × Addr)} (Bs : ∀ base : Heap, (∀ p ∈ cs, LamX.TabB base mg p.1 p.2) → Bas K mg base) (k : Nat) {fa : Addr} (h : mg "law" = some (.ref fa)) : ∃ fd : FuncData, (∀ (s : Shared) (u : Value), BindsTo s fd ⟨[u], []⟩ [("_law_script", u)]) ∧ ∀ base : Heap, (∀ p ∈ cs, LamX.TabB base mg p.1 p.2) → FnOk P w K mg base (L2.CX P w) (lv k + 1) fa fd ["_law_script"] (spM K 1 ((Tab (k + 1)).f .law)) := by
  obtain ⟨f, fd, Fu, h2, _, _⟩ := D.law.ex
  rw [h] at h2
  cases h2
  refine ⟨fd, fun s u => ?_, fun base tb => ?_⟩
  · obtain ⟨oc, od, kV, doc, pm, an, cdv, ct, osl, rfl, lk, hcd⟩ := Fu.ex
    exact .of_eq rfl
  · have B := Bs base tb
    have hs : ∀ j, j ≤ k → OkN M2 P w K mg base j := okA M2 D T B k
    exact ok_law (M := M2) (ck := Tab k) Fu T (ok2 D T B k).l_bounds (okN M2 D T B k).l_draw (okN M2 D T B k).l_follow (okN M2 D T B k).l_machine (okN M2 D T B k).l_pick (okN M2 D T B k).l_source (ok2 D T B k).l_word (okN M2 D T B k).run_machine
end K51
set_option maxHeartbeats 4000000
namespace K51
open PySem L2 MI
/-- for rules that ask for one (no matter which) -/
instance dflt : Nms where
  nm := fun _ _ => ""
  tb := fun _ => []
/-- all but those at S is as it was -/
def Kp (S : List Nat) (m m' : Mem) : Prop := m.length ≤ m'.length ∧ ∀ n, n < m.length → n ∉ S → m'[n]? = m[n]?
theorem Kp.refl {S : List Nat} {m : Mem} : Kp S m m := ⟨Nat.le_refl _, fun _ _ _ => rfl⟩
theorem Kp.trans {S : List Nat} {m m' m'' : Mem} (a : Kp S m m') (b : Kp S m' m'') : Kp S m m'' := ⟨Nat.le_trans a.1 b.1, fun n h1 h2 => (b.2 n (Nat.lt_of_lt_of_le h1 a.1) h2).trans (a.2 n h1 h2)⟩
theorem Kp.get {S : List Nat} {m m' : Mem} (a : Kp S m m') {n : Nat} {o : MO} (h : m[n]? = some o) (hn : n ∉ S) : m'[n]? = some o := (a.2 n (List.getElem?_eq_some_iff.mp h).1 hn).trans h
theorem Kp.push {S : List Nat} {m : Mem} {o : MO} : Kp S m (m ++ [o]) := ⟨by simp, fun n h _ => List.getElem?_append_left h⟩
theorem Kp.wr {S : List Nat} {m : Mem} {n : Nat} {o : MO} (h : n ∈ S) : Kp S m (m.set n o) := ⟨by simp, fun i _ hi => by rw [List.getElem?_set_ne (fun e => hi (by rw [← e]; exact h))]⟩
theorem Kp.mono {S S' : List Nat} {m m' : Mem} (a : Kp S m m') (h : ∀ n ∈ S, n ∈ S') : Kp S' m m' := ⟨a.1, fun n h1 h2 => a.2 n h1 fun z => h2 (h n z)⟩
/-- the source of draws: its list at s, the cells at c, t draws so far -/
structure Src (m : Mem) (s c : Nat) (t : Int) : Prop where
  ex : ∃ cells : List Int, cells ≠ [] ∧ m[s]? = some (.lst [.ref c, .int t]) ∧ m[c]? = some (.lst (cells.map .int))
  ne : s ≠ c
  lo : 0 ≤ t
theorem Src.kp {m m' : Mem} {s c : Nat} {t : Int} {S : List Nat} (a : Src m s c t) (k : Kp S m m') (h1 : s ∉ S) (h2 : c ∉ S) : Src m' s c t :=
  let ⟨cells, e1, e2, e3⟩ := a.ex; ⟨⟨cells, e1, k.get e2 h1, k.get e3 h2⟩, a.ne, a.lo⟩
theorem draw_ok {k : Nat} {m : Mem} {s c : Nat} {t lim : Int} (a : Src m s c t) (h0 : 0 < lim) (h1 : lim < 2 ^ 60) (ht : t < 2 ^ 60) :
    MI.W ((Tab (k + 1)).f .l_draw [.ref s, .int lim] m) (fun d m' => ∃ v : Int, d = .int v ∧ 0 ≤ v ∧ v < lim ∧ Src m' s c (t + 1) ∧ Kp [s, c] m m' ∧ m'.length = m.length) E0 := by
  obtain ⟨cells, e1, e2, e3⟩ := a.ex
  have ne := a.ne
  have lo := a.lo
  have ls : s < m.length := (List.getElem?_eq_some_iff.mp e2).1
  have lc : c < m.length := (List.getElem?_eq_some_iff.mp e3).1
  have n0 : 0 < (cells.length : Int) := by
    cases cells with
    | nil => exact absurd rfl e1
    | cons _ _ => simp only [List.length_cons]; omega
  -- the place
  have p0 := Int.emod_nonneg t (Int.ne_of_gt n0)
  have p1 := Int.emod_lt_of_pos t n0
  have hp : (t % (cells.length : Int)).toNat < cells.length := by omega
  obtain ⟨cell, at1⟩ : ∃ cell : Int, atM (cells.map MV.int) (t % (cells.length : Int)) = some (.int cell) := by
    refine ⟨cells[(t % (cells.length : Int)).toNat], ?_⟩
    unfold atM ixN
    rw [if_pos p0, List.length_map, if_pos p1]
    simp [hp]
  obtain ⟨j, ix1⟩ : ∃ j, ixN cells.length (t % (cells.length : Int)) = some j := by
    refine ⟨(t % (cells.length : Int)).toNat, ?_⟩
    unfold ixN
    rw [if_pos p0, if_pos p1]
  have d2 : (m.set s (.lst [.ref c, .int (t + 1)]))[c]? = some (.lst (cells.map .int)) := by rw [List.getElem?_set_ne ne]; exact e3
  have ds : (m.set s (.lst [.ref c, .int (t + 1)]))[s]? = some (.lst [.ref c, .int (t + 1)]) := by rw [List.getElem?_set_self ls]
  have kp1 : Kp [s, c] m (m.set s (.lst [.ref c, .int (t + 1)])) := Kp.wr (by simp)
  have src1 : Src (m.set s (.lst [.ref c, .int (t + 1)])) s c (t + 1) := ⟨⟨cells, e1, ds, d2⟩, ne, by omega⟩
  have src2 : ∀ v : Int, Src ((m.set s (.lst [.ref c, .int (t + 1)])).set c (.lst ((cells.set j v).map .int))) s c (t + 1) := fun v => by
    refine ⟨⟨cells.set j v, ?_, ?_, ?_⟩, ne, by omega⟩
    · intro z
      have := congrArg List.length z
      simp at this
      exact e1 this
    · rw [List.getElem?_set_ne (Ne.symm ne)]; exact ds
    · rw [List.getElem?_set_self (by simpa using lc)]
  have kp2 : ∀ v : Int, Kp [s, c] m ((m.set s (.lst [.ref c, .int (t + 1)])).set c (.lst ((cells.set j v).map .int))) := fun v => kp1.trans (Kp.wr (by simp))
  have dv : CDivW cell lim := by
    refine ⟨h0, ?_⟩
    have : lim.natAbs < 2 ^ 60 := by omega
    have := (Nat.log2_lt (n := lim.natAbs) (k := 60) (by omega)).mpr this
    omega
  have pw : CPowW 10 18 := by decide
  have ans : ∀ x : Int, 0 ≤ x % lim ∧ x % lim < lim := fun x => ⟨Int.emod_nonneg _ (Int.ne_of_gt h0), Int.emod_lt_of_pos _ h0⟩
  show MI.W (f_l_draw (Tab k) [.ref s, .int lim] m) _ _
  unfold f_l_draw b_l_draw
  simp [startM, W_asgT, nCons, nName, nNil, e2, e3, at1, n0, d2, ds, dv, pw, h0, ix1, show ixN 2 1 = some 1 from rfl]
  refine ⟨by omega, ?_⟩
  have md : ∀ x : Int, -18446744073709551616 < x % 2147483647 ∧ x % 2147483647 < 18446744073709551616 := fun x => by omega
  have md2 : ∀ x : Int, -18446744073709551616 < x % 2147483629 ∧ x % 2147483629 < 18446744073709551616 := fun x => by omega
  split
  · have q1 := src2 (cell / lim)
    have q2 := kp2 (cell / lim)
    rw [List.map_set] at q1 q2
    exact ⟨(ans _).1, (ans _).2, q1, q2⟩
  · exact ⟨⟨by omega, by omega⟩, md _, md2 _, (ans _).1, (ans _).2, src1, kp1⟩
/-- a name by the words of the document -/
def IsName (s : Str) : Prop := 1 ≤ s.length ∧ s.length ≤ 8 ∧ (∀ c ∈ s.cps.toList, 97 ≤ c ∧ c ≤ 122) ∧ s ∉ (["and", "or", "not", "if", "else", "is", "none", "true", "false", "set", "give", "try", "except", "end", "then", "program", "keep", "self"] : List Str)
instance (s : Str) : Decidable (IsName s) := by unfold IsName; exact inferInstance
theorem atM_of {l : List MV} {v : Int} (h0 : 0 ≤ v) (h1 : v < l.length) : ∃ d, d ∈ l ∧ atM l v = some d := by
  refine ⟨l[v.toNat]'(by omega), List.getElem_mem _, ?_⟩
  unfold atM ixN
  rw [if_pos h0, if_pos h1]
  show l[v.toNat]? = _
  rw [List.getElem?_eq_getElem]
/-- what came of a draw of an expression -/
theorem Kp.app {S : List Nat} {m r : Mem} : Kp S m (m ++ r) := ⟨by simp, fun n h _ => List.getElem?_append_left h⟩
theorem at_app {m r : Mem} {i : Nat} : (m ++ r)[m.length + i]? = r[i]? := by rw [List.getElem?_append_right (by omega), show m.length + i - m.length = i by omega]
theorem Kp.wrNew {S : List Nat} {m m' : Mem} {f : Nat} {o : MO} (a : Kp S m m') (h : m.length ≤ f) : Kp S m (m'.set f o) :=
  ⟨by simpa using a.1, fun n h1 h2 => by rw [List.getElem?_set_ne (by omega)]; exact a.2 n h1 h2⟩
theorem rngL_length {lo : Int} {n : Nat} : (rngL lo n).length = n := by simp [rngL]
@[simp] theorem at0 {a : MV} {l : List MV} : atM (a :: l) 0 = some a := by
  unfold atM ixN
  rw [if_pos (by decide), if_pos (by simp)]
  rfl
@[simp] theorem at1 {a b : MV} {l : List MV} : atM (a :: b :: l) 1 = some b := by
  unfold atM ixN
  rw [if_pos (by decide), if_pos (by simp; omega)]
  rfl
@[simp] theorem at2 {a b c : MV} {l : List MV} : atM (a :: b :: c :: l) 2 = some c := by
  unfold atM ixN
  rw [if_pos (by decide), if_pos (by simp; omega)]
  rfl
theorem W_eq {α : Type} {r : Re α} {x : α} {m : Mem} (h : MI.W r (fun d m' => d = x ∧ m' = m) E0) : r = .ok x m := by with_unfolding_all
  cases r with
  | ok a m1 => rw [W_ok] at h; obtain ⟨h1, h2⟩ := h; rw [h1, h2]
  | ex x m1 => exact h.elim
  | stuck => exact h.elim
end K51
set_option maxHeartbeats 4000000
namespace K51
open PySem L2 MI
theorem inV_str {s : Str} : ∀ {l : List Str}, inV (.str s) (l.map V.str) = decide (s ∈ l)
  | [] => rfl
  | x :: r => by
    have ih := inV_str (s := s) (l := r)
    unfold inV at ih ⊢
    rw [List.map_cons, List.any_cons, ih]
    show ((x == s) || decide (s ∈ r)) = _
    by_cases h : x = s
    · subst h; simp
    · rw [beq_eq_false_iff_ne.mpr h]
      simp [Ne.symm h]
theorem W_in_strs {s : Str} {l : List Str} {neg : Bool} {m : Mem} {Q : MV → Mem → Prop} {E : Exn → Mem → Prop} : MI.W (gInA neg (.str s) (.tup (l.map .str)) m) Q E = Q (.bl (if neg = true then !decide (s ∈ l) else decide (s ∈ l))) m := by with_unfolding_all
  classical
  unfold gInA
  have al : (l.map MV.str).all flat = true := by with_unfolding_all simp [flat]
  rw [if_neg (by rintro ⟨z, h⟩; cases h), if_neg (by simp), if_pos ⟨_, rfl, rfl, al⟩]
  show MI.W (if flat (.str s) = true ∧ (l.map MV.str).all flat = true then .ok (.bl (if neg then !inV (toV (.str s)) ((l.map MV.str).map toV) else inV (toV (.str s)) ((l.map MV.str).map toV))) m else .stuck) Q E = _
  rw [if_pos ⟨rfl, al⟩]
  have e : (l.map MV.str).map toV = l.map V.str := by with_unfolding_all rw [List.map_map]; rfl
  rw [e]
  show Q (.bl (if neg then !inV (.str s) (l.map V.str) else inV (.str s) (l.map V.str))) m = _
  rw [inV_str]
theorem bls_map : ∀ bs : List Bool, blsOf (bs.map .bl) = some bs
  | [] => rfl
  | b :: r => by
    show (blsOf (r.map .bl)).map (b :: ·) = _
    rw [bls_map r]; rfl
theorem W_all {n : Nat} {bs : List Bool} {m : Mem} {Q : MV → Mem → Prop} {E : Exn → Mem → Prop} (h : m[n]? = some (.lst (bs.map .bl))) : MI.W (gAll [.ref n] m) Q E = Q (.bl (bs.all id)) m := by with_unfolding_all
  show MI.W (match (lstOf m (.ref n)).bind blsOf with | some bs => .ok (.bl (bs.all id)) m | none => .stuck) Q E = _
  simp only [lstOf_ref, h, Option.bind_some, bls_map]
  rfl
theorem kit_ss : kitB "str" "str" = some true := rfl
theorem kit_tt : kitB "tuple" "tuple" = some true := rfl
@[simp] theorem ty_str {m : Mem} {s : Str} : tyM m (.str s) = some "str" := rfl
@[simp] theorem ty_tup {m : Mem} {s : List MV} : tyM m (.tup s) = some "tuple" := rfl
@[simp] theorem ty_int {m : Mem} {s : Int} : tyM m (.int s) = some "int" := rfl
@[simp] theorem ty_bl {m : Mem} {s : Bool} : tyM m (.bl s) = some "bool" := rfl
@[simp] theorem ty_non {m : Mem} : tyM m .non = some "NoneType" := rfl
def isLow (d : MV) : MV := match d with
  | .str z => .bl (!decide (z.cps.toList < ("a" : Str).cps.toList) && !decide (("z" : Str).cps.toList < z.cps.toList))
  | _ => .non
theorem low_c {c : Nat} : isLow (.str ⟨#[c]⟩) = .bl (decide (97 ≤ c ∧ c ≤ 122)) := by
  have e1 : ("a" : Str).cps.toList = [97] := by decide
  have e2 : ("z" : Str).cps.toList = [122] := by decide
  unfold isLow
  simp only [e1, e2]
  have l1 : ([c] < [97]) ↔ c < 97 := by simp [List.cons_lt_cons_iff]
  have l2 : ([122] < [c]) ↔ 122 < c := by simp [List.cons_lt_cons_iff]
  simp only [l1, l2]
  congr 1
  by_cases h1 : c < 97 <;> by_cases h2 : 122 < c <;> simp [h1, h2] <;> omega
abbrev barred : List Str := ["and", "or", "not", "if", "else", "is", "none", "true", "false", "set", "give", "try", "except", "end", "then", "program", "keep", "self"]
theorem isname_ok {k : Nat} {m : Mem} {s : Str} (hs : s.length ≤ 1000) : MI.W ((Tab (k + 1)).f .is_name [.str s] m) (fun d m' => d = .bl (decide (IsName s)) ∧ Kp [] m m') E0 := by
  have key : ∀ (m : Mem) (Q : MV → Mem → Prop) (E : Exn → Mem → Prop), MI.W (gInA true (.str s) c_BARRED m) Q E = Q (.bl (!decide (s ∈ barred))) m := fun m Q E => W_in_strs (l := barred) (neg := true)
  show MI.W (f_is_name (Tab k) [.str s] m) _ _
  unfold f_is_name b_is_name
  by_cases h1 : (1 : Int) ≤ s.length
  · by_cases h2 : (s.length : Int) ≤ 8
    · by_cases h3 : s ∈ barred
      · have hn : ¬ IsName s := fun h => h.2.2.2 h3
        simp [startM, kit_ss, szl hs, h1, h2]
        erw [key]
        simp only [h3, decide_true, Bool.not_true, tru_bl]
        exact ⟨by rw [decide_eq_false hn], Kp.refl⟩
      · simp [startM, kit_ss, szl hs, h1, h2]
        erw [key]
        simp only [h3, decide_false, Bool.not_false, tru_bl]
        refine W_pure isLow (fun _ => true) trivial (fun d hd => ⟨rfl, fun _ => ?_⟩) (by simpa using (show s.cps.size ≤ 1000 from hs)) ?_
        · obtain ⟨c, hc, rfl⟩ := List.mem_map.mp hd
          show (Re.bind (Re.ok (MV.bl (!decide ((⟨#[c]⟩ : Str).cps.toList < ("a" : Str).cps.toList))) m) fun r m3 => match r with
            | .bl true => Re.bind (Re.ok (MV.str ("z" : Str)) m3) (fun c' m4 => gLeS (.str ⟨#[c]⟩) c' m4)
            | .bl false => .ok (.bl false) m3
            | _ => .stuck) = Re.ok (MV.bl (!decide ((⟨#[c]⟩ : Str).cps.toList < ("a" : Str).cps.toList) && !decide (("z" : Str).cps.toList < (⟨#[c]⟩ : Str).cps.toList))) m
          cases decide ((⟨#[c]⟩ : Str).cps.toList < ("a" : Str).cps.toList) <;> rfl
        · rw [filter_all]
          have e : (s.cps.toList.map fun c => MV.str ⟨#[c]⟩).map isLow = (s.cps.toList.map fun c => decide (97 ≤ c ∧ c ≤ 122)).map .bl := by
            rw [List.map_map, List.map_map]
            exact List.map_congr_left fun c _ => low_c
          rw [e, W_all List.getElem?_concat_length]
          refine ⟨?_, Kp.push⟩
          congr 1
          rw [Bool.eq_iff_iff, List.all_eq_true, decide_eq_true_eq]
          unfold IsName
          constructor
          · intro h
            refine ⟨by omega, by omega, fun c hc => ?_, h3⟩
            simpa using h (decide (97 ≤ c ∧ c ≤ 122)) (List.mem_map_of_mem hc)
          · rintro ⟨_, _, h, _⟩ b hb
            obtain ⟨c, hc, rfl⟩ := List.mem_map.mp hb
            simpa using h c hc
    · have hn : ¬ IsName s := fun h => h2 (by have := h.2.1; omega)
      simp [startM, kit_ss, szl hs, h1, h2, hn]
      exact Kp.refl
  · have hn : ¬ IsName s := fun h => h1 (by have := h.1; omega)
    simp [startM, kit_ss, szl hs, h1, hn]
    exact Kp.refl
theorem kit_all : ∀ t ∈ ["NoneType", "bool", "int", "str", "tuple", "list", "dict"], kitB t "str" = some (decide (t = "str")) ∧ kitB t "tuple" = some (decide (t = "tuple")) ∧ kitB t "dict" = some (decide (t = "dict")) ∧ kitB t "bool" = some (decide (t = "bool")) := by decide
def isStr : MV → Bool
  | .str _ => true
  | _ => false
def isTup : MV → Bool
  | .tup _ => true
  | _ => false
/-- its type is known -/
def Typed (m : Mem) (d : MV) : Prop := ∃ t, tyM m d = some t ∧ t ∈ ["NoneType", "bool", "int", "str", "tuple", "list", "dict"]
theorem ty_isStr {m : Mem} {d : MV} {t : String} (h : tyM m d = some t) : (decide (t = "str")) = isStr d := by
  cases d with
  | int i => cases h; rfl
  | non => cases h; rfl
  | bl b => cases h; rfl
  | str s => cases h; rfl
  | tup l => cases h; rfl
  | kl l => cases h
  | clo _ _ => cases h
  | ref n =>
    have h : tyO m[n]? = some t := h
    cases q : m[n]? with
    | none => rw [q] at h; cases h
    | some o => rw [q] at h; cases o <;> cases h <;> rfl
theorem ty_isTup {m : Mem} {d : MV} {t : String} (h : tyM m d = some t) : (decide (t = "tuple")) = isTup d := by
  cases d with
  | int i => cases h; rfl
  | non => cases h; rfl
  | bl b => cases h; rfl
  | str s => cases h; rfl
  | tup l => cases h; rfl
  | kl l => cases h
  | clo _ _ => cases h
  | ref n =>
    have h : tyO m[n]? = some t := h
    cases q : m[n]? with
    | none => rw [q] at h; cases h
    | some o => rw [q] at h; cases o <;> cases h <;> rfl
theorem isi_str {m : Mem} {d : MV} (h : Typed m d) : ((tyM m d).bind fun t => kitB t "str") = some (isStr d) := by
  obtain ⟨t, h1, h2⟩ := h
  rw [h1, Option.bind_some, (kit_all t h2).1, ty_isStr h1]
theorem isi_tup {m : Mem} {d : MV} (h : Typed m d) : ((tyM m d).bind fun t => kitB t "tuple") = some (isTup d) := by
  obtain ⟨t, h1, h2⟩ := h
  rw [h1, Option.bind_some, (kit_all t h2).2.1, ty_isTup h1]
def nameB : MV → Bool
  | .str s => decide (IsName s)
  | _ => false
theorem isnameV_ok {k : Nat} {m : Mem} {v : MV} (h : Typed m v) (hs : ∀ s, v = .str s → s.length ≤ 1000) : MI.W ((Tab (k + 1)).f .is_name [v] m) (fun d m' => d = .bl (nameB v) ∧ Kp [] m m') E0 := by
  by_cases c : isStr v = true
  · cases v with
    | str s => exact isname_ok (hs s rfl)
    | _ => cases c
  · have e := isi_str h
    rw [show isStr v = false by simpa using c] at e
    show MI.W (f_is_name (Tab k) [v] m) _ _
    unfold f_is_name b_is_name
    simp [startM, e]
    refine ⟨?_, Kp.refl⟩
    cases v with
    | str s => exact absurd rfl c
    | _ => rfl
end K51
set_option maxHeartbeats 4000000
namespace K51
open PySem L2 MI
theorem szl {n : Nat} (h : n ≤ 3000) : n ≤ sizeLine := by rw [sizeLine_eq]; omega
/-- a comprehension that changes nothing, of a longer list -/
theorem lc_pure {m : Mem} {chk : Mem → Prop} {i : Nat} {t : MT} {e : ME} {ρ : MI.Env} (φ : MV → MV) (ψ : MV → Bool) : ∀ (l acc : List MV), chk m → (∀ d ∈ l, t (ρ.set i (some d)) m = .ok (ψ d) m ∧ (ψ d = true → e (ρ.set i (some d)) m = .ok (φ d) m)) → acc.length + l.length ≤ 3000 →
    lcM chk (ngName i) t e ρ l acc m = .ok (acc ++ (l.filter ψ).map φ) m
  | [], acc, hc, _, _ => by
    unfold lcM
    rw [if_pos hc]
    simp
  | d :: l, acc, hc, h, hl => by
    unfold lcM
    rw [if_pos hc]
    obtain ⟨h1, h2⟩ := h d List.mem_cons_self
    show (match t (ρ.set i (some d)) m with
      | .ok true m2 => match e (ρ.set i (some d)) m2 with
        | .ok y m3 => if acc.length < sizeLine then lcM chk (ngName i) t e ρ l (acc ++ [y]) m3 else .stuck
        | _ => .stuck
      | .ok false m2 => lcM chk (ngName i) t e ρ l acc m2
      | _ => .stuck) = _
    rw [h1]
    simp only [List.length_cons] at hl
    cases hp : ψ d with
    | false =>
      dsimp only
      rw [lc_pure φ ψ l acc hc (fun x hx => h x (List.mem_cons_of_mem _ hx)) (by omega), List.filter_cons, hp]
      simp
    | true =>
      dsimp only
      rw [h2 hp]
      dsimp only
      rw [if_pos (Nat.lt_of_lt_of_le (by omega) (szl (n := 3000) (Nat.le_refl _))), lc_pure φ ψ l (acc ++ [φ d]) hc (fun x hx => h x (List.mem_cons_of_mem _ hx)) (by simp; omega), List.filter_cons, hp]
      simp
theorem W_pure {m : Mem} {E : Exn → Mem → Prop} {chk : Mem → Prop} {i : Nat} {t : MT} {e : ME} {ρ : MI.Env} {Q : List MV → Mem → Prop} (φ : MV → MV) (ψ : MV → Bool) {l : List MV} (hc : chk m) (h : ∀ d ∈ l, t (ρ.set i (some d)) m = .ok (ψ d) m ∧ (ψ d = true → e (ρ.set i (some d)) m = .ok (φ d) m)) (hl : l.length ≤ 3000) (q : Q ((l.filter ψ).map φ) m) :
    MI.W (lcM chk (ngName i) t e ρ l [] m) Q E := by
  rw [lc_pure φ ψ l [] hc h (by simpa using hl)]
  simpa using q
theorem W_pureN {m : Mem} {E : Exn → Mem → Prop} {ρ : MI.Env} {chk : Mem → Prop} {i : Nat} {t : MT} {e : ME} {Q : List MV → Mem → Prop} (φ : MV → MV) (ψ : MV → Bool) {l : List MV} (hc : chk m) (h : ∀ d ∈ l, t (ρ.set i (some d)) m = .ok (ψ d) m ∧ (ψ d = true → e (ρ.set i (some d)) m = .ok (φ d) m)) (hl : l.length ≤ 3000) (q : ∀ k, k = (l.filter ψ).map φ → Q k m) :
    MI.W (lcM chk (ngName i) t e ρ l [] m) Q E := W_pure φ ψ hc h hl (q _ rfl)
structure Rm where
  params : Nat
  states : List Nat
  places : Nat
abbrev signs : List Str := ["<", "<=", ">", ">=", "==", "!="]
abbrev consts : List Str := ["none", "true", "false"]
def numB (v : MV) (many : Nat) : Bool := match v with
  | .int i => decide (0 ≤ i) && decide (i < many)
  | _ => false
def hapB (hap : List Bool) (v : MV) : Bool := match v with
  | .int i => hap.getD i.toNat false
  | _ => false
def sgB (w : MV) : Bool := match w with
  | .str s => decide (s ∈ signs)
  | _ => false
def objB (R : Rm) (hap : List Bool) (v : MV) : Option Bool := match v with
  | .tup [w, n] => match w with
    | .str w => if w = "place" then some (numB n R.places) else if w = "parameter" then some (numB n R.params) else if w = "event" then some (numB n hap.length && !hapB hap n) else some false
    | .non => some false
    | _ => none
  | _ => some false
def opB (R : Rm) (hap : List Bool) (v : MV) : Option Bool := match v with
  | .tup [x] => match x with
    | .str s => some (decide (s ∈ consts))
    | .non => some false
    | _ => none
  | v => objB R hap v
def allO (f : MV → Option Bool) : List MV → Option Bool
  | [] => some true
  | x :: r => match f x, allO f r with
    | some a, some b => some (a && b)
    | _, _ => none
def opsB (R : Rm) (hap : List Bool) (w vals : MV) : Option Bool := match vals with
  | .tup l => match allO (opB R hap) l with
    | some true => if nameB w = true then some (decide (l.length ≤ 3)) else some (sgB w && decide (l.length = 2))
    | r => r
  | _ => some false
def outB (R : Rm) (hap : List Bool) (o : MV) : Option Bool := match o with
  | .tup [w, v] => match w with
    | .str w => if w = "failed" then some (numB v hap.length && hapB hap v) else if w = "value" then opB R hap v else some false
    | .non => some false
    | _ => none
  | _ => some false
def isT (v : MV) (n : Nat) : Bool := match v with
  | .tup l => decide (l.length = n)
  | _ => false
def endB (R : Rm) (hap : List Bool) (o fo h : MV) : Option Bool := match outB R hap o with
  | some true => if numB fo R.states.length = true then (match fo with
    | .int i => match h with
      | .tup l => if l.length = R.states.getD i.toNat 0 then allO (objB R hap) l else some false
      | _ => some false
    | _ => some false) else some false
  | r => r
def andO (a b : Option Bool) : Option Bool := match a with
  | some true => b
  | r => r
def treeB (R : Rm) : Nat → List Bool → Nat → MV → Option Bool
  | 0, _, _, _ => none
  | f + 1, hap, lv, t => if 30 < lv then some false else match t with
    | .tup (h :: r) => match h with
      | .str w =>
        if w = "end" ∧ r.length = 3 then (match r with
          | [o, fo, h] => endB R hap o fo h
          | _ => none)
        else if w = "test" ∧ r.length = 2 then (match r with
          | [o, b] => andO (objB R hap o) (match b with
            | .tup [x, y, z] => andO (treeB R f hap (lv + 1) x) (andO (treeB R f hap (lv + 1) y) (treeB R f hap (lv + 1) z))
            | _ => some false)
          | _ => none)
        else if w = "ask" ∧ r.length = 3 then (match r with
          | [w', ops, b] => if hap.length = 6 then some false else andO (opsB R hap w' ops) (match b with
            | .tup [x, y] => andO (treeB R f (hap ++ [false]) (lv + 1) x) (treeB R f (hap ++ [true]) (lv + 1) y)
            | _ => some false)
          | _ => none)
        else some false
      | _ => none
    | _ => some false
def statesOf : List MV → List Nat
  | [] => []
  | .tup [.int i, _] :: r => i.toNat :: statesOf r
  | _ :: r => 0 :: statesOf r
def stB (v : MV) : Bool := match v with
  | .tup [n, _] => numB n 9
  | _ => false
def treesB (p : Nat) (sts : List Nat) (f : Nat) : List MV → Option Bool
  | [] => some true
  | .tup [.int i, t] :: r => andO (treeB ⟨p, sts, i.toNat⟩ f [] 1 t) (treesB p sts f r)
  | _ :: _ => none
/-- parameters: names, no name twice (some: it is known) -/
def parB (l : List MV) : Option Bool := match l with
  | [] => some true
  | [a] => some (nameB a)
  | [a, b] => if nameB b = true then (match a, b with
    | .str x, .str y => some (nameB (.str x) && !decide (x = y))
    | a, _ => some (nameB a)) else some false
  | _ => some false
def stsB (f p : Nat) (b sts : MV) : Option Bool := match sts with
  | .tup l => if 1 ≤ l.length ∧ l.length ≤ 2000 then (if l.all stB = true then (if numB b l.length = true then (match b with
      | .int i => if (statesOf l).getD i.toNat 1 = 0 then treesB p (statesOf l) f l else some false
      | _ => some false) else some false) else some false) else some false
  | _ => some false
def machB (f : Nat) (v : MV) : Option Bool := match v with
  | .tup [ps, b, sts] => match ps with
    | .tup p => andO (if p.length ≤ 2 then parB p else some false) (stsB f p.length b sts)
    | _ => some false
  | _ => some false
end K51
set_option maxHeartbeats 4000000
namespace K51
open PySem L2 MI
def WdOk (m : Mem) (w : MV) : Prop := (∃ s, w = .str s) ∨ w = .non ∨ (∃ i, w = .int i) ∨ ∃ n l, w = .ref n ∧ m[n]? = some (.lst l) ∧ Das l
mutual
def TyV (m : Mem) : MV → Prop
  | .tup l => TyVs m l ∧ l.length ≤ 3000 ∧ ∀ w a b, l = [.str "ask", w, a, b] → WdOk m w
  | .str s => s.length ≤ 1000
  | .ref n => (∃ l, m[n]? = some (.lst l) ∧ Das l) ∨ ∃ l, m[n]? = some (.dct l)
  | .kl _ => False
  | .clo _ _ => False
  | .int _ => True
  | .bl _ => True
  | .non => True
def TyVs (m : Mem) : List MV → Prop
  | [] => True
  | d :: l => TyV m d ∧ TyVs m l
end
theorem TyVs.mem {m : Mem} : ∀ {l : List MV} {d : MV}, TyVs m l → d ∈ l → TyV m d
  | x :: r, d, h, hd => by
    unfold TyVs at h
    rcases List.mem_cons.mp hd with rfl | hd
    · exact h.1
    · exact TyVs.mem h.2 hd
theorem TyVs.of {m : Mem} : ∀ {l : List MV}, (∀ d ∈ l, TyV m d) → TyVs m l
  | [], _ => by unfold TyVs; trivial
  | x :: r, h => by unfold TyVs; exact ⟨h x List.mem_cons_self, TyVs.of fun d hd => h d (List.mem_cons_of_mem _ hd)⟩
theorem TyV.typed {m : Mem} {d : MV} (h : TyV m d) : Typed m d := by
  cases d with
  | non => exact ⟨_, rfl, by decide⟩
  | bl b => exact ⟨_, rfl, by decide⟩
  | int i => exact ⟨_, rfl, by decide⟩
  | str s => exact ⟨_, rfl, by decide⟩
  | tup l => exact ⟨_, rfl, by decide⟩
  | kl l => unfold TyV at h; exact h.elim
  | clo _ _ => unfold TyV at h; exact h.elim
  | ref n =>
    unfold TyV at h
    rcases h with ⟨l, h, _⟩ | ⟨l, h⟩
    · exact ⟨"list", by show tyO m[n]? = _; rw [h]; rfl, by decide⟩
    · exact ⟨"dict", by show tyO m[n]? = _; rw [h]; rfl, by decide⟩
theorem TyV.str {m : Mem} {d : MV} (h : TyV m d) : ∀ s, d = .str s → s.length ≤ 1000 := by
  rintro s rfl
  unfold TyV at h
  exact h
theorem TyV.items {m : Mem} {l : List MV} (h : TyV m (.tup l)) : (∀ d ∈ l, TyV m d) ∧ l.length ≤ 3000 := by
  unfold TyV at h
  exact ⟨fun d hd => h.1.mem hd, h.2.1⟩
theorem WdOk.kp {m m' : Mem} {x : MV} (h : WdOk m x) (k : Kp [] m m') : WdOk m' x := by
  rcases h with h | h | h | ⟨n, l, h1, h2, h3⟩
  · exact .inl h
  · exact .inr (.inl h)
  · exact .inr (.inr (.inl h))
  · exact .inr (.inr (.inr ⟨n, l, h1, k.get h2 (by simp), h3⟩))
mutual
theorem TyV.kp {m m' : Mem} (k : Kp [] m m') : ∀ (d : MV), TyV m d → TyV m' d
  | .tup l, h => by
    unfold TyV at h ⊢
    exact ⟨TyVs.kp k l h.1, h.2.1, fun w a b e => (h.2.2 w a b e).kp k⟩
  | .str s, h => by unfold TyV at h ⊢; exact h
  | .ref n, h => by
    unfold TyV at h ⊢
    rcases h with ⟨l, a, b⟩ | ⟨l, a⟩
    · exact .inl ⟨l, k.get a (by simp), b⟩
    · exact .inr ⟨l, k.get a (by simp)⟩
  | .kl _, h => by unfold TyV at h; exact h.elim
  | .clo _ _, h => by unfold TyV at h; exact h.elim
  | .int _, _ => by unfold TyV; trivial
  | .bl _, _ => by unfold TyV; trivial
  | .non, _ => by unfold TyV; trivial
theorem TyVs.kp {m m' : Mem} (k : Kp [] m m') : ∀ (l : List MV), TyVs m l → TyVs m' l
  | [], _ => by unfold TyVs; trivial
  | d :: r, h => by unfold TyVs at h ⊢; exact ⟨TyV.kp k d h.1, TyVs.kp k r h.2⟩
end
def isInt (v : MV) : Bool := match v with
  | .int _ => true
  | _ => false
theorem kit_ib : ∀ t ∈ ["NoneType", "bool", "int", "str", "tuple", "list", "dict"], kitB t "int" = some (decide (t = "int") || decide (t = "bool")) ∧ kitB t "bool" = some (decide (t = "bool")) ∧ kitB t "list" = some (decide (t = "list")) := by decide +kernel
theorem isint_ok {k : Nat} {m : Mem} {v : MV} (h : Typed m v) : MI.W ((Tab (k + 1)).f .is_integer [v] m) (fun d m' => d = .bl (isInt v) ∧ m' = m) E0 := by
  show MI.W (f_is_integer (Tab k) [v] m) _ _
  unfold f_is_integer b_is_integer
  obtain ⟨t, h1, h2⟩ := h
  obtain ⟨k1, k2, _⟩ := kit_ib t h2
  have key : (decide (t = "int") || decide (t = "bool")) = true → (!decide (t = "bool")) = isInt v := by
    intro hh
    cases v with
    | int i => cases h1; rfl
    | bl b => cases h1; rfl
    | non => cases h1; cases hh
    | str s => cases h1; cases hh
    | tup l => cases h1; cases hh
    | kl l => cases h1
    | clo _ _ => cases h1
    | ref n =>
      have h : tyO m[n]? = some t := h1
      cases q : m[n]? with
      | none => rw [q] at h; cases h
      | some o => rw [q] at h; cases o <;> cases h <;> cases hh
  have key2 : (decide (t = "int") || decide (t = "bool")) = false → isInt v = false := by
    intro hh
    cases v with
    | int i => cases h1; cases hh
    | _ => rfl
  simp only [startM, W_end, W_ret, W_and, W_isi, W_vr, W_not]
  simp [h1, k1, k2]
  cases e : (decide (t = "int") || decide (t = "bool")) with
  | true => simp [← key e]
  | false => simp [key2 e]
theorem num_ok {k : Nat} {m : Mem} {v : MV} {i : Int} (many : Nat) (h : Typed m v) (hi : i = (many : Int) := by rfl) : MI.W ((Tab (k + 2)).f .u_is_number [v, .int i] m) (fun d m' => d = .bl (numB v many) ∧ m' = m) E0 := by
  subst hi
  show MI.W (f_u_is_number (Tab (k + 1)) [v, .int many] m) _ _
  unfold f_u_is_number b_u_is_number
  simp [startM]
  refine (isint_ok (k := k) h).mono ?_
  rintro d m' ⟨rfl, rfl⟩
  cases v with
  | int i =>
    simp [isInt, numB]
    by_cases h0 : 0 ≤ i
    · simp [h0]
    · simp [h0]
  | _ => simp [isInt, numB]
theorem ist_ok {k : Nat} {m : Mem} {v : MV} {i : Int} (n : Nat) (h : Typed m v) (hi : i = (n : Int) := by rfl) : MI.W ((Tab (k + 1)).f .u_is_tuple_of [v, .int i] m) (fun d m' => d = .bl (isT v n) ∧ m' = m) E0 := by
  subst hi
  show MI.W (f_u_is_tuple_of (Tab k) [v, .int n] m) _ _
  unfold f_u_is_tuple_of b_u_is_tuple_of
  have e := isi_tup h
  by_cases c : isTup v = true
  · cases v with
    | tup l => simp [startM, kit_tt, isT]; omega
    | _ => cases c
  · rw [show isTup v = false by simpa using c] at e
    simp [startM, e]
    cases v with
    | tup s => exact absurd rfl c
    | _ => rfl
/-- what stands at the room -/
structure RoomAt (R : Rm) (r : Nat) (m : Mem) : Prop where
  ex : ∃ sl, m[r]? = some (.own "Room" [("parameters", .int R.params), ("states", .ref sl), ("places", .int R.places)]) ∧ m[sl]? = some (.lst (R.states.map fun (n : Nat) => .int n))
theorem RoomAt.kp {R : Rm} {r : Nat} {m m' : Mem} (h : RoomAt R r m) (k : Kp [] m m') : RoomAt R r m' :=
  let ⟨sl, a, b⟩ := h.ex; ⟨sl, k.get a (by simp), k.get b (by simp)⟩
theorem RoomAt.par {R : Rm} {r : Nat} {m : Mem} (h : RoomAt R r m) {Q : MV → Mem → Prop} {E : Exn → Mem → Prop} (q : Q (.int R.params) m) : MI.W (gFld pf_parameters "parameters" (.ref r) m) Q E := by
  obtain ⟨sl, a, b⟩ := h.ex
  exact W_gFld a rfl rfl q
theorem RoomAt.pla {R : Rm} {r : Nat} {m : Mem} (h : RoomAt R r m) {Q : MV → Mem → Prop} {E : Exn → Mem → Prop} (q : Q (.int R.places) m) : MI.W (gFld pf_places "places" (.ref r) m) Q E := by
  obtain ⟨sl, a, b⟩ := h.ex
  exact W_gFld a rfl rfl q
def hapM (hap : List Bool) : MV := .tup (hap.map .bl)
theorem hap_at {hap : List Bool} {i : Int} (h0 : 0 ≤ i) (h1 : i < hap.length) : atM (hap.map MV.bl) i = some (.bl (hap.getD i.toNat false)) := by
  have h2 : i.toNat < hap.length := by omega
  unfold atM ixN
  rw [if_pos h0, List.length_map, if_pos h1]
  simp [h2]
end K51
set_option maxHeartbeats 4000000
namespace K51
open PySem L2 MI
theorem len2 {r : List MV} (h : r.length = 2) : ∃ y z, r = [y, z] := by
  match r, h with
  | [x, y], _ => exact ⟨x, y, rfl⟩
theorem len1 {r : List MV} (h : r.length = 1) : ∃ y, r = [y] := by
  match r, h with
  | [x], _ => exact ⟨x, rfl⟩
theorem len3 {r : List MV} (h : r.length = 3) : ∃ x y z, r = [x, y, z] := by
  match r, h with
  | [x, y, z], _ => exact ⟨x, y, z, rfl⟩
theorem objB_no {R : Rm} {hap : List Bool} {v : MV} (h : isT v 2 = false) : objB R hap v = some false := by
  unfold objB
  split
  · rename_i w n
    simp [isT] at h
  · rfl
theorem W_eq_ns {m : Mem} {s : Str} {neg : Bool} {Q : MV → Mem → Prop} {E : Exn → Mem → Prop} : MI.W (gEqA neg .non (.str s) m) Q E = Q (.bl neg) m := by with_unfolding_all
  unfold gEqA
  cases neg <;> rfl
theorem obj_ok {k : Nat} {R : Rm} {r : Nat} {m : Mem} {v : MV} {hap : List Bool} {b : Bool} (RA : RoomAt R r m) (tv : TyV m v) (h : objB R hap v = some b) :
    MI.W ((Tab (k + 3)).f .u_is_object [v, .ref r, hapM hap] m) (fun d m' => d = .bl b ∧ m' = m) E0 := by
  show MI.W (f_u_is_object (Tab (k + 2)) [v, .ref r, hapM hap] m) _ _
  unfold f_u_is_object b_u_is_object
  simp [startM]
  refine (ist_ok (k := k + 1) 2 tv.typed).mono ?_
  rintro d m' ⟨rfl, rfl⟩
  cases h2 : isT v 2 with
  | false =>
    rw [objB_no h2] at h
    cases h
    simp
  | true =>
    obtain ⟨w, n, rfl⟩ : ∃ w n, v = .tup [w, n] := by
      cases v with
      | tup l => obtain ⟨w, n, e⟩ := len2 (r := l) (by simpa [isT] using h2); exact ⟨w, n, by rw [e]⟩
      | _ => cases h2
    have tn := (tv.items.1 n (by simp)).typed
    simp [W_asgT, nCons, nName, nNil]
    cases w with
    | str s =>
      simp [objB] at h
      by_cases s1 : s = "place"
      · subst s1
        simp at h ⊢
        refine RA.pla ?_
        refine (num_ok (k := k) R.places tn).mono ?_
        rintro d m'' ⟨rfl, rfl⟩
        simp [h]
      · by_cases s2 : s = "parameter"
        · subst s2
          simp [s1] at h ⊢
          refine RA.par ?_
          refine (num_ok (k := k) R.params tn).mono ?_
          rintro d m'' ⟨rfl, rfl⟩
          simp [h]
        · by_cases s3 : s = "event"
          · subst s3
            simp [s1, s2] at h ⊢
            simp [hapM]
            refine (num_ok (k := k) hap.length tn).mono ?_
            rintro d m'' ⟨rfl, rfl⟩
            cases e : numB n hap.length with
            | false =>
              simp [e] at h
              simp [h]
            | true =>
              simp [e] at h
              cases n with
              | int i =>
                simp [numB] at e
                simp [hap_at e.1 e.2, ← h, hapB]
              | _ => cases e
          · simp [s1, s2, s3] at h ⊢
            exact h
    | non =>
      simp [objB] at h
      simp [W_eq_ns, h]
    | _ => simp [objB] at h
theorem W_in_flat {d : MV} {l : List Str} {m : Mem} {Q : MV → Mem → Prop} {E : Exn → Mem → Prop} (hd : d = .non ∨ ∃ i, d = .int i) : MI.W (gInB false d (.tup (l.map .str)) m) Q E = Q (.bl false) m := by with_unfolding_all
  have hf : flat d = true := by with_unfolding_all rcases hd with rfl | ⟨i, rfl⟩ <;> rfl
  have al : (l.map MV.str).all flat = true := by with_unfolding_all simp [flat]
  have e : (l.map MV.str).map toV = l.map V.str := by with_unfolding_all rw [List.map_map]; rfl
  have z : inV (toV d) ((l.map MV.str).map toV) = false := by with_unfolding_all
    rw [e]
    unfold inV
    rw [List.any_map, List.any_eq_false]
    intro s _
    rcases hd with rfl | ⟨i, rfl⟩ <;> exact Bool.false_ne_true
  have g : gInB false d (.tup (l.map .str)) m = Re.ok (MV.bl (inV (toV d) ((l.map MV.str).map toV))) m := by with_unfolding_all
    unfold gInB
    rw [if_neg (fun h => by with_unfolding_all rw [hf] at h; cases h.2)]
    unfold gInA
    rw [if_neg (by rintro ⟨z, h⟩; cases h), if_neg (by simp), if_pos ⟨_, rfl, hf, al⟩]
    unfold gInF
    show (if flat d = true ∧ (l.map MV.str).all flat = true then Re.ok (MV.bl (if false = true then !inV (toV d) ((l.map MV.str).map toV) else inV (toV d) ((l.map MV.str).map toV))) m else .stuck) = _
    rw [if_pos ⟨hf, al⟩]
    rfl
  rw [g, z]; rfl
theorem op_ok {k : Nat} {R : Rm} {r : Nat} {m : Mem} {v : MV} {hap : List Bool} {b : Bool} (RA : RoomAt R r m) (tv : TyV m v) (h : opB R hap v = some b) :
    MI.W ((Tab (k + 4)).f .u_is_operand [v, .ref r, hapM hap] m) (fun d m' => d = .bl b ∧ m' = m) E0 := by
  show MI.W (f_u_is_operand (Tab (k + 3)) [v, .ref r, hapM hap] m) _ _
  unfold f_u_is_operand b_u_is_operand
  simp [startM]
  refine (ist_ok (k := k + 2) 1 tv.typed).mono ?_
  rintro d m' ⟨rfl, rfl⟩
  have go : ∀ (e : opB R hap v = objB R hap v), MI.W ((Tab (k + 3)).f .u_is_object [v, .ref r, hapM hap] m') (fun d m'' => d = .bl b ∧ m'' = m') E0 := fun e => obj_ok (k := k) RA tv (by rw [← e]; exact h)
  cases h2 : isT v 1 with
  | false =>
    simp
    refine go ?_
    unfold opB
    split
    · simp [isT] at h2
    · rfl
  | true =>
    obtain ⟨x, rfl⟩ : ∃ x, v = .tup [x] := by
      cases v with
      | tup l => obtain ⟨w, e⟩ := len1 (r := l) (by simpa [isT] using h2); exact ⟨w, by rw [e]⟩
      | _ => cases h2
    cases x with
    | str s =>
      simp [opB] at h
      have key : ∀ (m : Mem) (Q : MV → Mem → Prop) (E : Exn → Mem → Prop), MI.W (gInA false (.str s) c_CONSTANTS m) Q E = Q (.bl (decide (s ∈ consts))) m := fun m Q E => W_in_strs (l := consts) (neg := false)
      simp
      erw [key]
      simp [← h]
    | non =>
      simp [opB] at h
      have key : ∀ (m : Mem) (Q : MV → Mem → Prop) (E : Exn → Mem → Prop), MI.W (gInB false .non c_CONSTANTS m) Q E = Q (.bl false) m := fun m Q E => W_in_flat (l := consts) (.inl rfl)
      simp
      erw [key]
      simp [h]
    | _ => simp [opB] at h
end K51
set_option maxHeartbeats 4000000
namespace K51
open PySem L2 MI
theorem any_strs {l : List PyData} : ∀ ss : List Str, (pds (ss.map .str)).any (fun z => PyData.eqv z (.list l)) = false
  | [] => rfl
  | s :: r => by
    simp only [List.map_cons, pds, List.any_cons, any_strs r, Bool.or_false]
    simp [pd, PyData.eqv]
theorem W_inB_ref {n : Nat} {l : List MV} {ss : List Str} {m : Mem} {Q : MV → Mem → Prop} {E : Exn → Mem → Prop} (hn : m[n]? = some (.lst l)) (hl : Das l) (ds : Da (.tup (ss.map .str))) (q : Q (.bl false) m) : MI.W (gInB false (.ref n) (.tup (ss.map .str)) m) Q E := by with_unfolding_all
  unfold gInB
  rw [if_pos ⟨⟨_, rfl⟩, rfl⟩]
  unfold gInT
  rw [dat_l hn hl, dat_pu m _ fuel ds.pu (Nat.le_trans ds.fl (by decide))]
  have sh := shaped_pu ds.pu (by have := ds.dp; omega)
  simp only [pd] at sh ⊢
  rw [if_pos ⟨shaped_pus hl.pu (by have := hl.dp; omega), sh⟩]
  show Q (.bl ((pds (ss.map .str)).any fun z => PyData.eqv z (.list (pds l)))) m
  rw [any_strs]
  exact q
theorem sg_ok {m : Mem} {w : MV} {Q : MV → Mem → Prop} {E : Exn → Mem → Prop} (h : WdOk m w) (q : Q (.bl (sgB w)) m) : MI.W (gInB false w c_SIGNS m) Q E := by
  rcases h with ⟨s, rfl⟩ | rfl | ⟨i, rfl⟩ | ⟨n, l, rfl, h1, h2⟩
  · have key : MI.W (gInA false (.str s) c_SIGNS m) Q E = Q (.bl (decide (s ∈ signs))) m := W_in_strs (l := signs) (neg := false)
    rw [gInB_s, key]
    exact q
  · have key : MI.W (gInB false .non c_SIGNS m) Q E = Q (.bl false) m := W_in_flat (l := signs) (.inl rfl)
    rw [key]; exact q
  · have key : MI.W (gInB false (.int i) c_SIGNS m) Q E = Q (.bl false) m := W_in_flat (l := signs) (.inr ⟨i, rfl⟩)
    rw [key]; exact q
  · exact W_inB_ref (ss := signs) h1 h2 ⟨by decide +kernel, by decide +kernel, by decide +kernel⟩ q
theorem allO_some {f : MV → Option Bool} : ∀ {l : List MV} {b : Bool}, allO f l = some b → (∀ d ∈ l, ∃ c, f d = some c) ∧ b = l.all fun d => (f d).getD false
  | [], b, h => by cases h; exact ⟨by simp, rfl⟩
  | x :: r, b, h => by
    unfold allO at h
    split at h
    · rename_i a c e1 e2
      cases h
      obtain ⟨h1, h2⟩ := allO_some e2
      refine ⟨fun d hd => ?_, ?_⟩
      · rcases List.mem_cons.mp hd with rfl | hd
        · exact ⟨a, e1⟩
        · exact h1 d hd
      · rw [List.all_cons, e1, ← h2]; rfl
    · cases h
theorem ops_ok {k : Nat} {R : Rm} {r : Nat} {m : Mem} {w vals : MV} {hap : List Bool} {b : Bool} (RA : RoomAt R r m) (tw : TyV m w) (wd : WdOk m w) (tv : TyV m vals) (h : opsB R hap w vals = some b) :
    MI.W ((Tab (k + 5)).f .u_are_operands [w, vals, .ref r, hapM hap] m) (fun d m' => d = .bl b ∧ Kp [] m m') E0 := by
  show MI.W (f_u_are_operands (Tab (k + 4)) [w, vals, .ref r, hapM hap] m) _ _
  unfold f_u_are_operands b_u_are_operands
  have e := isi_tup tv.typed
  cases c : isTup vals with
  | false =>
    rw [c] at e
    simp [startM, e]
    refine ⟨?_, Kp.refl⟩
    cases vals with
    | tup l => cases c
    | _ => simp [opsB] at h; exact h
  | true =>
    obtain ⟨l, rfl⟩ : ∃ l, vals = .tup l := by
      cases vals with
      | tup l => exact ⟨l, rfl⟩
      | _ => cases c
    obtain ⟨h1, h2⟩ := tv.items
    have h : (match allO (opB R hap) l with
      | some true => if nameB w = true then some (decide (l.length ≤ 3)) else some (sgB w && decide (l.length = 2))
      | r => r) = some b := h
    simp [startM, kit_tt]
    obtain ⟨c, hc⟩ : ∃ c, allO (opB R hap) l = some c := by
      cases e1 : allO (opB R hap) l with
      | none => rw [e1] at h; cases h
      | some c => exact ⟨c, rfl⟩
    obtain ⟨q1, q2⟩ := allO_some hc
    refine W_pure (fun d => .bl ((opB R hap d).getD false)) (fun _ => true) trivial (fun d hd => ⟨rfl, fun _ => ?_⟩) (by omega) ?_
    · obtain ⟨cd, hcd⟩ := q1 d hd
      refine W_eq ?_
      simp [wipeM, hcd]
      exact op_ok (k := k) RA (h1 d hd) hcd
    · rw [filter_all, W_all (bs := l.map fun d => (opB R hap d).getD false) (by rw [List.map_map]; exact List.getElem?_concat_length)]
      have e3 : (l.map fun d => (opB R hap d).getD false).all id = c := by rw [List.all_map, q2]; rfl
      rw [e3]
      rw [hc] at h
      cases c with
      | false => simp at h ⊢; exact ⟨h, Kp.push⟩
      | true =>
        simp at h ⊢
        refine (isnameV_ok (k := k + 3) (TyV.kp Kp.push _ tw).typed tw.str).mono ?_
        rintro d m2 ⟨rfl, k2⟩
        cases hn : nameB w with
        | true =>
          simp [hn] at h ⊢
          exact ⟨by rw [← h, Bool.eq_iff_iff]; simp; omega, Kp.push.trans k2⟩
        | false =>
          simp [hn] at h ⊢
          refine sg_ok (wd.kp (Kp.push.trans k2)) ?_
          cases hs : sgB w with
          | false => simp [hs] at h ⊢; exact ⟨h, Kp.push.trans k2⟩
          | true =>
            simp [hs] at h ⊢
            exact ⟨by rw [← h, Bool.eq_iff_iff]; simp; omega, Kp.push.trans k2⟩
theorem out_ok {k : Nat} {R : Rm} {r : Nat} {m : Mem} {w v : MV} {hap : List Bool} {b : Bool} (RA : RoomAt R r m) (tv : TyV m v) (h : outB R hap (.tup [w, v]) = some b) :
    MI.W ((Tab (k + 5)).f .u_is_outcome [.tup [w, v], .ref r, hapM hap] m) (fun d m' => d = .bl b ∧ m' = m) E0 := by
  show MI.W (f_u_is_outcome (Tab (k + 4)) [.tup [w, v], .ref r, hapM hap] m) _ _
  unfold f_u_is_outcome b_u_is_outcome
  simp [startM, W_asgT, nCons, nName, nNil]
  unfold outB at h
  cases w with
  | str s =>
    simp at h
    by_cases s1 : s = "failed"
    · subst s1
      simp at h ⊢
      simp [hapM]
      refine (num_ok (k := k + 2) hap.length tv.typed).mono ?_
      rintro d m' ⟨rfl, rfl⟩
      cases e : numB v hap.length with
      | false => simp [e] at h ⊢; exact h
      | true =>
        simp [e] at h
        cases v with
        | int i =>
          simp [numB] at e
          simp [hap_at e.1 e.2, ← h, hapB]
        | _ => cases e
    · by_cases s2 : s = "value"
      · subst s2
        simp [s1] at h ⊢
        exact op_ok (k := k) RA tv h
      · simp [s1, s2] at h ⊢
        exact h
  | non => simp at h; simp [W_eq_ns, h]
  | _ => simp at h
end K51
set_option maxHeartbeats 4000000
namespace K51
open PySem L2 MI
/-- how a look at a part of a machine ends -/
abbrev QOk (b : Bool) (m : Mem) : MV → Mem → Prop := fun v m' => v = .non ∧ b = true ∧ Kp [] m m'
abbrev QEx (b : Bool) (m : Mem) : Exn → Mem → Prop := fun x m' => x = ⟨"InvalidMachine"⟩ ∧ b = false ∧ Kp [] m m'
theorem nat_at {l : List Nat} {i : Int} (h0 : 0 ≤ i) (h1 : i < l.length) : atM (l.map fun (n : Nat) => MV.int n) i = some (.int (l.getD i.toNat 0 : Nat)) := by
  have h2 : i.toNat < l.length := by omega
  unfold atM ixN
  rw [if_pos h0, List.length_map, if_pos h1]
  simp [h2]
theorem end_ok {k : Nat} {R : Rm} {r : Nat} {m : Mem} {e o fo h : MV} {hap : List Bool} {b : Bool} (RA : RoomAt R r m) (to : TyV m o) (tf : TyV m fo) (th : TyV m h) (hb : endB R hap o fo h = some b) :
    MI.W ((Tab (k + 6)).f .u_check_end [.tup [e, o, fo, h], .ref r, hapM hap] m) (QOk b m) (QEx b m) := by
  show MI.W (f_u_check_end (Tab (k + 5)) [.tup [e, o, fo, h], .ref r, hapM hap] m) _ _
  unfold f_u_check_end b_u_check_end
  simp [startM, W_asgT, nCons, nName, nNil]
  refine (ist_ok (k := k + 4) 2 to.typed).mono ?_
  rintro d m' ⟨rfl, rfl⟩
  unfold endB at hb
  cases h2 : isT o 2 with
  | false =>
    have e1 : outB R hap o = some false := by
      unfold outB
      split
      · simp [isT] at h2
      · rfl
    rw [e1] at hb
    cases hb
    simp
    exact ⟨rfl, rfl, Kp.refl⟩
  | true =>
    obtain ⟨w, n, rfl⟩ : ∃ w n, o = .tup [w, n] := by
      cases o with
      | tup l => obtain ⟨w, n, e⟩ := len2 (r := l) (by simpa [isT] using h2); exact ⟨w, n, by rw [e]⟩
      | _ => cases h2
    have tn := to.items.1 n (by simp)
    obtain ⟨c, hc⟩ : ∃ c, outB R hap (.tup [w, n]) = some c := by
      cases e1 : outB R hap (.tup [w, n]) with
      | none => rw [e1] at hb; cases hb
      | some c => exact ⟨c, rfl⟩
    rw [hc] at hb
    simp
    refine (out_ok (k := k) RA tn hc).mono ?_
    rintro d m'' ⟨rfl, rfl⟩
    cases c with
    | false =>
      cases hb
      simp
      exact ⟨rfl, rfl, Kp.refl⟩
    | true =>
      simp at hb ⊢
      obtain ⟨sl, a1, a2⟩ := RA.ex
      refine W_gFld a1 rfl rfl ?_
      simp [a2]
      refine (num_ok (k := k + 3) R.states.length tf.typed).mono ?_
      rintro d m1 ⟨rfl, rfl⟩
      cases hn : numB fo R.states.length with
      | false =>
        simp [hn] at hb ⊢
        exact ⟨rfl, hb, Kp.refl⟩
      | true =>
        simp [hn] at hb ⊢
        cases fo with
        | int i =>
          simp [numB] at hn
          refine W_gFld a1 rfl rfl ?_
          simp [a2, nat_at hn.1 hn.2]
          refine (ist_ok (k := k + 4) (R.states.getD i.toNat 0) th.typed (by simp)).mono ?_
          rintro d m2 ⟨rfl, rfl⟩
          cases ht : isT h (R.states.getD i.toNat 0) with
          | false =>
            simp
            refine ⟨rfl, ?_, Kp.refl⟩
            cases h with
            | tup l =>
              simp [isT] at ht
              simp [ht] at hb
              exact hb
            | _ => simp at hb; exact hb
          | true =>
            cases h with
            | tup l =>
              simp [isT] at ht
              simp [ht] at hb
              obtain ⟨q1, q2⟩ := allO_some hb
              obtain ⟨i1, i2⟩ := th.items
              simp
              refine W_pure (fun d => .bl ((objB R hap d).getD false)) (fun _ => true) trivial (fun d hd => ⟨rfl, fun _ => ?_⟩) (by omega) ?_
              · obtain ⟨cd, hcd⟩ := q1 d hd
                refine W_eq ?_
                simp [wipeM, hcd]
                exact obj_ok (k := k + 2) RA (i1 d hd) hcd
              · rw [filter_all, W_all (bs := l.map fun d => (objB R hap d).getD false) (by rw [List.map_map]; exact List.getElem?_concat_length)]
                have e3 : (l.map fun d => (objB R hap d).getD false).all id = b := by rw [List.all_map, q2]; rfl
                rw [e3]
                cases b with
                | true => simp; exact ⟨rfl, rfl, Kp.push⟩
                | false => simp; exact ⟨rfl, rfl, Kp.push⟩
            | _ => cases ht
        | _ => cases hn
end K51
set_option maxHeartbeats 4000000
namespace K51
open PySem L2 MI
theorem qex {b : Bool} {m m' : Mem} (h : b = false) (k : Kp [] m m') : QEx b m ⟨"InvalidMachine"⟩ m' := ⟨rfl, h, k⟩
theorem andO_some {a b : Option Bool} {c : Bool} (h : andO a b = some c) : (a = some false ∧ c = false) ∨ (a = some true ∧ b = some c) := by
  unfold andO at h
  cases a with
  | none => cases h
  | some x =>
    cases x with
    | false => cases h; exact .inl ⟨rfl, rfl⟩
    | true => exact .inr ⟨rfl, h⟩
theorem hap_snoc {hap : List Bool} {b : Bool} : MV.tup (hap.map MV.bl ++ [.bl b]) = hapM (hap ++ [b]) := by simp [hapM]
/-- a run whose end is that of a look, behind others that went well -/
theorem look {b : Bool} {m m1 : Mem} {r : Re MV} (k : Kp [] m m1) (h : MI.W r (QOk b m1) (QEx b m1)) {Q : MV → Mem → Prop} {E : Exn → Mem → Prop} (q : ∀ v m', b = true → Kp [] m m' → Q v m') (e : ∀ m', b = false → Kp [] m m' → E ⟨"InvalidMachine"⟩ m') : MI.W r Q E := by with_unfolding_all
  cases r with
  | ok v m' => exact q v m' h.2.1 (k.trans h.2.2)
  | ex x m' => rw [W_ex] at h; obtain ⟨rfl, h2, h3⟩ := h; exact e m' h2 (k.trans h3)
  | stuck => exact h
theorem tree_ok {R : Rm} {r : Nat} : ∀ (f k : Nat) (hap : List Bool) (lv : Nat) (t : MV) (b : Bool) (m : Mem), treeB R f hap lv t = some b → RoomAt R r m → TyV m t → hap.length ≤ 6 →
    MI.W ((Tab (k + 7 + f)).f .u_check_tree [t, .ref r, hapM hap, .int lv] m) (QOk b m) (QEx b m)
  | 0, k, hap, lv, t, b, m, h, _, _, _ => by cases h
  | f + 1, k, hap, lv, t, b, m, h, RA, tt, hl => by
    have ih := fun hap lv t b m => tree_ok (R := R) (r := r) f k hap lv t b m
    show MI.W (f_u_check_tree (Tab (k + 7 + f)) [t, .ref r, hapM hap, .int lv] m) _ _
    obtain ⟨n, hn⟩ : ∃ n, k + 7 + f = n + 6 := ⟨k + 1 + f, by omega⟩
    rw [hn] at ih ⊢
    unfold f_u_check_tree b_u_check_tree
    unfold treeB at h
    by_cases l30 : 30 < lv
    · simp only [l30, if_true] at h
      cases h
      have : (30 : Int) < lv := by omega
      simp [startM, this]
      exact qex rfl Kp.refl
    · simp only [l30, if_false] at h
      have n30 : ¬ (30 : Int) < lv := by omega
      have e := isi_tup tt.typed
      cases c : isTup t with
      | false =>
        rw [c] at e
        simp [startM, n30, e]
        refine qex ?_ Kp.refl
        cases t with
        | tup l => cases c
        | _ => cases h; rfl
      | true =>
        obtain ⟨l, rfl⟩ : ∃ l, t = .tup l := by
          cases t with
          | tup l => exact ⟨l, rfl⟩
          | _ => cases c
        cases l with
        | nil =>
          cases h
          simp [startM, n30, kit_tt]
          exact qex rfl Kp.refl
        | cons w rest =>
          have l0 : ¬ ((rest.length : Int) + 1 = 0) := by omega
          cases w with
          | str w =>
            obtain ⟨i1, i2⟩ := tt.items
            simp only at h
            by_cases w1 : w = "end" ∧ rest.length = 3
            · simp only [w1.1, w1.2, and_self, if_true] at h
              obtain ⟨rfl, l3⟩ := w1
              obtain ⟨o, fo, h0, rfl⟩ := len3 l3
              simp [startM, n30, kit_tt]
              exact look Kp.refl (end_ok (k := n) RA (i1 o (by simp)) (i1 fo (by simp)) (i1 h0 (by simp)) h) (fun v m' q k => ⟨rfl, q, k⟩) (fun m' q k => ⟨rfl, q, k⟩)
            · rw [if_neg w1] at h
              by_cases w2 : w = "test" ∧ rest.length = 2
              · rw [if_pos w2] at h
                obtain ⟨rfl, l3⟩ := w2
                obtain ⟨o, bb, rfl⟩ := len2 l3
                have to := i1 o (by simp)
                have tb := i1 bb (by simp)
                simp [startM, n30, kit_tt, show ¬ (("test" : Str) = "end") by decide]
                rcases andO_some h with ⟨h1, rfl⟩ | ⟨h1, h2⟩
                · refine (obj_ok (k := n + 3) RA to h1).mono ?_
                  rintro d m' ⟨rfl, rfl⟩
                  simp
                  exact qex rfl Kp.refl
                · refine (obj_ok (k := n + 3) RA to h1).mono ?_
                  rintro d m' ⟨rfl, rfl⟩
                  simp
                  refine (ist_ok (k := n + 5) 3 tb.typed).mono ?_
                  rintro d m'' ⟨rfl, rfl⟩
                  cases hT : isT bb 3 with
                  | false =>
                    simp
                    refine qex ?_ Kp.refl
                    split at h2
                    · simp [isT] at hT
                    · cases h2; rfl
                  | true =>
                    obtain ⟨x, y, z, rfl⟩ : ∃ x y z, bb = .tup [x, y, z] := by
                      cases bb with
                      | tup l => obtain ⟨x, y, z, e⟩ := len3 (r := l) (by simpa [isT] using hT); exact ⟨x, y, z, by rw [e]⟩
                      | _ => cases hT
                    obtain ⟨j1, _⟩ := tb.items
                    simp
                    have lv1 : ((lv : Int) + 1) = ((lv + 1 : Nat) : Int) := by omega
                    refine W_lp_cons trivial rfl ?_
                    simp
                    rw [lv1]
                    rcases andO_some h2 with ⟨h3, rfl⟩ | ⟨h3, h4⟩
                    · exact look Kp.refl (ih hap (lv + 1) x _ m'' h3 RA (j1 x (by simp)) hl) (fun v m' q k => by cases q) (fun m' q k => ⟨rfl, q, k⟩)
                    · refine look Kp.refl (ih hap (lv + 1) x _ m'' h3 RA (j1 x (by simp)) hl) (fun v m1 q k1 => ?_) (fun m' q k => by cases q)
                      refine W_lp_cons trivial rfl ?_
                      simp
                      rw [lv1]
                      rcases andO_some h4 with ⟨h5, rfl⟩ | ⟨h5, h6⟩
                      · exact look k1 (ih hap (lv + 1) y _ m1 h5 (RA.kp k1) (TyV.kp k1 _ (j1 y (by simp))) hl) (fun v m' q k => by cases q) (fun m' q k => ⟨rfl, q, k⟩)
                      · refine look k1 (ih hap (lv + 1) y _ m1 h5 (RA.kp k1) (TyV.kp k1 _ (j1 y (by simp))) hl) (fun v m2 q k2 => ?_) (fun m' q k => by cases q)
                        refine W_lp_cons trivial rfl ?_
                        simp
                        rw [lv1]
                        refine look k2 (ih hap (lv + 1) z _ m2 h6 (RA.kp k2) (TyV.kp k2 _ (j1 z (by simp))) hl) (fun v m3 q k3 => ?_) (fun m' q k => ⟨rfl, q, k⟩)
                        exact W_lp_nil trivial ⟨rfl, q, k3⟩
              · rw [if_neg w2] at h
                by_cases w3 : w = "ask" ∧ rest.length = 3
                · rw [if_pos w3] at h
                  obtain ⟨rfl, l3⟩ := w3
                  obtain ⟨w', ops, bb, rfl⟩ := len3 l3
                  have tw := i1 w' (by simp)
                  have to := i1 ops (by simp)
                  have tb := i1 bb (by simp)
                  have wd : WdOk m w' := by unfold TyV at tt; exact tt.2.2 w' ops bb rfl
                  simp only at h
                  simp [startM, n30, kit_tt, W_asgT, nCons, nName, nNil, show ¬ (("ask" : Str) = "end") by decide, show ¬ (("ask" : Str) = "test") by decide]
                  simp [hapM]
                  by_cases h6 : hap.length = 6
                  · rw [if_pos h6] at h
                    cases h
                    simp [h6]
                    exact qex rfl Kp.refl
                  · rw [if_neg h6] at h
                    have h6' : ¬ ((hap.length : Int) = 6) := by omega
                    simp [h6']
                    have key : ∀ (v : Bool), opsB R hap w' ops = some v → MI.W ((Tab (n + 6)).f .u_are_operands [w', ops, .ref r, .tup (hap.map .bl)] m) (fun d m' => d = .bl v ∧ Kp [] m m') E0 := fun v hv => ops_ok (k := n + 1) RA tw wd to hv
                    rcases andO_some h with ⟨h1, rfl⟩ | ⟨h1, h2⟩
                    · refine (key _ h1).mono ?_
                      rintro d m1 ⟨rfl, k1⟩
                      simp
                      exact qex rfl k1
                    · refine (key _ h1).mono ?_
                      rintro d m1 ⟨rfl, k1⟩
                      simp
                      refine (ist_ok (k := n + 5) 2 (TyV.kp k1 _ tb).typed).mono ?_
                      rintro d m'' ⟨rfl, rfl⟩
                      cases hT : isT bb 2 with
                      | false =>
                        simp
                        refine qex ?_ k1
                        split at h2
                        · simp [isT] at hT
                        · cases h2; rfl
                      | true =>
                        obtain ⟨x, y, rfl⟩ : ∃ x y, bb = .tup [x, y] := by
                          cases bb with
                          | tup l => obtain ⟨x, y, e⟩ := len2 (r := l) (by simpa [isT] using hT); exact ⟨x, y, by rw [e]⟩
                          | _ => cases hT
                        obtain ⟨j1, _⟩ := tb.items
                        simp
                        have lv1 : ((lv : Int) + 1) = ((lv + 1 : Nat) : Int) := by omega
                        have hl1 : ∀ b : Bool, (hap ++ [b]).length ≤ 6 := fun b => by simp; omega
                        refine ⟨szl (by omega), ?_⟩
                        rw [lv1, hap_snoc]
                        rcases andO_some h2 with ⟨h3, rfl⟩ | ⟨h3, h4⟩
                        · exact look k1 (ih (hap ++ [false]) (lv + 1) x _ m'' h3 (RA.kp k1) (TyV.kp k1 _ (j1 x (by simp))) (hl1 _)) (fun v m' q k => by cases q) (fun m' q k => ⟨rfl, q, k⟩)
                        · refine look k1 (ih (hap ++ [false]) (lv + 1) x _ m'' h3 (RA.kp k1) (TyV.kp k1 _ (j1 x (by simp))) (hl1 _)) (fun v m2 q k2 => ?_) (fun m' q k => by cases q)
                          simp
                          refine ⟨szl (by omega), ?_⟩
                          rw [lv1, hap_snoc]
                          exact look k2 (ih (hap ++ [true]) (lv + 1) y _ m2 h4 (RA.kp k2) (TyV.kp k2 _ (j1 y (by simp))) (hl1 _)) (fun v m' q k => ⟨rfl, q, k⟩) (fun m' q k => ⟨rfl, q, k⟩)
                · rw [if_neg w3] at h
                  cases h
                  have s1 : w = "end" → ¬ ((rest.length : Int) + 1 = 4) := fun e z => w1 ⟨e, by omega⟩
                  have s2 : w = "test" → ¬ ((rest.length : Int) + 1 = 3) := fun e z => w2 ⟨e, by omega⟩
                  have s3 : w = "ask" → ¬ ((rest.length : Int) + 1 = 4) := fun e z => w3 ⟨e, by omega⟩
                  by_cases c1 : w = "end"
                  · subst c1
                    simp [startM, n30, kit_tt, l0, s1 rfl, show ¬ (("end" : Str) = "test") by decide, show ¬ (("end" : Str) = "ask") by decide]
                    exact qex rfl Kp.refl
                  · by_cases c2 : w = "test"
                    · subst c2
                      simp [startM, n30, kit_tt, l0, s2 rfl, show ¬ (("test" : Str) = "end") by decide, show ¬ (("test" : Str) = "ask") by decide]
                      exact qex rfl Kp.refl
                    · by_cases c3 : w = "ask"
                      · subst c3
                        simp [startM, n30, kit_tt, l0, s3 rfl, show ¬ (("ask" : Str) = "end") by decide, show ¬ (("ask" : Str) = "test") by decide]
                        exact qex rfl Kp.refl
                      · simp [startM, n30, kit_tt, l0, c1, c2, c3]
                        exact qex rfl Kp.refl
          | _ => simp at h
end K51
set_option maxHeartbeats 4000000
namespace K51
open PySem L2 MI
theorem strOk_name {y : Str} (h : nameB (.str y) = true) : PyData.strOk y = true := by
  have h : IsName y := by simpa [nameB] using h
  unfold PyData.strOk
  rw [← Array.all_toList, List.all_eq_true]
  intro c hc
  have := h.2.2.1 c hc
  simp
  omega
def notin (y : Str) (a : MV) : Bool := match a with
  | .str x => !decide (y = x)
  | _ => true
theorem nin_ok {m : Mem} {y : Str} {a : MV} (hy : nameB (.str y) = true) (wd : WdOk m a) : gInC true (.str y) (.tup [a]) m = .ok (.bl (notin y a)) m := by
  rcases wd with ⟨x, rfl⟩ | rfl | ⟨i, rfl⟩ | ⟨n, l, rfl, h1, h2⟩
  · rw [gInC_flat rfl rfl]
    have e : inV (toV (.str y)) ([MV.str x].map toV) = decide (y = x) := by
      show inV (V.str y) [V.str x] = _
      rw [show [V.str x] = [x].map V.str from rfl, inV_str]
      simp
    rw [e]
    rfl
  · rw [gInC_flat rfl rfl]; rfl
  · rw [gInC_flat rfl rfl]; rfl
  · exact gInC_ref (strOk_name hy) h1 h2
noncomputable def parLc (ck : Tabl) : ME := (mLc (mEnum (mCons (mVar 1) mNil)) (ngTup 2 (ngCons (ngName 8) (ngCons (ngName 9) ngNil))) mYes (mAnd (mCall (ck.f .is_name) (mCons (mVar 9) mNil)) (mBin (gInC true) (mVar 9) (mSl (mVar 1) mNo (mEnd (mVar 8))))) [9, 8])
structure AllAt (b : Bool) (m : Mem) (v : MV) (m' : Mem) : Prop where
  ex : ∃ (n : Nat) (bs : List Bool), v = .ref n ∧ m'[n]? = some (.lst (bs.map .bl)) ∧ bs.all id = b
  kp : Kp [] m m'
theorem AllAt.mk' {bs : List Bool} {b : Bool} {m m' : Mem} {l : List MV} (k : Kp [] m m') (h : l = bs.map .bl) (e : bs.all id = b) : AllAt b m (.ref m'.length) (m' ++ [.lst l]) :=
  ⟨⟨_, bs, rfl, by subst h; exact List.getElem?_concat_length, e⟩, k.trans Kp.push⟩
theorem par_ok {k : Nat} {m : Mem} {p : List MV} {b : Bool} {e0 e2 e3 e4 e5 e6 e7 e8 e9 e10 : Option MV} (tp : ∀ d ∈ p, TyV m d) (hl : p.length ≤ 2) (wd : ∀ a c, p = [a, c] → WdOk m a) (h : parB p = some b) :
    MI.W (parLc (Tab (k + 1)) [e0, some (.tup p), e2, e3, e4, e5, e6, e7, e8, e9, e10] m) (AllAt b m) E0 := by
  have s0 : 0 < sizeLine := Nat.lt_of_lt_of_le (by decide : 0 < 3000) (szl (Nat.le_refl _))
  have s1 : 1 < sizeLine := Nat.lt_of_lt_of_le (by decide : 1 < 3000) (szl (Nat.le_refl _))
  unfold parLc
  simp [wipeM]
  match p, hl, wd, h, tp with
  | [], _, _, h, tp =>
    cases h
    exact W_lc_nil trivial (AllAt.mk' (bs := []) Kp.refl rfl rfl)
  | [a], _, _, h, tp =>
    cases h
    have ta := tp a (by simp)
    refine W_lc_cons (as := [(8, .int 0), (9, a)]) trivial rfl ?_
    simp [setE, mYes]
    refine (isnameV_ok (k := k) ta.typed ta.str).mono ?_
    rintro d m1 ⟨rfl, k1⟩
    cases hn : nameB a with
    | false =>
      simp
      exact ⟨s0, W_lc_nil trivial (AllAt.mk' (bs := [false]) k1 rfl rfl)⟩
    | true =>
      cases a with
      | str x =>
        simp
        rw [show cutM [MV.str x] none (some 0) = [] from rfl, gInC_flat rfl rfl]
        simp
        exact ⟨s0, W_lc_nil trivial (AllAt.mk' (bs := [true]) k1 rfl rfl)⟩
      | _ => cases hn
  | [a, c], _, wd, h, tp =>
    have ta := tp a (by simp)
    have tc := tp c (by simp)
    have wa := wd a c rfl
    refine W_lc_cons (as := [(8, .int 0), (9, a)]) trivial rfl ?_
    simp [setE, mYes]
    refine (isnameV_ok (k := k) ta.typed ta.str).mono ?_
    rintro d m1 ⟨rfl, k1⟩
    have second : ∀ b1 : Bool, (nameB a = b1) → MI.W (lcM (fun _ => True) (ngTup 2 (ngCons (ngName 8) (ngCons (ngName 9) ngNil))) mYes (mAnd (mCall ((Tab (k + 1)).f .is_name) (mCons (mVar 9) mNil)) (mBin (gInC true) (mVar 9) (mSl (mVar 1) mNo (mEnd (mVar 8))))) [e0, some (.tup [a, c]), e2, e3, e4, e5, e6, e7, none, none, e10] [.tup [.int 1, c]] [.bl b1] m1) (fun l m' => AllAt b m (.ref m'.length) (m' ++ [.lst l])) E0 := by
      intro b1 hb1
      refine W_lc_cons (as := [(8, .int 1), (9, c)]) trivial rfl ?_
      simp [setE, mYes]
      refine (isnameV_ok (k := k) (TyV.kp k1 _ tc).typed tc.str).mono ?_
      rintro d m2 ⟨rfl, k2⟩
      unfold parB at h
      cases hc : nameB c with
      | false =>
        simp [hc] at h
        simp
        exact ⟨s1, W_lc_nil trivial (AllAt.mk' (bs := [b1, false]) (k1.trans k2) rfl (by simp [h]))⟩
      | true =>
        cases c with
        | str y =>
          simp [hc] at h
          simp
          rw [show cutM [a, MV.str y] none (some 1) = [a] from rfl, nin_ok hc (wa.kp (k1.trans k2))]
          simp
          refine ⟨s1, W_lc_nil trivial (AllAt.mk' (bs := [b1, notin y a]) (k1.trans k2) rfl ?_)⟩
          rw [← hb1]
          cases a with
          | str x =>
            simp at h
            rw [← h]
            simp [notin]
            by_cases e : x = y
            · subst e; simp
            · simp [e, Ne.symm e]
          | _ => simp [nameB] at h ⊢; exact h
        | _ => cases hc
    cases hn : nameB a with
    | false =>
      simp
      exact ⟨s0, second false hn⟩
    | true =>
      cases a with
      | str x =>
        simp
        rw [show cutM [MV.str x, c] none (some 0) = [] from rfl, gInC_flat rfl rfl]
        simp
        exact ⟨s0, second true hn⟩
      | _ => cases hn
theorem mst_ok {k : Nat} {m : Mem} {v : MV} (tv : TyV m v) : MI.W ((Tab (k + 3)).f .u_is_machine_state [v] m) (fun d m' => d = .bl (stB v) ∧ m' = m) E0 := by
  show MI.W (f_u_is_machine_state (Tab (k + 2)) [v] m) _ _
  unfold f_u_is_machine_state b_u_is_machine_state
  have e := isi_tup tv.typed
  cases c : isTup v with
  | false =>
    rw [c] at e
    simp [startM, e]
    cases v with
    | tup l => cases c
    | _ => rfl
  | true =>
    obtain ⟨l, rfl⟩ : ∃ l, v = .tup l := by
      cases v with
      | tup l => exact ⟨l, rfl⟩
      | _ => cases c
    by_cases l2 : l.length = 2
    · obtain ⟨n, t, rfl⟩ := len2 l2
      simp [startM, kit_tt]
      refine (num_ok (k := k) 9 (tv.items.1 n (by simp)).typed).mono ?_
      rintro d m' ⟨rfl, rfl⟩
      exact ⟨rfl, rfl⟩
    · have l2' : ¬ ((l.length : Int) = 2) := by omega
      simp [startM, kit_tt, l2']
      unfold stB
      split
      · rename_i h; cases h; simp at l2
      · rfl
end K51
set_option maxHeartbeats 4000000
namespace K51
open PySem L2 MI
noncomputable def plcLc : ME := (mLc (mAnyI (mVar 3)) (ngTup 2 (ngCons (ngName 5) (ngCons (ngName 7) ngNil))) mYes (mVar 5) [7, 5])
noncomputable def stBody (ck : Tabl) (g : MF) (k : Nat) : MS := (mDrop (mCall (ck.f .u_check_tree) (mCons (mVar 6) (mCons (mPos k (mCall (gMake "Room" g) (mCons (mCall gLen (mCons (mVar 1) mNil)) (mCons (mVar 4) (mCons (mVar 5) mNil))))) (mCons (mTup mNil) (mCons (mC (.int 1)) mNil))))))
noncomputable def stLoop (ck : Tabl) (g : MF) (k : Nat) : MS := (mFor (mAnyI (mVar 3)) (nTup 2 (nCons (nName 5) (nCons (nName 6) nNil))) (stBody ck g k))
theorem b_cm (ck : Tabl) (h : Nat → Tabl) (k : Nat) : b_check_machine ck h k = (mSeq (mIfS (mOrT (mNotT (mTru (mIsi "tuple" (mVar 0)))) (mB (mBin (gEqA true) (mCall gLen (mCons (mVar 0) mNil)) (mC (.int 3)))))
    (mRaise "InvalidMachine")
    mSkip)
    (mSeq (mAsg (mVar 0) (nTup 3 (nCons (nName 1) (nCons (nName 2) (nCons (nName 3) nNil)))))
    (mSeq (mIfS (mOrT (mNotT (mTru (mIsi "tuple" (mVar 1)))) (mB (mBin gGt (mCall gLen (mCons (mVar 1) mNil)) (mC c_MOST_PARAMETERS))))
    (mRaise "InvalidMachine")
    mSkip)
    (mSeq (mIfS (mNotT (mTru (mCall gAll (mCons (parLc ck) mNil))))
    (mRaise "InvalidMachine")
    mSkip)
    (mSeq (mIfS (mOrT (mNotT (mTru (mIsi "tuple" (mVar 3)))) (mNotT (mB (mChain gLeS gLeS (mC (.int 1)) (mCall gLen (mCons (mVar 3) mNil)) (mC c_MOST_STATES)))))
    (mRaise "InvalidMachine")
    mSkip)
    (mSeq (mIfS (mNotT (mTru (mCall gAll (mCons (mLc (mAnyI (mVar 3)) (ngName 10) mYes (mCall (ck.f .u_is_machine_state) (mCons (mVar 10) mNil)) [10]) mNil))))
    (mRaise "InvalidMachine")
    mSkip)
    (mSeq (mIfS (mOrT (mNotT (mTru (mCall (ck.f .u_is_number) (mCons (mVar 2) (mCons (mCall gLen (mCons (mVar 3) mNil)) mNil))))) (mB (mBin (gEqA true) (mBin gItem (mBin gItem (mVar 3) (mVar 2)) (mC (.int 0))) (mC (.int 0)))))
    (mRaise "InvalidMachine")
    mSkip)
    (mSeq (mAsg plcLc (nName 4))
    (stLoop ck ((h (k - 1)).f .i_Room) k))))))))) := rfl
theorem set_end {m : Mem} {x y : MO} : (m ++ [x]).set m.length y = m ++ [y] := by simp
theorem own_end {m : Mem} {c : Str} {l : List (Str × MV)} : ownOf (m ++ [.own c l]) (.ref m.length) = some (m.length, c, l) := ownOf_at (by simp)
theorem room_mk {k : Nat} {m : Mem} {p pl : Int} {sl : Nat} {Q : MV → Mem → Prop} {E : Exn → Mem → Prop} (q : Q (.ref m.length) (m ++ [.own "Room" [("parameters", .int p), ("states", .ref sl), ("places", .int pl)]])) :
    MI.W (gMake "Room" ((Tab (k + 1)).f .i_Room) [.int p, .ref sl, .int pl] m) Q E := by with_unfolding_all
  have e : (Tab (k + 1)).f .i_Room [.ref m.length, .int p, .ref sl, .int pl] (m ++ [.own "Room" []]) = Re.ok .non (m ++ [.own "Room" [("parameters", .int p), ("states", .ref sl), ("places", .int pl)]]) := W_eq (by
    show MI.W (f_i_Room (Tab k) [.ref m.length, .int p, .ref sl, .int pl] (m ++ [.own "Room" []])) _ _
    unfold f_i_Room b_i_Room
    simp [startM, own_end, set_end, putFM, pf_parameters, pf_states, pf_places, show ¬ (("parameters" : Str) = "states") by decide, show ¬ (("parameters" : Str) = "places") by decide, show ¬ (("states" : Str) = "places") by decide])
  unfold gMake
  rw [e]
  exact q
theorem sts_cast : ∀ {l : List MV}, l.all stB = true → (l.map fun d => match d with | .tup [n, _] => n | _ => .non) = (statesOf l).map fun (n : Nat) => MV.int n
  | [], _ => rfl
  | d :: r, h => by
    rw [List.all_cons, Bool.and_eq_true] at h
    have ih := sts_cast h.2
    have hd := h.1
    unfold stB at hd
    split at hd
    · rename_i n t
      cases n with
      | int i =>
        simp [numB] at hd
        rw [List.map_cons, ih]
        show MV.int i :: _ = MV.int ((i.toNat : Nat) : Int) :: _
        rw [Int.toNat_of_nonneg hd.1]
      | _ => cases hd
    · cases hd
theorem plc_lp {chk : Mem → Prop} {ρ : MI.Env} {m : Mem} {Q : List MV → Mem → Prop} {E : Exn → Mem → Prop} (hc : chk m) (hρ : ρ.length = 11) : ∀ (l acc : List MV), l.all stB = true → acc.length + l.length ≤ 3000 → Q (acc ++ l.map fun d => match d with | .tup [n, _] => n | _ => .non) m →
    MI.W (lcM chk (ngTup 2 (ngCons (ngName 5) (ngCons (ngName 7) ngNil))) mYes (mVar 5) ρ l acc m) Q E
  | [], acc, _, _, q => W_lc_nil hc (by simpa using q)
  | d :: r, acc, h, hl, q => by
    rw [List.all_cons, Bool.and_eq_true] at h
    have hd := h.1
    unfold stB at hd
    split at hd
    · rename_i n t
      refine W_lc_cons (as := [(5, n), (7, t)]) hc rfl ?_
      simp at hl
      have : acc.length < sizeLine := szl (n := 3000) (Nat.le_refl _) |> Nat.lt_of_lt_of_le (by omega)
      simp [mYes, setE, hρ]
      exact ⟨this, plc_lp hc hρ r (acc ++ [n]) h.2 (by simp; omega) (by simpa using q)⟩
    · cases hd
end K51
set_option maxHeartbeats 4000000
namespace K51
open PySem L2 MI
theorem atM_nat {l : List MV} {i : Nat} {d : MV} (h : l[i]? = some d) : atM l (i : Int) = some d := by
  have hl : i < l.length := (List.getElem?_eq_some_iff.mp h).1
  unfold atM ixN
  rw [if_pos (by omega), if_pos (by omega)]
  simpa using h
theorem st_get : ∀ (l : List MV) (j : Nat), j < l.length → l.all stB = true → ∃ (n : Int) (t : MV), l[j]? = some (.tup [.int n, t]) ∧ 0 ≤ n ∧ (statesOf l)[j]? = some n.toNat
  | d :: r, j, h, hs => by
    rw [List.all_cons, Bool.and_eq_true] at hs
    have hd := hs.1
    unfold stB at hd
    split at hd
    · rename_i n t
      cases n with
      | int i =>
        simp [numB] at hd
        cases j with
        | zero => exact ⟨i, t, rfl, hd.1, rfl⟩
        | succ j =>
          obtain ⟨n, t', h1, h2, h3⟩ := st_get r j (by simpa using h) hs.2
          exact ⟨n, t', by simpa using h1, h2, by simpa [statesOf] using h3⟩
      | _ => cases hd
    · cases hd
theorem st_lp {f k pl : Nat} {p l : List MV} {b : Bool} {m : Mem} {e0' bg : Option MV} {Q : Fl → Mem → Prop} {E : Exn → Mem → Prop} (yes : ∀ ρ m', b = true → Kp [] m m' → Q (.nx ρ) m') (no : ∀ ρ m', b = false → Kp [] m m' → Q (.ex ⟨"InvalidMachine"⟩ ρ) m') :
    ∀ (rest : List MV) (e5 e6 e7 e8 e9 e10 : Option MV) (m1 : Mem), Kp [] m m1 → m1[pl]? = some (.lst ((statesOf l).map fun (n : Nat) => .int n)) → (∀ d ∈ rest, TyV m1 d) → rest.all stB = true → treesB p.length (statesOf l) f rest = some b →
      MI.W (loopM (fun _ => True) (nTup 2 (nCons (nName 5) (nCons (nName 6) nNil))) (stBody (Tab (k + 7 + f)) ((Tab (k + 6 + f)).f .i_Room) (k + 7 + f)) rest [e0', some (.tup p), bg, some (.tup l), some (.ref pl), e5, e6, e7, e8, e9, e10] m1) Q E
  | [], _, _, _, _, _, _, m1, k1, _, _, _, h => by
    cases h
    exact W_lp_nil trivial (yes _ _ rfl k1)
  | d :: r, e5, e6, e7, e8, e9, e10, m1, k1, hp, ht, hs, h => by
    rw [List.all_cons, Bool.and_eq_true] at hs
    have hd := hs.1
    unfold stB at hd
    split at hd
    · rename_i n t
      cases n with
      | int i =>
        simp [numB] at hd
        have h : andO (treeB ⟨p.length, statesOf l, i.toNat⟩ f [] 1 t) (treesB p.length (statesOf l) f r) = some b := h
        have tt : TyV m1 t := (ht _ List.mem_cons_self).items.1 t (by simp)
        refine W_lp_cons (ρ1 := [e0', some (.tup p), bg, some (.tup l), some (.ref pl), some (.int i), some t, e7, e8, e9, e10]) trivial rfl ?_
        unfold stBody
        obtain ⟨n, hn⟩ : ∃ n, k + 7 + f = n + 2 := ⟨k + 5 + f, by omega⟩
        have hn1 : k + 6 + f = n + 1 := by omega
        have e0 : ∀ F : ME, mPos (k + 7 + f) F = F := fun F => by rw [hn]; rfl
        rw [e0]
        simp
        have go : ∀ c : Bool, treeB ⟨p.length, statesOf l, i.toNat⟩ f [] 1 t = some c → MI.W ((Tab (k + 7 + f)).f .u_check_tree [t, .ref m1.length, .tup [], .int 1] (m1 ++ [.own "Room" [("parameters", .int p.length), ("states", .ref pl), ("places", .int i)]])) (QOk c (m1 ++ [.own "Room" [("parameters", .int p.length), ("states", .ref pl), ("places", .int i)]])) (QEx c (m1 ++ [.own "Room" [("parameters", .int p.length), ("states", .ref pl), ("places", .int i)]])) := fun c hc => by
          refine tree_ok (R := ⟨p.length, statesOf l, i.toNat⟩) f k [] 1 t c _ hc ⟨pl, ?_, Kp.get (S := []) Kp.push hp (by simp)⟩ (TyV.kp Kp.push _ tt) (by simp)
          show (m1 ++ [_])[m1.length]? = some (.own "Room" [("parameters", .int p.length), ("states", .ref pl), ("places", .int ((i.toNat : Nat) : Int))])
          rw [Int.toNat_of_nonneg hd.1]
          simp
        revert go
        intro go
        have rm : ∀ (Q : MV → Mem → Prop) (E : Exn → Mem → Prop), Q (.ref m1.length) (m1 ++ [.own "Room" [("parameters", .int p.length), ("states", .ref pl), ("places", .int i)]]) → MI.W (gMake "Room" ((Tab (k + 6 + f)).f .i_Room) [.int p.length, .ref pl, .int i] m1) Q E := fun Q E q => by rw [hn1]; exact room_mk q
        refine rm _ _ ?_
        rcases andO_some h with ⟨h1, rfl⟩ | ⟨h1, h2⟩
        · exact look Kp.push (go _ h1) (fun v m' q k => by cases q) (fun m' q k => no _ _ rfl (k1.trans k))
        · refine look Kp.push (go _ h1) (fun v m' q k2 => ?_) (fun m' q k => by cases q)
          have z := st_lp (k := k) (f := f) (e0' := e0') (bg := bg) (E := E) yes no r (some (.int i)) (some t) e7 e8 e9 e10 m' (k1.trans k2) (k2.get hp (by simp)) (fun d hd => TyV.kp k2 _ (ht d (by simp [hd]))) hs.2 h2
          unfold stBody at z
          rw [e0] at z
          exact z
      | _ => cases hd
    · cases hd
theorem mach_ok {f k : Nat} {m : Mem} {v : MV} {b : Bool} (tv : TyV m v) (wd : ∀ a c x y, v = .tup [.tup [a, c], x, y] → WdOk m a) (h : machB f v = some b) :
    MI.W ((Tab (k + 7 + f + 1)).f .check_machine [v] m) (QOk b m) (QEx b m) := by
  show MI.W (f_check_machine (Tab (k + 7 + f)) (Hk (k + 7 + f)) (k + 7 + f) [v] m) _ _
  unfold f_check_machine
  rw [b_cm]
  have eh : Hk (k + 7 + f) (k + 7 + f - 1) = Tab (k + 6 + f) := by rw [Hk_eq (by omega), show k + 7 + f - 1 = k + 6 + f by omega]
  rw [eh]
  obtain ⟨n, hn⟩ : ∃ n, k + 7 + f = n + 6 := ⟨k + 1 + f, by omega⟩
  have e := isi_tup tv.typed
  cases c : isTup v with
  | false =>
    rw [c] at e
    simp [startM, e]
    refine qex ?_ Kp.refl
    cases v with
    | tup l => cases c
    | _ => cases h; rfl
  | true =>
    obtain ⟨l0, rfl⟩ : ∃ l, v = .tup l := by
      cases v with
      | tup l => exact ⟨l, rfl⟩
      | _ => cases c
    by_cases l3 : l0.length = 3
    · obtain ⟨ps, bg, sts, rfl⟩ := len3 l3
      obtain ⟨i1, _⟩ := tv.items
      have tps := i1 ps (by simp)
      have tbg := i1 bg (by simp)
      have tst := i1 sts (by simp)
      simp [startM, kit_tt, W_asgT, nCons, nName, nNil]
      have ep := isi_tup tps.typed
      cases cp : isTup ps with
      | false =>
        rw [cp] at ep
        simp [ep]
        refine qex ?_ Kp.refl
        cases ps with
        | tup l => cases cp
        | _ => cases h; rfl
      | true =>
        obtain ⟨p, rfl⟩ : ∃ l, ps = .tup l := by
          cases ps with
          | tup l => exact ⟨l, rfl⟩
          | _ => cases cp
        have h : andO (if p.length ≤ 2 then parB p else some false) (stsB f p.length bg sts) = some b := h
        by_cases p2 : p.length ≤ 2
        · rw [if_pos p2] at h
          have p2' : ¬ (2 : Int) < p.length := by omega
          simp [kit_tt, p2']
          obtain ⟨c, hc⟩ : ∃ c, parB p = some c := by
            cases e1 : parB p with
            | none => rw [e1] at h; cases h
            | some c => exact ⟨c, rfl⟩
          rw [hn]
          refine (par_ok (k := n + 5) (fun d hd => tps.items.1 d hd) p2 (fun a c e => wd a c bg sts (by rw [e])) hc).mono ?_
          rintro d m1 ⟨⟨q, bs, rfl, q1, q2⟩, k1⟩
          rw [W_all q1, q2]
          rw [hc] at h
          cases c with
          | false =>
            cases h
            simp
            exact qex rfl k1
          | true =>
            have h : stsB f p.length bg sts = some b := h
            unfold stsB at h
            simp
            have es := isi_tup (TyV.kp k1 _ tst).typed
            cases cs : isTup sts with
            | false =>
              rw [cs] at es
              simp [es]
              refine qex ?_ k1
              cases sts with
              | tup l => cases cs
              | _ => cases h; rfl
            | true =>
              obtain ⟨l, rfl⟩ : ∃ l, sts = .tup l := by
                cases sts with
                | tup l => exact ⟨l, rfl⟩
                | _ => cases cs
              obtain ⟨j1, j2⟩ := tst.items
              simp only at h
              simp [kit_tt]
              refine (Nat.lt_or_ge 2000 l.length).elim (fun l2 => ?_) (fun l2 => ?_)
              · rw [if_neg (fun q => by omega)] at h
                cases h
                have l2' : ¬ (l.length : Int) ≤ 2000 := by omega
                by_cases l1 : (1 : Int) ≤ l.length
                · simp [l1, l2']; exact qex rfl k1
                · simp [l1]; exact qex rfl k1
              by_cases l1 : 1 ≤ l.length
              · rw [if_pos ⟨l1, l2⟩] at h
                have l1' : (1 : Int) ≤ l.length := by omega
                have l2' : (l.length : Int) ≤ 2000 := by omega
                simp [l1', l2']
                refine W_pure (fun d => .bl (stB d)) (fun _ => true) trivial (fun d hd => ⟨rfl, fun _ => ?_⟩) (by omega) ?_
                · refine W_eq ?_
                  simp [wipeM]
                  exact mst_ok (k := n + 3) (TyV.kp k1 _ (j1 d hd))
                · rw [filter_all, W_all (bs := l.map stB) (by rw [List.map_map]; exact List.getElem?_concat_length)]
                  have e3 : (l.map stB).all id = l.all stB := by rw [List.all_map]; rfl
                  rw [e3]
                  have k2 : Kp [] m (m1 ++ [.lst (l.map fun d => MV.bl (stB d))]) := k1.trans Kp.push
                  generalize (m1 ++ [MO.lst (l.map fun d => MV.bl (stB d))]) = m2 at k2
                  cases hs : l.all stB with
                  | false =>
                    simp only [hs, Bool.false_eq_true, if_false] at h
                    cases h
                    simp
                    exact qex rfl k2
                  | true =>
                    simp only [hs, if_true] at h
                    simp
                    refine (num_ok (k := n + 4) l.length (TyV.kp k2 _ tbg).typed).mono ?_
                    rintro d m3 ⟨rfl, rfl⟩
                    cases hb : numB bg l.length with
                    | false =>
                      simp only [hb, Bool.false_eq_true, if_false] at h
                      cases h
                      simp
                      exact qex rfl k2
                    | true =>
                      simp only [hb, if_true] at h
                      cases bg with
                      | int i =>
                        simp [numB] at hb
                        obtain ⟨n0, t, a1, a2, a3⟩ := st_get l i.toNat (by omega) hs
                        have a1' : atM l i = some (.tup [.int n0, t]) := by
                          have := atM_nat a1
                          rwa [Int.toNat_of_nonneg hb.1] at this
                        simp only at h
                        have ge : (statesOf l).getD i.toNat 1 = n0.toNat := by rw [List.getD_eq_getElem?_getD, a3]; rfl
                        rw [ge] at h
                        simp [a1']
                        by_cases z : n0 = 0
                        · subst z
                          simp at h
                          simp
                          unfold plcLc
                          simp [wipeM]
                          refine plc_lp trivial (by simp) l [] hs (by simp; omega) ?_
                          rw [List.nil_append, sts_cast hs]
                          unfold stLoop
                          simp
                          have k3 : Kp [] m (m3 ++ [.lst ((statesOf l).map fun (n : Nat) => MV.int n)]) := k2.trans Kp.push
                          have g3 : (m3 ++ [MO.lst ((statesOf l).map fun (n : Nat) => MV.int n)])[m3.length]? = some (.lst ((statesOf l).map fun (n : Nat) => MV.int n)) := by simp
                          rw [← hn]
                          exact st_lp (p := p) (l := l) (m := m) (b := b) (fun ρ m' q k => ⟨rfl, q, k⟩) (fun ρ m' q k => ⟨rfl, q, k⟩) l _ _ _ _ _ _ _ k3 g3 (fun d hd => TyV.kp k3 _ (j1 d hd)) hs h
                        · have z' : ¬ n0.toNat = 0 := by omega
                          rw [if_neg z'] at h
                          cases h
                          simp [z]
                          exact qex rfl k2
                      | _ => cases hb
              · rw [if_neg (fun q => l1 q.1)] at h
                cases h
                have l1' : ¬ (1 : Int) ≤ l.length := by omega
                simp [l1']
                exact qex rfl k1
        · rw [if_neg p2] at h
          cases h
          have p2' : (2 : Int) < p.length := by omega
          simp [kit_tt, p2']
          exact qex rfl Kp.refl
    · have l3' : ¬ ((l0.length : Int) = 3) := by omega
      simp [startM, kit_tt, l3']
      refine qex ?_ Kp.refl
      unfold machB at h
      split at h
      · rename_i h0; cases h0; simp at l3
      · cases h; rfl
end K51
set_option maxHeartbeats 4000000
namespace K51
open PySem L2 MI
/-- the source may be drawn from n more times -/
structure Bud (m : Mem) (s c n : Nat) : Prop where
  ex : ∃ t : Int, Src m s c t ∧ t + n ≤ 2 ^ 50
theorem Bud.kp {m m' : Mem} {s c n : Nat} {S : List Nat} (a : Bud m s c n) (k : Kp S m m') (h1 : s ∉ S) (h2 : c ∉ S) : Bud m' s c n :=
  let ⟨t, h, hl⟩ := a.ex; ⟨t, h.kp k h1 h2, hl⟩
theorem Bud.less {m : Mem} {s c n n' : Nat} (a : Bud m s c n) (h : n' ≤ n) : Bud m s c n' :=
  let ⟨t, h1, hl⟩ := a.ex; ⟨t, h1, by omega⟩
theorem Bud.lt {m : Mem} {s c n : Nat} (a : Bud m s c n) : s < m.length ∧ c < m.length :=
  let ⟨t, h, hl⟩ := a.ex
  let ⟨cells, e1, e2, e3⟩ := h.ex
  ⟨(List.getElem?_eq_some_iff.mp e2).1, (List.getElem?_eq_some_iff.mp e3).1⟩
theorem Bud.new {m : Mem} {s c n : Nat} (a : Bud m s c n) {j : Nat} (h : m.length ≤ j) : j ∉ [s, c] := by
  obtain ⟨h1, h2⟩ := a.lt
  simp
  omega
theorem Bud.any {m m' : Mem} {s c n : Nat} (a : Bud m s c n) (k : Kp [] m m') : Bud m' s c n := a.kp k (by simp) (by simp)
theorem kps {S : List Nat} {m m' : Mem} (k : Kp [] m m') : Kp S m m' := k.mono (by simp)
theorem dr_ok {k : Nat} {m : Mem} {s c n : Nat} {lim : Int} (a : Bud m s c (n + 1)) (h0 : 0 < lim) (h1 : lim < 2 ^ 60) :
    MI.W ((Tab (k + 1)).f .l_draw [.ref s, .int lim] m) (fun d m' => ∃ v : Int, d = .int v ∧ 0 ≤ v ∧ v < lim ∧ Bud m' s c n ∧ Kp [s, c] m m') E0 := by
  obtain ⟨t, h, hl⟩ := a.ex
  refine (draw_ok (k := k) h h0 h1 (by omega)).mono ?_
  rintro d m' ⟨v, rfl, v0, v1, h', k', _⟩
  exact ⟨v, rfl, v0, v1, ⟨t + 1, h', by omega⟩, k'⟩
theorem pick_ok {k : Nat} {m : Mem} {s c n x : Nat} {l : List MV} (a : Bud m s c (n + 1)) (hx : m[x]? = some (.lst l)) (xs : x ∉ [s, c]) (h0 : l ≠ []) (h1 : l.length ≤ 3000) :
    MI.W ((Tab (k + 2)).f .l_pick [.ref s, .ref x] m) (fun d m' => d ∈ l ∧ Bud m' s c n ∧ Kp [s, c] m m') E0 := by
  show MI.W (f_l_pick (Tab (k + 1)) [.ref s, .ref x] m) _ _
  unfold f_l_pick b_l_pick
  have hl : 0 < l.length := List.length_pos_iff.mpr h0
  simp [startM, hx]
  refine (dr_ok (k := k) a (by omega) (by omega)).mono ?_
  rintro d m' ⟨v, rfl, v0, v1, b1, k1⟩
  obtain ⟨d, hd, e⟩ := atM_of v0 v1
  simp [k1.get hx xs, e]
  exact ⟨hd, b1, k1⟩
/-- a list that was just made is no part of the source -/
theorem Bud.off {m : Mem} {s c n j : Nat} (a : Bud m s c n) (h : m.length ≤ j) : j ∉ [s, c] := a.new h
mutual
def Pu : MV → Bool
  | .tup l => Pus l && decide (l.length ≤ 3000) && (match l with | [.str w, x, _, _] => if w = "ask" then (match x with | .str _ => true | _ => false) else true | _ => true)
  | .str s => decide (s.length ≤ 1000)
  | .int _ => true
  | .non => true
  | .bl _ => true
  | _ => false
def Pus : List MV → Bool
  | [] => true
  | d :: l => Pu d && Pus l
end
mutual
theorem Pu.ty {m : Mem} : ∀ (d : MV), Pu d = true → TyV m d
  | .tup l, h => by
    unfold Pu at h
    simp only [Bool.and_eq_true, decide_eq_true_eq] at h
    unfold TyV
    refine ⟨Pus.ty l h.1.1, h.1.2, fun w a b e => ?_⟩
    subst e
    have h3 := h.2
    simp at h3
    cases w with
    | str s => exact .inl ⟨s, rfl⟩
    | _ => simp at h3
  | .str s, h => by unfold Pu at h; unfold TyV; simpa using h
  | .int _, _ => by unfold TyV; trivial
  | .non, _ => by unfold TyV; trivial
  | .bl _, _ => by unfold TyV; trivial
  | .ref _, h => by unfold Pu at h; cases h
  | .kl _, h => by unfold Pu at h; cases h
  | .clo _ _, h => by unfold Pu at h; cases h
theorem Pus.ty {m : Mem} : ∀ (l : List MV), Pus l = true → TyVs m l
  | [], _ => by unfold TyVs; trivial
  | d :: l, h => by
    unfold Pus at h
    rw [Bool.and_eq_true] at h
    unfold TyVs
    exact ⟨Pu.ty d h.1, Pus.ty l h.2⟩
end
theorem Pus.of : ∀ {l : List MV}, (∀ d ∈ l, Pu d = true) → Pus l = true
  | [], _ => by unfold Pus; rfl
  | d :: l, h => by
    unfold Pus
    rw [h d List.mem_cons_self, Pus.of fun x hx => h x (List.mem_cons_of_mem _ hx)]
    rfl
theorem Pus.mem : ∀ {l : List MV} {d : MV}, Pus l = true → d ∈ l → Pu d = true
  | x :: l, d, h, hd => by
    unfold Pus at h
    rw [Bool.and_eq_true] at h
    rcases List.mem_cons.mp hd with rfl | hd
    · exact h.1
    · exact Pus.mem h.2 hd
end K51
set_option maxHeartbeats 4000000
namespace K51
open PySem L2 MI
def plM (i : MV) : MV := .tup [.str "place", i]
def paM (i : MV) : MV := .tup [.str "parameter", i]
def evM (i : MV) : MV := .tup [.str "event", i]
def evB (evs : List Bool) (i : MV) : Bool := match i with
  | .int k => evs.getD k.toNat false
  | _ => false
/-- the operands of the form that the document tells: places, parameters, answers that are there -/
def objL (pl many : Nat) (evs : List Bool) : List MV := (rngL 0 pl).map plM ++ (rngL 0 many).map paM ++ ((rngL 0 evs.length).filter (evB evs)).map evM
theorem rng_mem {n : Nat} {d : MV} (h : d ∈ rngL 0 n) : ∃ i : Nat, i < n ∧ d = .int i := by
  unfold rngL at h
  simp at h
  obtain ⟨i, h1, h2⟩ := h
  exact ⟨i, h1, h2.symm⟩
theorem obj_mem {pl many : Nat} {evs : List Bool} {d : MV} (h : d ∈ objL pl many evs) : (∃ i : Nat, i < pl ∧ d = plM (.int i)) ∨ (∃ i : Nat, i < many ∧ d = paM (.int i)) ∨ ∃ i : Nat, i < evs.length ∧ evs.getD i false = true ∧ d = evM (.int i) := by
  unfold objL at h
  simp only [List.mem_append, List.mem_map, List.mem_filter] at h
  rcases h with (⟨x, h1, rfl⟩ | ⟨x, h1, rfl⟩) | ⟨x, ⟨h1, h2⟩, rfl⟩
  · obtain ⟨i, hi, rfl⟩ := rng_mem h1
    exact .inl ⟨i, hi, rfl⟩
  · obtain ⟨i, hi, rfl⟩ := rng_mem h1
    exact .inr (.inl ⟨i, hi, rfl⟩)
  · obtain ⟨i, hi, rfl⟩ := rng_mem h1
    exact .inr (.inr ⟨i, hi, h2, rfl⟩)
def hapO (evs : List Bool) : List Bool := evs.map (!·)
theorem hap_get {evs : List Bool} {i : Nat} (h : i < evs.length) : (hapO evs).getD i false = !(evs.getD i false) := by
  unfold hapO
  simp [List.getD, List.getElem?_eq_getElem h]
theorem s_ne1 : ¬ (("parameter" : Str) = "place") := by decide
theorem s_ne2 : ¬ (("event" : Str) = "place") := by decide
theorem s_ne3 : ¬ (("event" : Str) = "parameter") := by decide
theorem obj_B {pl many : Nat} {sts : List Nat} {evs : List Bool} {d : MV} (h : d ∈ objL pl many evs) : objB ⟨many, sts, pl⟩ (hapO evs) d = some true := by
  rcases obj_mem h with ⟨i, h1, rfl⟩ | ⟨i, h1, rfl⟩ | ⟨i, h1, h2, rfl⟩
  · simp [plM, objB, numB, h1]
  · simp [paM, objB, numB, h1, s_ne1]
  · have := hap_get h1
    unfold evM objB
    simp only [s_ne2, s_ne3, if_false, if_true]
    have hl : (hapO evs).length = evs.length := by simp [hapO]
    rw [hl]
    have e1 : hapB (hapO evs) (.int i) = false := by
      show (hapO evs).getD ((i : Int)).toNat false = false
      rw [Int.toNat_natCast, this, h2]
      rfl
    rw [e1]
    simp [numB, h1]
theorem obj_pu {pl many : Nat} {evs : List Bool} {d : MV} (h : d ∈ objL pl many evs) : Pu d = true := by
  rcases obj_mem h with ⟨i, h1, rfl⟩ | ⟨i, h1, rfl⟩ | ⟨i, h1, h2, rfl⟩ <;> rfl
theorem rng_len {n : Nat} : (rngL 0 n).length = n := rngL_length
theorem obj_len {pl many : Nat} {evs : List Bool} : (objL pl many evs).length ≤ pl + many + evs.length := by
  unfold objL
  simp only [List.length_append, List.length_map, rng_len]
  have := List.length_filter_le (evB evs) (rngL 0 evs.length)
  rw [rng_len] at this
  omega
/-- what a draw leaves: the budget, and all but the source -/
structure Aft (m : Mem) (s c n : Nat) (m' : Mem) : Prop where
  bud : Bud m' s c n
  kp : Kp [s, c] m m'
@[irreducible] noncomputable def obA : MS := (mAsg (mBin gAdd (mLc (mRng (mCons (mVar 1) mNil)) (ngName 5) mYes (mTup (mCons (mC (.str "place")) (mCons (mVar 5) mNil))) [5]) (mLc (mRng (mCons (mVar 2) mNil)) (ngName 5) mYes (mTup (mCons (mC (.str "parameter")) (mCons (mVar 5) mNil))) [5])) (nName 4))
@[irreducible] noncomputable def obB : MS := (mAsg (mBin gAdd (mVar 4) (mLc (mRng (mCons (mCall gLen (mCons (mVar 3) mNil)) mNil)) (ngName 6) (mTru (mBin gItem (mVar 3) (mVar 6))) (mTup (mCons (mC (.str "event")) (mCons (mVar 6) mNil))) [6])) (nName 4))
@[irreducible] noncomputable def obR (ck : Tabl) : MS := (mSeq (mIfS (mB (mBin gEqE (mVar 4) (mLst mNil)))
    (mRet (mC .non))
    mSkip)
    (mRet (mCall (ck.f .l_pick) (mCons (mVar 0) (mCons (mVar 4) mNil)))))
theorem b_ob (ck : Tabl) : b_l_object ck = mSeq obA (mSeq obB (obR ck)) := by unfold obA obB obR; rfl
theorem obA_ok {m : Mem} {s e pl many : Nat} (h1 : pl ≤ 100) (h2 : many ≤ 100) : MI.W (obA (startM 7 [.ref s, .int pl, .int many, .ref e]) m) (fun f m' => ∃ x, f = .nx [some (.ref s), some (.int pl), some (.int many), some (.ref e), some (.ref x), none, none] ∧ m'[x]? = some (.lst ((rngL 0 pl).map plM ++ (rngL 0 many).map paM)) ∧ m.length ≤ x ∧ Kp [] m m') E0 := by
  unfold obA
  simp [startM]
  refine ⟨by omega, ?_⟩
  refine W_pureN plM (fun _ => true) trivial (fun d hd => ⟨rfl, fun _ => rfl⟩) (by rw [rng_len]; omega) (fun k hk => ?_)
  rw [filter_all] at hk
  subst hk
  refine ⟨by omega, ?_⟩
  refine W_pureN paM (fun _ => true) trivial (fun d hd => ⟨rfl, fun _ => rfl⟩) (by rw [rng_len]; omega) (fun k hk => ?_)
  rw [filter_all] at hk
  subst hk
  have l1 : (rngL 0 pl).length + (rngL 0 many).length ≤ sizeLine := by rw [rng_len, rng_len]; exact szl (by omega)
  simp [gAdd, mutOf, l1, MI.alloc]
  exact Kp.app
theorem obB_ok {m : Mem} {s e x pl many : Nat} {L : List MV} {evs : List Bool} (he : m[e]? = some (.lst (evs.map .bl))) (hx : m[x]? = some (.lst L)) (h1 : L.length ≤ 300) (h3 : evs.length ≤ 100) :
    MI.W (obB [some (.ref s), some (.int pl), some (.int many), some (.ref e), some (.ref x), none, none] m) (fun f m' => ∃ y, f = .nx [some (.ref s), some (.int pl), some (.int many), some (.ref e), some (.ref y), none, none] ∧ m'[y]? = some (.lst (L ++ ((rngL 0 evs.length).filter (evB evs)).map evM)) ∧ m.length ≤ y ∧ Kp [] m m') E0 := by
  unfold obB
  simp [he]
  refine ⟨by omega, ?_⟩
  refine W_pureN evM (evB evs) trivial (fun d hd => ⟨?_, fun _ => rfl⟩) (by rw [rng_len]; omega) (fun k hk => ?_)
  · obtain ⟨i, hi, rfl⟩ := rng_mem hd
    refine W_eq ?_
    have e1 : atM (evs.map MV.bl) ((i : Nat) : Int) = some (.bl (evs.getD i false)) := by
      have := hap_at (hap := evs) (i := (i : Int)) (by omega) (by omega)
      simpa using this
    simp [wipeM, he, e1, evB]
  · subst hk
    have hx2 : (m ++ [MO.lst (((rngL 0 evs.length).filter (evB evs)).map evM)])[x]? = some (.lst L) := (Kp.app (S := [])).get hx (by simp)
    have l1 : L.length + ((rngL 0 evs.length).filter (evB evs)).length ≤ sizeLine := by
      have := List.length_filter_le (evB evs) (rngL 0 evs.length)
      rw [rng_len] at this
      exact szl (by omega)
    simp [gAdd, mutOf, hx2, l1, MI.alloc]
    exact Kp.app
theorem obR_ok {k : Nat} {m : Mem} {s c n e x pl many : Nat} {L : List MV} (a : Bud m s c (n + 1)) (hx : m[x]? = some (.lst L)) (xs : x ∉ [s, c]) (hl : L.length ≤ 3000) {Q : Fl → Mem → Prop} {E : Exn → Mem → Prop} (q : ∀ d m', ((L = [] ∧ d = .non) ∨ d ∈ L) → Aft m s c n m' → Q (.rt d) m') :
    MI.W (obR (Tab (k + 2)) [some (.ref s), some (.int pl), some (.int many), some (.ref e), some (.ref x), none, none] m) Q E := by
  unfold obR
  have hx2 : (m ++ [MO.lst []])[x]? = some (.lst L) := (Kp.app (S := [])).get hx (by simp)
  simp [hx2]
  by_cases h0 : L = []
  · rw [if_pos h0]
    exact q _ _ (.inl ⟨h0, rfl⟩) ⟨(a.less (by omega)).any Kp.app, Kp.app⟩
  · rw [if_neg h0]
    refine (pick_ok (k := k) (a.any (Kp.app (r := [MO.lst []]))) hx2 xs h0 hl).mono ?_ (fun x m' h => h.elim)
    rintro d m' ⟨d1, b1, k1⟩
    exact q d m' (.inr d1) ⟨b1, (Kp.app (S := [s, c])).trans k1⟩
theorem Aft.trans {m m1 m' : Mem} {s c n : Nat} (k : Kp [s, c] m m1) (a : Aft m1 s c n m') : Aft m s c n m' := ⟨a.bud, k.trans a.kp⟩
theorem ob_ok {k : Nat} {m : Mem} {s c n e : Nat} {pl many : Nat} {evs : List Bool} (a : Bud m s c (n + 1)) (he : m[e]? = some (.lst (evs.map .bl))) (h1 : pl ≤ 100) (h2 : many ≤ 100) (h3 : evs.length ≤ 100) :
    MI.W ((Tab (k + 3)).f .l_object [.ref s, .int pl, .int many, .ref e] m) (fun d m' => ((objL pl many evs = [] ∧ d = .non) ∨ d ∈ objL pl many evs) ∧ Aft m s c n m') E0 := by
  have e1 : (Tab (k + 3)).f .l_object = f_l_object (Tab (k + 2)) := rfl
  rw [e1]
  unfold f_l_object
  rw [b_ob, W_end, W_seq]
  refine (obA_ok h1 h2).mono ?_
  rintro f m1 ⟨x, rfl, x1, x2, k1⟩
  show MI.W (mSeq obB (obR (Tab (k + 2))) _ m1) _ _
  rw [W_seq]
  refine (obB_ok (k1.get he (by simp)) x1 (by simp [rng_len]; omega) h3).mono ?_
  rintro f m2 ⟨y, rfl, y1, y2, k2⟩
  have kk := k1.trans k2
  refine obR_ok (k := k) (a.any kk) y1 ?_ (by have := obj_len (pl := pl) (many := many) (evs := evs); unfold objL at this; omega) ?_
  · exact (a.any k1).new y2
  · intro d m' hd A
    exact ⟨hd, A.trans (kps kk)⟩
end K51
set_option maxHeartbeats 4000000
namespace K51
open PySem L2 MI
/-- an operand: a constant, or one that is there -/
def Opd (pl many : Nat) (evs : List Bool) (d : MV) : Prop := (∃ s ∈ consts, d = .tup [.str s]) ∨ d ∈ objL pl many evs
theorem opd_B {pl many : Nat} {sts : List Nat} {evs : List Bool} {d : MV} (h : Opd pl many evs d) : opB ⟨many, sts, pl⟩ (hapO evs) d = some true := by
  rcases h with ⟨s, hs, rfl⟩ | h
  · simp [opB, hs]
  · have e := obj_B (sts := sts) h
    rcases obj_mem h with ⟨i, h1, rfl⟩ | ⟨i, h1, rfl⟩ | ⟨i, h1, h2, rfl⟩ <;> exact e
theorem opd_pu {pl many : Nat} {evs : List Bool} {d : MV} (h : Opd pl many evs d) : Pu d = true := by
  rcases h with ⟨s, hs, rfl⟩ | h
  · have : s.length ≤ 1000 := by
      have : ∀ s ∈ consts, s.length ≤ 1000 := by decide
      exact this s hs
    simp [Pu, Pus, this]
  · exact obj_pu h
theorem opd_ok {k : Nat} {m : Mem} {s c n e : Nat} {pl many : Nat} {evs : List Bool} (a : Bud m s c (n + 3)) (he : m[e]? = some (.lst (evs.map .bl))) (h1 : pl ≤ 100) (h2 : many ≤ 100) (h3 : evs.length ≤ 100) (es : e ∉ [s, c]) :
    MI.W ((Tab (k + 4)).f .l_operand [.ref s, .int pl, .int many, .ref e] m) (fun d m' => Opd pl many evs d ∧ Aft m s c n m') E0 := by
  have e1 : (Tab (k + 4)).f .l_operand = f_l_operand (Tab (k + 3)) := rfl
  rw [e1]
  unfold f_l_operand b_l_operand
  have sz : ∀ n, n ≤ 3000 → n ≤ sizeLine := fun n h => szl h
  have s3 : 3 ≤ sizeLine := sz 3 (by omega)
  simp [startM]
  refine (ob_ok (k := k) (a.less (n' := n + 2 + 1) (by omega)) he h1 h2 h3).mono ?_
  rintro d m1 ⟨hd, A1⟩
  have fin1 : ∀ m2 : Mem, Bud m2 s c (n + 1) → Kp [s, c] m m2 → MI.W ((Tab (k + 3)).f .l_pick [.ref s, .ref m2.length] (m2 ++ [.lst [.str "none", .str "true", .str "false"]])) (fun d m' => Opd pl many evs (.tup [d]) ∧ Aft m s c n m') E0 := by
    intro m2 b2 k2
    refine (pick_ok (k := k + 1) (b2.any (Kp.app (r := [MO.lst [.str "none", .str "true", .str "false"]]))) (x := m2.length) (l := [.str "none", .str "true", .str "false"]) (by simp) (b2.new (Nat.le_refl _)) (by simp) (by simp)).mono ?_
    rintro d m' ⟨d1, b1, k1⟩
    refine ⟨.inl ?_, b1, k2.trans (Kp.app.trans k1)⟩
    simp at d1
    rcases d1 with rfl | rfl | rfl
    · exact ⟨_, by simp [consts], rfl⟩
    · exact ⟨_, by simp [consts], rfl⟩
    · exact ⟨_, by simp [consts], rfl⟩
  rcases hd with ⟨_, rfl⟩ | hd
  · simp [s3]
    exact (fin1 m1 (A1.bud.less (by omega)) A1.kp).mono fun d m' q => ⟨sz 1 (by omega), q⟩
  · have hn : ∃ l, d = .tup l := by
      rcases obj_mem hd with ⟨i, h1, rfl⟩ | ⟨i, h1, rfl⟩ | ⟨i, h1, h2, rfl⟩ <;> exact ⟨_, rfl⟩
    obtain ⟨l, rfl⟩ := hn
    simp
    refine (dr_ok (k := k + 2) (A1.bud.less (n' := n + 1 + 1) (by omega)) (by omega) (by omega)).mono ?_
    rintro d m2 ⟨v, rfl, v0, v1, b2, k2⟩
    by_cases hv : v = 0
    · subst hv
      simp [s3]
      exact (fin1 m2 b2 (A1.kp.trans k2)).mono fun d m' q => ⟨sz 1 (by omega), q⟩
    · simp [hv]
      exact ⟨.inr hd, b2.less (by omega), A1.kp.trans k2⟩
end K51
set_option maxHeartbeats 4000000
namespace K51
open PySem L2 MI
/-- a comprehension that draws -/
theorem lc_dr {i : Nat} {ρ : MI.Env} {e : ME} {chk : Mem → Prop} {P : MV → MV → Prop} {m : Mem} {s c n B : Nat} {l : List MV} {Q : List MV → Mem → Prop} {E : Exn → Mem → Prop} (hc : ∀ m', Kp [s, c] m m' → chk m') (a : Bud m s c (n + B * l.length))
    (h : ∀ d ∈ l, ∀ m' n', Bud m' s c (n' + B) → Kp [s, c] m m' → MI.W (e (ρ.set i (some d)) m') (fun y m2 => P d y ∧ Aft m' s c n' m2) E0) (hl : l.length ≤ 3000)
    (q : ∀ acc m', acc.length = l.length → (∀ (j : Nat) d y, l[j]? = some d → acc[j]? = some y → P d y) → Aft m s c n m' → Q acc m') : MI.W (lcM chk (ngName i) mYes e ρ l [] m) Q E := by
  refine W_lcs (fun r acc m' => ∃ p, l = p ++ r ∧ acc.length = p.length ∧ (∀ (j : Nat) d y, p[j]? = some d → acc[j]? = some y → P d y) ∧ Bud m' s c (n + B * r.length) ∧ Kp [s, c] m m') _ _ _ ⟨[], rfl, rfl, fun j d y h => by simp at h, a, Kp.refl⟩ (fun r acc m' ⟨p, _, _, _, _, k⟩ => hc m' k) ?_ ?_
  · rintro d r acc m1 ⟨p, e1, e2, e3, b1, k1⟩
    refine ⟨[(i, d)], rfl, ?_⟩
    simp only [setE, List.foldl_cons, List.foldl_nil]
    simp [mYes]
    have hm : d ∈ l := by rw [e1]; simp
    refine (h d hm m1 (n + B * r.length) (b1.less (by simp [Nat.mul_add]; omega)) k1).mono ?_
    rintro y m2 ⟨py, A⟩
    have lp : p.length + (r.length + 1) = l.length := by rw [e1]; simp
    refine ⟨Nat.lt_of_lt_of_le (by omega) (szl (n := 3000) (Nat.le_refl _)), p ++ [d], by rw [e1]; simp, by simp [e2], fun j d' y' h1 h2 => ?_, A.bud, k1.trans A.kp⟩
    by_cases hj : j < p.length
    · rw [List.getElem?_append_left hj] at h1
      rw [List.getElem?_append_left (by omega)] at h2
      exact e3 j d' y' h1 h2
    · by_cases hj2 : j = p.length
      · subst hj2
        rw [List.getElem?_append_right (by omega)] at h1
        rw [List.getElem?_append_right (by omega)] at h2
        simp at h1
        simp [e2] at h2
        subst h1 h2
        exact py
      · rw [List.getElem?_eq_none (by simp; omega)] at h1
        cases h1
  · rintro acc m1 ⟨p, e1, e2, e3, b1, k1⟩
    rw [List.append_nil] at e1
    subst e1
    exact q acc m1 e2 e3 ⟨b1.less (by simp), k1⟩
def nevB (evs : List Bool) (i : MV) : Bool := !(evB evs i)
/-- what an end comes to -/
def OutIs (pl many : Nat) (evs : List Bool) (o : MV) : Prop := (∃ v, o = .tup [.str "value", v] ∧ Opd pl many evs v) ∨ ∃ j : Nat, o = .tup [.str "failed", .int j] ∧ j < evs.length ∧ evs.getD j false = false
/-- an end as drawn -/
structure EndIs (pl many : Nat) (counts : List Nat) (evs : List Bool) (d : MV) : Prop where
  ex : ∃ (o : MV) (num : Nat) (hold : List MV), d = .tup [.str "end", o, .int num, .tup hold] ∧ num < counts.length ∧ hold.length = counts.getD num 0 ∧ (∀ h ∈ hold, h ∈ objL pl many evs) ∧ OutIs pl many evs o
@[irreducible] noncomputable def edR (ck : Tabl) : MS := (mSeq (mAsg (mCall (ck.f .l_draw) (mCons (mVar 0) (mCons (mCall gLen (mCons (mVar 5) mNil)) mNil))) (nName 8))
    (mSeq (mIfS (mB (mBin gIsN (mCall (ck.f .l_object) (mCons (mVar 0) (mCons (mVar 2) (mCons (mVar 4) (mCons (mVar 3) mNil))))) (mC .non)))
    (mAsg (mBM gIdx (mVar 5) (mCons (mC (.int 0)) mNil)) (nName 8))
    mSkip)
    (mRet (mTup (mCons (mC (.str "end")) (mCons (mVar 7) (mCons (mVar 8) (mCons (mCall gTuple (mCons (mLc (mRng (mCons (mBin gItem (mVar 5) (mVar 8)) mNil)) (ngName 10) mYes (mCall (ck.f .l_object) (mCons (mVar 0) (mCons (mVar 2) (mCons (mVar 4) (mCons (mVar 3) mNil))))) [10]) mNil)) mNil))))))))
theorem b_ed (ck : Tabl) : b_l_end ck = (mSeq (mAsg (mVar 1) (nTup 2 (nCons (nName 4) (nCons (nName 5) nNil))))
    (mSeq (mAsg (mLc (mRng (mCons (mCall gLen (mCons (mVar 3) mNil)) mNil)) (ngName 9) (mNotT (mTru (mBin gItem (mVar 3) (mVar 9)))) (mVar 9) [9]) (nName 6))
    (mSeq (mAsg (mTup (mCons (mC (.str "value")) (mCons (mCall (ck.f .l_operand) (mCons (mVar 0) (mCons (mVar 2) (mCons (mVar 4) (mCons (mVar 3) mNil))))) mNil))) (nName 7))
    (mSeq (mIfS (mAndT (mB (mBin gNeE (mVar 6) (mLst mNil))) (mB (mBin (gEqA false) (mCall (ck.f .l_draw) (mCons (mVar 0) (mCons (mC (.int 2)) mNil))) (mC (.int 0)))))
    (mAsg (mTup (mCons (mC (.str "failed")) (mCons (mCall (ck.f .l_pick) (mCons (mVar 0) (mCons (mVar 6) mNil))) mNil))) (nName 7))
    mSkip)
    (edR ck))))) := by unfold edR; rfl
theorem cnt_at {counts : List Nat} {i : Nat} (h : i < counts.length) : atM (counts.map fun (x : Nat) => MV.int x) ((i : Nat) : Int) = some (.int (counts.getD i 0 : Nat)) := by
  have := nat_at (l := counts) (i := (i : Int)) (by omega) (by omega)
  simpa using this
theorem fvs_ints : ∀ {l : List Nat}, fVs (l.map fun (x : Nat) => MV.int x) = some (l.map fun (x : Nat) => V.int x)
  | [] => rfl
  | x :: l => by
    have ih := fvs_ints (l := l)
    simp only [List.map_cons]
    show (match fV (.int x), fVs (l.map fun (x : Nat) => MV.int x) with | some u, some us => some (u :: us) | _, _ => none) = _
    rw [ih]
    rfl
/-- the place of the first nought -/
theorem zero_at : ∀ {l : List Nat}, 0 ∈ l → ∃ j, ((l.map fun (x : Nat) => V.int x).findIdx? fun z => eqV z (.int 0)) = some j ∧ j < l.length ∧ l.getD j 0 = 0
  | x :: l, z => by
    rw [List.map_cons, List.findIdx?_cons]
    by_cases h : x = 0
    · subst h
      exact ⟨0, by simp [eqV], by simp, rfl⟩
    · have e : eqV (.int (x : Nat)) (.int 0) = false := by simp [eqV]; omega
      have z' : 0 ∈ l := by
        rcases List.mem_cons.mp z with z | z
        · exact absurd z.symm h
        · exact z
      obtain ⟨j, j1, j2, j3⟩ := zero_at z'
      rw [e, j1]
      exact ⟨j + 1, rfl, by simp; omega, by simpa using j3⟩
theorem edR_ok {k : Nat} {m : Mem} {s c n e : Nat} {pl many : Nat} {evs : List Bool} {cs : Nat} {counts : List Nat} {sh o : MV} {x6 x8 x9 x10 : Option MV} (a : Bud m s c (n + 4)) (he : m[e]? = some (.lst (evs.map .bl))) (hc : m[cs]? = some (.lst (counts.map fun (x : Nat) => .int x))) (h1 : pl ≤ 100) (h2 : many ≤ 100) (h3 : evs.length ≤ 100)
    (es : e ∉ [s, c]) (cc : cs ∉ [s, c]) (z0 : 0 ∈ counts) (h4 : ∀ x ∈ counts, x ≤ 2) (h5 : counts.length ≤ 10) (ho : OutIs pl many evs o) {Q : Fl → Mem → Prop} {E : Exn → Mem → Prop} (q : ∀ d m', EndIs pl many counts evs d → Aft m s c n m' → Q (.rt d) m') :
    MI.W (edR (Tab (k + 4)) [some (.ref s), some sh, some (.int pl), some (.ref e), some (.int many), some (.ref cs), x6, some o, x8, x9, x10] m) Q E := by
  unfold edR
  have c0 : 0 < counts.length := List.length_pos_of_mem z0
  have sz : ∀ n, n ≤ 3000 → n ≤ sizeLine := fun n h => szl h
  have s4 : 4 ≤ sizeLine := sz 4 (by omega)
  simp [hc]
  refine (dr_ok (k := k + 3) (a.less (n' := n + 3 + 1) (by omega)) (by omega) (by omega)).mono ?_ (fun x m' h => h.elim)
  rintro d m1 ⟨v, rfl, v0, v1, b1, k1⟩
  refine (ob_ok (k := k + 1) (b1.less (n' := n + 2 + 1) (by omega)) (k1.get he es) h1 h2 h3).mono ?_ (fun x m' h => h.elim)
  rintro d m2 ⟨hd, A2⟩
  have hc2 := (k1.trans A2.kp).get hc cc
  have he2 := (k1.trans A2.kp).get he es
  obtain ⟨num, rfl⟩ : ∃ num : Nat, v = num := ⟨v.toNat, by omega⟩
  -- the holds
  have hold : ∀ (num : Nat), num < counts.length → (0 < counts.getD num 0 → objL pl many evs ≠ []) → ∀ (Q : List MV → Mem → Prop) (E : Exn → Mem → Prop), (∀ l m', l.length = counts.getD num 0 → (∀ h ∈ l, h ∈ objL pl many evs) → Aft m s c n m' → Q l m') →
      MI.W (lcM (fun _ => True) (ngName 10) mYes (mCall ((Tab (k + 4)).f .l_object) (mCons (mVar 0) (mCons (mVar 2) (mCons (mVar 4) (mCons (mVar 3) mNil)))))
        (wipeM [some (.ref s), some sh, some (.int pl), some (.ref e), some (.int many), some (.ref cs), x6, some o, some (.int num), x9, x10] [10]) (rngL 0 (counts.getD num 0)) [] m2) Q E := by
    intro num hn hne Q E q
    have hle : counts.getD num 0 ≤ 2 := by
      rw [List.getD_eq_getElem?_getD, List.getElem?_eq_getElem hn]
      exact h4 _ (List.getElem_mem hn)
    refine lc_dr (P := fun _ y => y ∈ objL pl many evs) (s := s) (c := c) (n := n) (B := 1) (fun _ _ => trivial) (A2.bud.less (by rw [rng_len]; omega)) (fun d hd m' n' b' k' => ?_) (by rw [rng_len]; omega) fun acc m' l1 l2 A => ?_
    · have hp : 0 < counts.getD num 0 := by
        obtain ⟨i, hi, _⟩ := rng_mem hd
        omega
      simp [wipeM]
      refine (ob_ok (k := k + 1) b' (k'.get he2 es) h1 h2 h3).mono ?_
      rintro y m4 ⟨hy, A4⟩
      rcases hy with ⟨hy, _⟩ | hy
      · exact absurd hy (hne hp)
      · exact ⟨hy, A4⟩
    · refine q acc m' (by rw [l1, rng_len]) (fun y hy => ?_) ⟨A.bud, (k1.trans A2.kp).trans A.kp⟩
      obtain ⟨j, hj⟩ := List.mem_iff_getElem?.mp hy
      have hj2 : j < (rngL 0 (counts.getD num 0)).length := by rw [← l1]; exact (List.getElem?_eq_some_iff.mp hj).1
      exact l2 j _ y (List.getElem?_eq_getElem hj2) hj
  have done : ∀ (num : Nat) l m', num < counts.length → l.length = counts.getD num 0 → (∀ h ∈ l, h ∈ objL pl many evs) → Aft m s c n m' → Q (.rt (.tup [.str "end", o, .int num, .tup l])) (m' ++ [.lst l]) := fun num l m' hn hl hm A =>
    q _ _ ⟨o, num, l, rfl, hn, hl, hm, ho⟩ ⟨A.bud.any Kp.app, A.kp.trans Kp.app⟩
  have nonNon : ∀ y ∈ objL pl many evs, ∃ l, y = .tup l := fun y hy => by
    rcases obj_mem hy with ⟨i, h1, rfl⟩ | ⟨i, h1, rfl⟩ | ⟨i, h1, h2, rfl⟩ <;> exact ⟨_, rfl⟩
  rcases hd with ⟨h0, rfl⟩ | hd
  · obtain ⟨j, j1, j2, j3⟩ := zero_at z0
    have jc := cnt_at j2
    rw [j3] at jc
    have fv0 : fV (.int 0) = some (.int 0) := rfl
    rw [List.findIdx?_map] at j1
    have jc : atM (counts.map fun (x : Nat) => MV.int x) (j : Nat) = some (.int 0) := jc
    simp [hc2, fvs_ints, fv0, j1, jc]
    have hh := hold j j2 (fun hp => by omega)
    rw [j3] at hh
    refine hh _ _ fun l m' l1 l2 A => ⟨s4, done j l m' j2 (by rw [l1, j3]) l2 A⟩
  · obtain ⟨l0, rfl⟩ := nonNon d hd
    have jc := cnt_at (counts := counts) (i := num) (by omega)
    simp [hc2, jc]
    refine ⟨?_, ?_⟩
    · have := h4 (counts.getD num 0) (by rw [List.getD_eq_getElem?_getD, List.getElem?_eq_getElem (show num < counts.length by omega)]; exact List.getElem_mem _)
      simp at this
      omega
    · have hh := hold num (by omega) (fun _ e => by rw [e] at hd; cases hd)
      simp at hh
      refine hh _ _ fun l m' l1 l2 A => ⟨s4, done num l m' (by omega) (by simpa using l1) l2 A⟩
end K51
set_option maxHeartbeats 4000000
namespace K51
open PySem L2 MI
theorem ev_at {evs : List Bool} {i : Nat} (hi : i < evs.length) : atM (evs.map MV.bl) ((i : Nat) : Int) = some (.bl (evs.getD i false)) := by
  have := hap_at (hap := evs) (i := (i : Int)) (by omega) (by omega)
  simpa using this
theorem endd_ok {k : Nat} {m : Mem} {s c n e : Nat} {pl many : Nat} {evs : List Bool} {cs : Nat} {counts : List Nat} (a : Bud m s c (n + 12)) (he : m[e]? = some (.lst (evs.map .bl))) (hc : m[cs]? = some (.lst (counts.map fun (x : Nat) => .int x))) (h1 : pl ≤ 100) (h2 : many ≤ 100) (h3 : evs.length ≤ 100)
    (es : e ∉ [s, c]) (cc : cs ∉ [s, c]) (z0 : 0 ∈ counts) (h4 : ∀ x ∈ counts, x ≤ 2) (h5 : counts.length ≤ 10) :
    MI.W ((Tab (k + 5)).f .l_end [.ref s, .tup [.int many, .ref cs], .int pl, .ref e] m) (fun d m' => EndIs pl many counts evs d ∧ Aft m s c n m') E0 := by
  have e1 : (Tab (k + 5)).f .l_end = f_l_end (Tab (k + 4)) := rfl
  rw [e1]
  unfold f_l_end
  rw [b_ed]
  have sz : ∀ n, n ≤ 3000 → n ≤ sizeLine := fun n h => szl h
  have s2 : 2 ≤ sizeLine := sz 2 (by omega)
  simp [startM, W_asgT, nCons, nName, nNil, he]
  refine ⟨by omega, ?_⟩
  refine W_pureN id (nevB evs) trivial (fun d hd => ⟨?_, fun _ => rfl⟩) (by rw [rng_len]; omega) (fun l6 hl6 => ?_)
  · obtain ⟨i, hi, rfl⟩ := rng_mem hd
    refine W_eq ?_
    simp [wipeM, he, ev_at hi, nevB, evB]
  · have k0 : Kp [] m (m ++ [.lst l6]) := Kp.app
    have g6 : (m ++ [MO.lst l6])[m.length]? = some (.lst l6) := by simp
    have n6 : m.length ∉ [s, c] := a.new (Nat.le_refl _)
    have m6 : ∀ d ∈ l6, ∃ j : Nat, d = .int j ∧ j < evs.length ∧ evs.getD j false = false := by
      intro d hd
      rw [hl6, List.map_id, List.mem_filter] at hd
      obtain ⟨j, hj, rfl⟩ := rng_mem hd.1
      refine ⟨j, rfl, hj, ?_⟩
      have := hd.2
      simp [nevB, evB] at this
      simpa using this
    have l6l : l6.length ≤ 100 := by
      rw [hl6, List.length_map]
      have := List.length_filter_le (nevB evs) (rngL 0 evs.length)
      rw [rng_len] at this
      omega
    generalize (m ++ [MO.lst l6]) = m1 at k0 g6
    have k1 : Kp [s, c] m m1 := kps k0
    refine (opd_ok (k := k) (pl := pl) (many := many) (evs := evs) (n := n + 9) ((a.any k0).less (by omega)) (k1.get he es) h1 h2 h3 es).mono ?_
    rintro v m2 ⟨ho, A2⟩
    have k2 := k1.trans A2.kp
    have g62 := A2.kp.get g6 n6
    have k3 : Kp [s, c] m (m2 ++ [.lst []]) := k2.trans Kp.app
    have g63 : (m2 ++ [MO.lst []])[m.length]? = some (.lst l6) := (Kp.app (S := [])).get g62 (by simp)
    have b3 : Bud (m2 ++ [.lst []]) s c (n + 9) := A2.bud.any Kp.app
    have val : OutIs pl many evs (.tup [.str "value", v]) := .inl ⟨v, rfl, ho⟩
    simp [s2, gNeE, lstOf, g63]
    have fin1 : ∀ (o : MV) (m' : Mem), OutIs pl many evs o → Bud m' s c (n + 4) → Kp [s, c] m m' → MI.W (edR (Tab (k + 4)) [some (.ref s), some (.tup [.int many, .ref cs]), some (.int pl), some (.ref e), some (.int many), some (.ref cs), some (.ref m.length), some o, none, none, none] m')
        (fin (fun d m' => EndIs pl many counts evs d ∧ Aft m s c n m') E0) E0 := fun o m' ho' b' k' =>
      edR_ok b' (k'.get he es) (k'.get hc cc) h1 h2 h3 es cc z0 h4 h5 ho' (fun d m'' Ed A => ⟨Ed, A.trans k'⟩)
    by_cases h0 : l6 = []
    · rw [if_pos h0]
      exact fin1 _ _ val (b3.less (by omega)) k3
    · rw [if_neg h0]
      refine (dr_ok (k := k + 3) (b3.less (n' := n + 8 + 1) (by omega)) (by omega) (by omega)).mono ?_
      rintro d m4 ⟨w, rfl, w0, w1, b4, k4⟩
      have k5 := k3.trans k4
      by_cases hw : w = 0
      · subst hw
        simp
        refine (pick_ok (k := k + 2) (b4.less (n' := n + 7 + 1) (by omega)) (k4.get g63 n6) n6 h0 (by omega)).mono ?_
        rintro d m5 ⟨d1, b5, k6⟩
        obtain ⟨j, rfl, j1, j2⟩ := m6 d d1
        exact fin1 _ _ (.inr ⟨j, rfl, j1, j2⟩) (b5.less (by omega)) (k5.trans k6)
      · simp [hw]
        exact fin1 _ _ val (b4.less (by omega)) k5
end K51
set_option maxHeartbeats 4000000
namespace K51
open PySem L2 MI
/-- an event's word, and how many operands it has -/
def WordN (w : Str) (n : Nat) : Prop := (nameB (.str w) = true ∧ n ≤ 3) ∨ (nameB (.str w) = false ∧ w ∈ signs ∧ n = 2)
/-- a tree, f levels of tests and events deep at most, behind events of which it is known whether they raised nothing -/
inductive Tr (pl many : Nat) (counts : List Nat) : Nat → List Bool → MV → Prop
  | fin {f : Nat} {evs : List Bool} {d : MV} : EndIs pl many counts evs d → Tr pl many counts f evs d
  | test {f : Nat} {evs : List Bool} {o x y z : MV} : o ∈ objL pl many evs → Tr pl many counts f evs x → Tr pl many counts f evs y → Tr pl many counts f evs z → Tr pl many counts (f + 1) evs (.tup [.str "test", o, .tup [x, y, z]])
  | ask {f : Nat} {evs : List Bool} {w : Str} {ops : List MV} {x y : MV} : evs.length < 6 → WordN w ops.length → (∀ o ∈ ops, Opd pl many evs o) → Tr pl many counts f (evs ++ [true]) x → Tr pl many counts f (evs ++ [false]) y → Tr pl many counts (f + 1) evs (.tup [.str "ask", .str w, .tup ops, .tup [x, y]])
@[irreducible] noncomputable def trT (ck : Tabl) : MS := (mRet (mTup (mCons (mC (.str "test")) (mCons (mVar 6) (mCons (mCall gTuple (mCons (mLc (mRng (mCons (mC (.int 3)) mNil)) (ngName 12) mYes (mCall (ck.f .l_tree) (mCons (mVar 0) (mCons (mVar 1) (mCons (mVar 2) (mCons (mVar 3) (mCons (mBin gSub (mVar 4) (mC (.int 1))) mNil)))))) [12]) mNil)) mNil)))))
@[irreducible] noncomputable def trA (ck : Tabl) : MS := (mSeq (mAsg (mCall (ck.f .l_pick) (mCons (mVar 0) (mCons (mLst (mCons (mTup (mCons (mC (.str "f")) (mCons (mC (.int 0)) mNil))) (mCons (mTup (mCons (mC (.str "g")) (mCons (mC (.int 1)) mNil))) (mCons (mTup (mCons (mC (.str "name")) (mCons (mC (.int 2)) mNil))) (mCons (mTup (mCons (mC (.str "<")) (mCons (mC (.int 2)) mNil))) (mCons (mTup (mCons (mC (.str "!=")) (mCons (mC (.int 2)) mNil))) (mCons (mTup (mCons (mC (.str "h")) (mCons (mC (.int 3)) mNil))) mNil))))))) mNil))) (nTup 2 (nCons (nName 7) (nCons (nName 8) nNil))))
    (mSeq (mAsg (mCall gTuple (mCons (mLc (mRng (mCons (mVar 8) mNil)) (ngName 12) mYes (mCall (ck.f .l_operand) (mCons (mVar 0) (mCons (mVar 2) (mCons (mBin gItem (mVar 1) (mC (.int 0))) (mCons (mVar 3) mNil))))) [12]) mNil)) (nName 9))
    (mSeq (mAsg (mLc (mAnyI (mLst (mCons (mC (.bl true)) (mCons (mC (.bl false)) mNil)))) (ngName 11) mYes (mCall (ck.f .l_tree) (mCons (mVar 0) (mCons (mVar 1) (mCons (mVar 2) (mCons (mBin gAdd (mVar 3) (mLst (mCons (mVar 11) mNil))) (mCons (mBin gSub (mVar 4) (mC (.int 1))) mNil)))))) [11]) (nName 10))
    (mRet (mTup (mCons (mC (.str "ask")) (mCons (mVar 7) (mCons (mVar 9) (mCons (mCall gTuple (mCons (mVar 10) mNil)) mNil)))))))))
theorem b_tr (ck : Tabl) : b_l_tree ck = (mSeq (mAsg (mCall (ck.f .l_draw) (mCons (mVar 0) (mCons (mC (.int 4)) mNil))) (nName 5))
    (mSeq (mAsg (mCall (ck.f .l_object) (mCons (mVar 0) (mCons (mVar 2) (mCons (mBin gItem (mVar 1) (mC (.int 0))) (mCons (mVar 3) mNil))))) (nName 6))
    (mSeq (mIfS (mOrT (mB (mBin (gEqA false) (mVar 4) (mC (.int 0)))) (mB (mBin (gEqA false) (mVar 5) (mC (.int 0)))))
    (mRet (mCall (ck.f .l_end) (mCons (mVar 0) (mCons (mVar 1) (mCons (mVar 2) (mCons (mVar 3) mNil))))))
    mSkip)
    (mSeq (mIfS (mAndT (mB (mBin (gEqA false) (mVar 5) (mC (.int 1)))) (mB (mBin gNotN (mVar 6) (mC .non))))
    (trT ck)
    mSkip)
    (trA ck))))) := by unfold trT trA; rfl
def bT : Nat → Nat
  | 0 => 30
  | f + 1 => 30 + 3 * bT f
/-- what the drawing of trees of that depth does -/
def TreeDr (pl many : Nat) (counts : List Nat) (s c cs : Nat) (f k : Nat) : Prop := ∀ (m : Mem) (n e : Nat) (evs : List Bool), Bud m s c (n + bT f) → m[e]? = some (.lst (evs.map .bl)) → m[cs]? = some (.lst (counts.map fun (x : Nat) => .int x)) → evs.length + f ≤ 6 → e ∉ [s, c] →
  MI.W ((Tab (k + 6 + f)).f .l_tree [.ref s, .tup [.int many, .ref cs], .int pl, .ref e, .int f] m) (fun d m' => Tr pl many counts f evs d ∧ Aft m s c n m') E0
section
variable {k f n : Nat} {m : Mem} {s c e cs pl many : Nat} {evs : List Bool} {counts : List Nat} {Q : Fl → Mem → Prop} {E : Exn → Mem → Prop}
theorem trT_ok {o x5 x7 x8 x9 x10 x11 x12 : MV} {y7 y8 y9 y10 y11 y12 : Option MV} (ih : TreeDr pl many counts s c cs f k) (a : Bud m s c (n + 3 * bT f)) (he : m[e]? = some (.lst (evs.map .bl))) (hc : m[cs]? = some (.lst (counts.map fun (x : Nat) => .int x))) (h3 : evs.length + f ≤ 6) (es : e ∉ [s, c]) (cc : cs ∉ [s, c])
    (ho : o ∈ objL pl many evs) (q : ∀ d m', Tr pl many counts (f + 1) evs d → Aft m s c n m' → Q (.rt d) m') :
    MI.W (trT (Tab (k + 6 + f)) [some (.ref s), some (.tup [.int many, .ref cs]), some (.int pl), some (.ref e), some (.int ((f + 1 : Nat) : Int)), some x5, some o, y7, y8, y9, y10, y11, y12] m) Q E := by
  unfold trT
  have sz : ∀ n, n ≤ 3000 → n ≤ sizeLine := fun n h => szl h
  have s3 : 3 ≤ sizeLine := sz 3 (by omega)
  have ef : ((f : Int) + 1 - 1) = f := by omega
  simp
  refine lc_dr (P := fun _ y => Tr pl many counts f evs y) (s := s) (c := c) (n := n) (B := bT f) (fun _ _ => trivial) (a.less (by simp [rng_len]; omega)) (fun d hd m' n' b' k' => ?_) (by simp [rng_len]) fun acc m' l1 l2 A => ?_
  · simp [wipeM, ef]
    exact ih m' n' e evs b' (k'.get he es) (k'.get hc cc) h3 es
  · obtain ⟨x, y, z, rfl⟩ := len3 (r := acc) (by rw [l1]; simp [rng_len])
    simp [s3]
    refine q _ _ (.test ho (l2 0 _ x (List.getElem?_eq_getElem (by simp [rng_len])) rfl) (l2 1 _ y (List.getElem?_eq_getElem (by simp [rng_len])) rfl) (l2 2 _ z (List.getElem?_eq_getElem (by simp [rng_len])) rfl)) ⟨A.bud.any Kp.app, A.kp.trans Kp.app⟩
theorem wd_all : ∀ d ∈ [MV.tup [.str "f", .int 0], .tup [.str "g", .int 1], .tup [.str "name", .int 2], .tup [.str "<", .int 2], .tup [.str "!=", .int 2], .tup [.str "h", .int 3]], ∃ (w : Str) (j : Nat), d = .tup [.str w, .int j] ∧ WordN w j ∧ j ≤ 3 := by
  intro d hd
  simp only [List.mem_cons, List.mem_nil_iff, or_false] at hd
  rcases hd with rfl | rfl | rfl | rfl | rfl | rfl
  · exact ⟨"f", 0, rfl, .inl ⟨by decide +kernel, by omega⟩, by omega⟩
  · exact ⟨"g", 1, rfl, .inl ⟨by decide +kernel, by omega⟩, by omega⟩
  · exact ⟨"name", 2, rfl, .inl ⟨by decide +kernel, by omega⟩, by omega⟩
  · exact ⟨"<", 2, rfl, .inr ⟨by decide +kernel, by decide +kernel, rfl⟩, by omega⟩
  · exact ⟨"!=", 2, rfl, .inr ⟨by decide +kernel, by decide +kernel, rfl⟩, by omega⟩
  · exact ⟨"h", 3, rfl, .inl ⟨by decide +kernel, by omega⟩, by omega⟩
theorem trA_ok {x5 o : MV} {y7 y8 y9 y10 y11 y12 : Option MV} (ih : TreeDr pl many counts s c cs f k) (a : Bud m s c (n + 20 + 2 * bT f)) (he : m[e]? = some (.lst (evs.map .bl))) (hc : m[cs]? = some (.lst (counts.map fun (x : Nat) => .int x))) (h1 : pl ≤ 100) (h2 : many ≤ 100) (h3 : evs.length + 1 + f ≤ 6) (es : e ∉ [s, c]) (cc : cs ∉ [s, c])
    (q : ∀ d m', Tr pl many counts (f + 1) evs d → Aft m s c n m' → Q (.rt d) m') :
    MI.W (trA (Tab (k + 6 + f)) [some (.ref s), some (.tup [.int many, .ref cs]), some (.int pl), some (.ref e), some (.int ((f + 1 : Nat) : Int)), some x5, some o, y7, y8, y9, y10, y11, y12] m) Q E := by
  unfold trA
  have sz : ∀ n, n ≤ 3000 → n ≤ sizeLine := fun n h => szl h
  have s2 : 2 ≤ sizeLine := sz 2 (by omega)
  have s6 : 6 ≤ sizeLine := sz 6 (by omega)
  have ef : ((f : Int) + 1 - 1) = f := by omega
  obtain ⟨g, hg⟩ : ∃ g, k + 6 + f = g + 4 := ⟨k + 2 + f, by omega⟩
  simp [s2, s6, W_asgT, nCons, nName, nNil]
  refine MI.W.mono (Q' := fun d m' => d ∈ [MV.tup [.str "f", .int 0], .tup [.str "g", .int 1], .tup [.str "name", .int 2], .tup [.str "<", .int 2], .tup [.str "!=", .int 2], .tup [.str "h", .int 3]] ∧ Bud m' s c (n + 19 + 2 * bT f) ∧ Kp [s, c] m m') (E' := E0) ?_ ?_ (fun x m' h => h.elim)
  · rw [hg]
    have k0 : Kp [] m (m ++ [MO.lst [MV.tup [.str "f", .int 0], .tup [.str "g", .int 1], .tup [.str "name", .int 2], .tup [.str "<", .int 2], .tup [.str "!=", .int 2], .tup [.str "h", .int 3]]]) := Kp.app
    refine (pick_ok (k := g + 2) (n := n + 19 + 2 * bT f) ((a.any k0).less (by omega)) (l := [MV.tup [.str "f", .int 0], .tup [.str "g", .int 1], .tup [.str "name", .int 2], .tup [.str "<", .int 2], .tup [.str "!=", .int 2], .tup [.str "h", .int 3]]) (by simp) (a.new (Nat.le_refl _)) (by simp) (by simp)).mono ?_
    rintro d m' ⟨d1, b1, k1⟩
    exact ⟨d1, b1, (kps k0).trans k1⟩
  rintro d m1 ⟨d1, b1, k1⟩
  obtain ⟨w, j, rfl, hw, hj⟩ := wd_all d d1
  simp
  refine ⟨by omega, ?_⟩
  refine lc_dr (P := fun _ y => Opd pl many evs y) (s := s) (c := c) (n := n + 9 + 2 * bT f) (B := 3) (fun _ _ => trivial) (b1.less (by simp [rng_len]; omega)) (fun d hd m' n' b' k' => ?_) (by simp [rng_len]; omega) fun acc m2 l1 l2 A2 => ?_
  · simp [wipeM]
    rw [hg]
    refine (opd_ok (k := g) b' ((k1.trans k').get he es) h1 h2 (by omega) es).mono ?_
    rintro y m4 ⟨hy, A4⟩
    exact ⟨hy, A4⟩
  · have l1' : acc.length = j := by rw [l1]; simp [rng_len]
    have ops : ∀ o ∈ acc, Opd pl many evs o := fun y hy => by
      obtain ⟨i, hi⟩ := List.mem_iff_getElem?.mp hy
      have hi2 : i < (rngL 0 j).length := by rw [rng_len, ← l1']; exact (List.getElem?_eq_some_iff.mp hi).1
      exact l2 i _ y (List.getElem?_eq_getElem (by simpa using hi2)) hi
    have k2 : Kp [s, c] m m2 := k1.trans A2.kp
    have k3 : Kp [] m2 (m2 ++ [MO.lst acc, MO.lst [.bl true, .bl false]]) := Kp.app
    have g3 : (m2 ++ [MO.lst acc, MO.lst [.bl true, .bl false]])[m2.length + 1]? = some (.lst [.bl true, .bl false]) := by simp
    have k4 : Kp [s, c] m (m2 ++ [MO.lst acc, MO.lst [.bl true, .bl false]]) := k2.trans (kps k3)
    have n3 : m2.length + 1 ∉ [s, c] := A2.bud.new (by omega)
    have b3 := A2.bud.any k3
    generalize (m2 ++ [MO.lst acc, MO.lst [.bl true, .bl false]]) = m3 at g3 k4 b3
    refine lc_dr (P := fun d y => ∃ b, d = .bl b ∧ Tr pl many counts f (evs ++ [b]) y) (s := s) (c := c) (n := n) (B := bT f) (fun m' k' => by rw [k'.get g3 n3]) (b3.less (by simp; omega)) (fun d hd m' n' b' k' => ?_) (by simp) fun ac m' t1 t2 A => ?_
    · obtain ⟨b, rfl⟩ : ∃ b, d = .bl b := by
        simp at hd
        rcases hd with rfl | rfl
        · exact ⟨_, rfl⟩
        · exact ⟨_, rfl⟩
      have he' : m'[e]? = some (.lst (evs.map .bl)) := (k4.trans k').get he es
      have he2 : (m' ++ [MO.lst [.bl b]])[e]? = some (.lst (evs.map .bl)) := (Kp.app (S := [])).get he' (by simp)
      have se : evs.length + 1 ≤ sizeLine := sz _ (by omega)
      simp [wipeM, ef, gAdd, mutOf, he2, se, MI.alloc, sz 1 (by omega)]
      have k5 : Kp [] m' (m' ++ [MO.lst [.bl b], MO.lst (evs.map .bl ++ [.bl b])]) := Kp.app
      have g5 : (m' ++ [MO.lst [.bl b], MO.lst (evs.map .bl ++ [.bl b])])[m'.length + 1]? = some (.lst ((evs ++ [b]).map .bl)) := by simp
      refine (ih _ n' (m'.length + 1) (evs ++ [b]) (b'.any k5) g5 (((k4.trans k').trans (kps k5)).get hc cc) (by simp; omega) (b'.new (by omega))).mono ?_
      rintro y m6 ⟨hy, A6⟩
      exact ⟨hy, A6.trans (kps k5)⟩
    · obtain ⟨x, y, rfl⟩ := len2 (r := ac) (by rw [t1]; rfl)
      obtain ⟨b1', e1, q1⟩ := t2 0 _ x rfl rfl
      obtain ⟨b2', e2, q2⟩ := t2 1 _ y rfl rfl
      cases e1
      cases e2
      refine ⟨sz 4 (by omega), q _ _ (.ask (by omega) (by rw [l1']; exact hw) ops q1 q2) ⟨A.bud.any Kp.app, (k4.trans A.kp).trans Kp.app⟩⟩
end
theorem tree_z {T : Tabl} {m : Mem} {n e cs many pl : Nat} {s c : Nat} {evs : List Bool} {counts : List Nat} (a : Bud m s c (n + 30)) (he : m[e]? = some (.lst (evs.map .bl))) (hc : m[cs]? = some (.lst (counts.map fun (x : Nat) => .int x))) (es : e ∉ [s, c]) (cc : cs ∉ [s, c])
    (drw : ∀ {m : Mem} {n : Nat} {lim : Int}, Bud m s c (n + 1) → 0 < lim → lim < 2 ^ 60 → MI.W (T.f .l_draw [.ref s, .int lim] m) (fun d m' => ∃ v : Int, d = .int v ∧ 0 ≤ v ∧ v < lim ∧ Bud m' s c n ∧ Kp [s, c] m m') E0)
    (obw : ∀ {m : Mem} {n : Nat}, Bud m s c (n + 1) → m[e]? = some (.lst (evs.map .bl)) → MI.W (T.f .l_object [.ref s, .int pl, .int many, .ref e] m) (fun d m' => ((objL pl many evs = [] ∧ d = .non) ∨ d ∈ objL pl many evs) ∧ Aft m s c n m') E0)
    (edw : ∀ {m : Mem} {n : Nat}, Bud m s c (n + 12) → m[e]? = some (.lst (evs.map .bl)) → m[cs]? = some (.lst (counts.map fun (x : Nat) => .int x)) → MI.W (T.f .l_end [.ref s, .tup [.int many, .ref cs], .int pl, .ref e] m) (fun d m' => EndIs pl many counts evs d ∧ Aft m s c n m') E0)
    {Q : MV → Mem → Prop} (q : ∀ d m', EndIs pl many counts evs d → Aft m s c n m' → Q d m') : MI.W (endOf (b_l_tree T (startM 13 [.ref s, .tup [.int many, .ref cs], .int pl, .ref e, .int 0]) m)) Q E0 := by
  rw [b_tr]
  simp [startM]
  refine (drw (n := n + 29) (a.less (by omega)) (by omega) (by omega)).mono ?_
  rintro d m1 ⟨v, rfl, v0, v1, b1, k1⟩
  refine (obw (n := n + 28) (b1.less (by omega)) (k1.get he es)).mono ?_
  rintro d m2 ⟨hd, A2⟩
  have k2 := k1.trans A2.kp
  refine (edw (n := n) (A2.bud.less (by omega)) (k2.get he es) (k2.get hc cc)).mono ?_
  rintro d m3 ⟨hd, A3⟩
  exact q _ _ hd (A3.trans k2)
theorem tree_0 {k pl many : Nat} {s c cs : Nat} {counts : List Nat} (h1 : pl ≤ 100) (h2 : many ≤ 100) (cc : cs ∉ [s, c]) (z0 : 0 ∈ counts) (h4 : ∀ x ∈ counts, x ≤ 2) (h5 : counts.length ≤ 10) : TreeDr pl many counts s c cs 0 k :=
  fun m n e evs a he hc h3 es => tree_z (T := Tab (k + 5)) a he hc es cc (dr_ok (k := k + 4)) (fun a he => ob_ok (k := k + 2) a he h1 h2 (by omega)) (fun a he hc => endd_ok (k := k) a he hc h1 h2 (by omega) es cc z0 h4 h5) fun d m' hd A => ⟨.fin hd, A⟩
theorem tree_s {k pl many : Nat} {s c cs : Nat} {counts : List Nat} (h1 : pl ≤ 100) (h2 : many ≤ 100) (cc : cs ∉ [s, c]) (z0 : 0 ∈ counts) (h4 : ∀ x ∈ counts, x ≤ 2) (h5 : counts.length ≤ 10) {f : Nat} (ih : TreeDr pl many counts s c cs f k) : TreeDr pl many counts s c cs (f + 1) k := by
  intro m n e evs a he hc h3 es
  have e1 : (Tab (k + 6 + (f + 1))).f .l_tree = f_l_tree (Tab (k + 6 + f)) := rfl
  rw [e1]
  obtain ⟨g, hg⟩ : ∃ g, k + 6 + f = g + 5 := ⟨k + 1 + f, by omega⟩
  have ef : ¬ (((f : Int) + 1) = 0) := by omega
  have drw : ∀ {m : Mem} {n : Nat} {lim : Int}, Bud m s c (n + 1) → 0 < lim → lim < 2 ^ 60 → MI.W ((Tab (k + 6 + f)).f .l_draw [.ref s, .int lim] m) (fun d m' => ∃ v : Int, d = .int v ∧ 0 ≤ v ∧ v < lim ∧ Bud m' s c n ∧ Kp [s, c] m m') E0 := by rw [hg]; exact dr_ok
  have obw : ∀ {m : Mem} {n : Nat}, Bud m s c (n + 1) → m[e]? = some (.lst (evs.map .bl)) → MI.W ((Tab (k + 6 + f)).f .l_object [.ref s, .int pl, .int many, .ref e] m) (fun d m' => ((objL pl many evs = [] ∧ d = .non) ∨ d ∈ objL pl many evs) ∧ Aft m s c n m') E0 := fun a he => by rw [hg]; exact ob_ok a he h1 h2 (by omega)
  have edw : ∀ {m : Mem} {n : Nat}, Bud m s c (n + 12) → m[e]? = some (.lst (evs.map .bl)) → m[cs]? = some (.lst (counts.map fun (x : Nat) => .int x)) → MI.W ((Tab (k + 6 + f)).f .l_end [.ref s, .tup [.int many, .ref cs], .int pl, .ref e] m) (fun d m' => EndIs pl many counts evs d ∧ Aft m s c n m') E0 := fun a he hc => by rw [hg]; exact endd_ok a he hc h1 h2 (by omega) es cc z0 h4 h5
  unfold f_l_tree
  rw [b_tr]
  simp [startM]
  have hb : bT (f + 1) = 30 + 3 * bT f := rfl
  refine (drw (n := n + 29 + 3 * bT f) (a.less (by omega)) (by omega) (by omega)).mono ?_
  rintro d m1 ⟨v, rfl, v0, v1, b1, k1⟩
  simp
  refine (obw (n := n + 28 + 3 * bT f) (b1.less (by omega)) (k1.get he es)).mono ?_
  rintro d m2 ⟨hd, A2⟩
  have k2 := k1.trans A2.kp
  have he2 := k2.get he es
  have hc2 := k2.get hc cc
  simp [ef]
  by_cases hv : v = 0
  · subst hv
    simp
    refine (edw (n := n) (A2.bud.less (by omega)) he2 hc2).mono ?_
    rintro d m3 ⟨hd, A3⟩
    exact ⟨.fin hd, A3.trans k2⟩
  · simp [hv]
    by_cases h1' : v = 1
    · subst h1'
      rcases hd with ⟨_, rfl⟩ | hd
      · simp
        exact trA_ok (k := k) ih (A2.bud.less (by omega)) he2 hc2 h1 h2 (by omega) es cc fun d m' t A => ⟨t, A.trans k2⟩
      · have hn : ∃ l, d = .tup l := by
          rcases obj_mem hd with ⟨i, h1, rfl⟩ | ⟨i, h1, rfl⟩ | ⟨i, h1, h2, rfl⟩ <;> exact ⟨_, rfl⟩
        obtain ⟨l, rfl⟩ := hn
        simp
        exact trT_ok (k := k) (x7 := .non) (x8 := .non) (x9 := .non) (x10 := .non) (x11 := .non) (x12 := .non) ih (A2.bud.less (by omega)) he2 hc2 (by omega) es cc hd fun d m' t A => ⟨t, A.trans k2⟩
    · simp [h1']
      exact trA_ok (k := k) ih (A2.bud.less (by omega)) he2 hc2 h1 h2 (by omega) es cc fun d m' t A => ⟨t, A.trans k2⟩
theorem tree_dr {k pl many : Nat} {s c cs : Nat} {counts : List Nat} (h1 : pl ≤ 100) (h2 : many ≤ 100) (cc : cs ∉ [s, c]) (z0 : 0 ∈ counts) (h4 : ∀ x ∈ counts, x ≤ 2) (h5 : counts.length ≤ 10) : ∀ f, TreeDr pl many counts s c cs f k
  | 0 => tree_0 h1 h2 cc z0 h4 h5
  | f + 1 => tree_s h1 h2 cc z0 h4 h5 (tree_dr h1 h2 cc z0 h4 h5 f)
end K51
set_option maxHeartbeats 4000000
namespace K51
open PySem L2 MI
theorem allO_true {f : MV → Option Bool} : ∀ {l : List MV}, (∀ d ∈ l, f d = some true) → allO f l = some true
  | [], _ => rfl
  | d :: l, h => by
    unfold allO
    rw [h d List.mem_cons_self, allO_true fun x hx => h x (List.mem_cons_of_mem _ hx)]
    rfl
theorem hapO_len {evs : List Bool} : (hapO evs).length = evs.length := by simp [hapO]
theorem hapO_app {evs : List Bool} {b : Bool} : hapO (evs ++ [b]) = hapO evs ++ [!b] := by simp [hapO]
theorem t_ne1 : ¬ (("test" : Str) = "end") := by decide
theorem t_ne2 : ¬ (("ask" : Str) = "end") := by decide
theorem t_ne3 : ¬ (("ask" : Str) = "test") := by decide
theorem out_B {pl many : Nat} {counts : List Nat} {evs : List Bool} {o : MV} (h : OutIs pl many evs o) : outB ⟨many, counts, pl⟩ (hapO evs) o = some true := by
  rcases h with ⟨v, rfl, h⟩ | ⟨j, rfl, h1, h2⟩
  · have e := opd_B (sts := counts) h
    unfold outB
    simp only [show ¬ (("value" : Str) = "failed") by decide, if_false, if_true]
    exact e
  · unfold outB
    simp only [if_true]
    have e1 : hapB (hapO evs) (.int j) = true := by
      show (hapO evs).getD ((j : Int)).toNat false = true
      rw [Int.toNat_natCast, hap_get h1, h2]
      rfl
    rw [e1, hapO_len]
    simp [numB, h1]
theorem out_pu {pl many : Nat} {evs : List Bool} {o : MV} (h : OutIs pl many evs o) : Pu o = true := by
  rcases h with ⟨v, rfl, h⟩ | ⟨j, rfl, h1, h2⟩
  · have := opd_pu h
    simp [Pu, Pus, this]
    decide
  · simp [Pu, Pus]
    decide
theorem end_pu {pl many : Nat} {counts : List Nat} {evs : List Bool} {d : MV} (h4 : ∀ x ∈ counts, x ≤ 8) (h : EndIs pl many counts evs d) : Pu d = true := by
  obtain ⟨o, num, hold, rfl, h1, h2, h3, h5⟩ := h.ex
  have a := out_pu h5
  have b : Pus hold = true := Pus.of fun x hx => obj_pu (h3 x hx)
  have c : hold.length ≤ 3000 := by
    have : counts.getD num 0 ≤ 8 := by
      rw [List.getD_eq_getElem?_getD, List.getElem?_eq_getElem h1]
      exact h4 _ (List.getElem_mem h1)
    omega
  have d1 : Pu (.tup hold) = true := by
    unfold Pu
    simp only [b, c, decide_true, Bool.true_and, Bool.and_true]
    have : ∀ w x y z, hold ≠ [.str w, x, y, z] := fun w x y z e => by
      have := h3 (.str w) (by rw [e]; simp)
      rcases obj_mem this with ⟨i, _, h⟩ | ⟨i, _, h⟩ | ⟨i, _, _, h⟩ <;> cases h
    split
    · rename_i w x y z
      exact absurd rfl (this _ _ _ _)
    · rfl
  unfold Pu Pus Pus Pus Pus Pus
  rw [a, d1]
  simp [Pu, show ¬ (("end" : Str) = "ask") by decide]
  decide
theorem Tr.good {pl many : Nat} {counts : List Nat} (h4 : ∀ x ∈ counts, x ≤ 8) {f : Nat} {evs : List Bool} {d : MV} (h : Tr pl many counts f evs d) : ∀ g lv, f < g → lv + f ≤ 30 → treeB ⟨many, counts, pl⟩ g (hapO evs) lv d = some true := by
  induction h with
  | @fin f evs d h =>
    intro g lv hg hl
    obtain ⟨o, num, hold, rfl, h1, h2, h3, h5⟩ := h.ex
    obtain ⟨g', rfl⟩ : ∃ g', g = g' + 1 := ⟨g - 1, by omega⟩
    unfold treeB
    rw [if_neg (by omega)]
    simp only [List.length_cons, List.length_nil, and_self, if_true, true_and]
    unfold endB
    rw [out_B (counts := counts) h5]
    have n1 : numB (.int num) counts.length = true := by simp [numB, h1]
    simp only [n1, if_true, Int.toNat_natCast]
    rw [if_pos (by rw [h2])]
    exact allO_true fun x hx => obj_B (h3 x hx)
  | @test f evs o x y z ho hx hy hz ix iy iz =>
    intro g lv hg hl
    obtain ⟨g', rfl⟩ : ∃ g', g = g' + 1 := ⟨g - 1, by omega⟩
    unfold treeB
    rw [if_neg (by omega)]
    simp only [List.length_cons, List.length_nil, t_ne1, false_and, and_self, if_false, if_true, true_and]
    rw [obj_B (sts := counts) ho, ix g' (lv + 1) (by omega) (by omega), iy g' (lv + 1) (by omega) (by omega), iz g' (lv + 1) (by omega) (by omega)]
    rfl
  | @ask f evs w ops x y he hw ho hx hy ix iy =>
    intro g lv hg hl
    obtain ⟨g', rfl⟩ : ∃ g', g = g' + 1 := ⟨g - 1, by omega⟩
    unfold treeB
    rw [if_neg (by omega)]
    simp only [List.length_cons, List.length_nil, t_ne2, t_ne3, false_and, and_self, if_false, if_true, true_and]
    rw [if_neg (by rw [hapO_len]; omega)]
    have e1 := ix g' (lv + 1) (by omega) (by omega) 
    have e2 := iy g' (lv + 1) (by omega) (by omega) 
    rw [hapO_app] at e1 e2
    have e1 : treeB ⟨many, counts, pl⟩ g' (hapO evs ++ [false]) (lv + 1) x = some true := e1
    have e2 : treeB ⟨many, counts, pl⟩ g' (hapO evs ++ [true]) (lv + 1) y = some true := e2
    have e3 : opsB ⟨many, counts, pl⟩ (hapO evs) (.str w) (.tup ops) = some true := by
      unfold opsB
      simp only
      rw [allO_true fun o h => opd_B (ho o h)]
      rcases hw with ⟨a, b⟩ | ⟨a, b, c⟩
      · simp only [a, if_true]
        rw [decide_eq_true b]
      · simp only [a, Bool.false_eq_true, if_false, sgB]
        rw [decide_eq_true b, decide_eq_true c]
        rfl
    rw [e3]
    show andO (some true) (andO (treeB _ g' (hapO evs ++ [false]) (lv + 1) x) (treeB _ g' (hapO evs ++ [true]) (lv + 1) y)) = _
    rw [e1, e2]
    rfl
theorem Tr.pu {pl many : Nat} {counts : List Nat} (h4 : ∀ x ∈ counts, x ≤ 8) {f : Nat} {evs : List Bool} {d : MV} (h : Tr pl many counts f evs d) : Pu d = true := by
  induction h with
  | fin h => exact end_pu h4 h
  | @test f evs o x y z ho hx hy hz ix iy iz =>
    have a := obj_pu ho
    unfold Pu Pus Pus Pus Pus
    rw [a]
    have : Pu (.tup [x, y, z]) = true := by
      simp [Pu, Pus, ix, iy, iz]
    rw [this]
    simp [Pu]
    decide
  | @ask f evs w ops x y he hw ho hx hy ix iy =>
    have b : Pus ops = true := Pus.of fun x hx => opd_pu (ho x hx)
    have wl : w.length ≤ 1000 := by
      rcases hw with ⟨a, _⟩ | ⟨_, a, _⟩
      · simp [nameB] at a
        have := a.2.1
        omega
      · have : ∀ w ∈ signs, w.length ≤ 1000 := by decide
        exact this w a
    have ol : ops.length ≤ 3 := by
      rcases hw with ⟨_, a⟩ | ⟨_, _, a⟩ <;> omega
    have d1 : Pu (.tup ops) = true := by
      unfold Pu
      simp only [b, show ops.length ≤ 3000 by omega, decide_true, Bool.true_and, Bool.and_true]
      split
      · rename_i w x y z
        simp at ol
      · rfl
    unfold Pu Pus Pus Pus Pus Pus
    rw [d1]
    simp [Pu, Pus, ix, iy, wl]
    decide
end K51
set_option maxHeartbeats 4000000
namespace K51
open PySem L2 MI
/-- a machine, but for where it begins -/
structure Mach where
  ps : List Str
  bg : Nat
  cnt : List Nat
  tr : List MV
def stsV (cnt : List Nat) (tr : List MV) : List MV := List.zipWith (fun (c : Nat) t => .tup [.int c, t]) cnt tr
def Mach.v (M : Mach) : MV := .tup [.tup (M.ps.map .str), .int M.bg, .tup (stsV M.cnt M.tr)]
structure Mach.Ok (M : Mach) : Prop where
  ps : parB (M.ps.map .str) = some true
  p2 : M.ps.length ≤ 2
  len : M.tr.length = M.cnt.length
  n1 : 1 ≤ M.cnt.length
  n2 : M.cnt.length ≤ 2000
  cnts : ∀ x ∈ M.cnt, x ≤ 8
  bg : M.bg < M.cnt.length
  tree : ∀ (i c : Nat) (t : MV), M.cnt[i]? = some c → M.tr[i]? = some t → ∃ f, f ≤ 29 ∧ Tr c M.ps.length M.cnt f [] t
theorem stsV_len {cnt : List Nat} {tr : List MV} (h : tr.length = cnt.length) : (stsV cnt tr).length = cnt.length := by simp [stsV, h]
theorem stsOf_V : ∀ {cnt : List Nat} {tr : List MV}, tr.length = cnt.length → statesOf (stsV cnt tr) = cnt
  | [], [], _ => rfl
  | c :: cnt, t :: tr, h => by
    show statesOf (.tup [.int c, t] :: stsV cnt tr) = _
    unfold statesOf
    rw [stsOf_V (by simpa using h)]
    simp
theorem stsV_mem : ∀ {cnt : List Nat} {tr : List MV} {d : MV}, d ∈ stsV cnt tr → ∃ (i c : Nat) (t : MV), cnt[i]? = some c ∧ tr[i]? = some t ∧ d = .tup [.int c, t]
  | [], _, _, h => by simp [stsV] at h
  | _ :: _, [], _, h => by simp [stsV] at h
  | c :: cnt, t :: tr, d, h => by
    rcases List.mem_cons.mp (show d ∈ .tup [.int c, t] :: stsV cnt tr from h) with rfl | h
    · exact ⟨0, c, t, rfl, rfl, rfl⟩
    · obtain ⟨i, c', t', h1, h2, h3⟩ := stsV_mem h
      exact ⟨i + 1, c', t', by simpa using h1, by simpa using h2, h3⟩
theorem trees_B {p f : Nat} {sts : List Nat} : ∀ {cnt : List Nat} {tr : List MV}, tr.length = cnt.length → (∀ (i c : Nat) (t : MV), cnt[i]? = some c → tr[i]? = some t → treeB ⟨p, sts, c⟩ f [] 1 t = some true) → treesB p sts f (stsV cnt tr) = some true
  | [], [], _, _ => rfl
  | c :: cnt, t :: tr, hl, h => by
    show treesB p sts f (.tup [.int c, t] :: stsV cnt tr) = _
    unfold treesB
    rw [Int.toNat_natCast, h 0 c t rfl rfl]
    exact trees_B (by simpa using hl) fun i c' t' h1 h2 => h (i + 1) c' t' (by simpa using h1) (by simpa using h2)
theorem Mach.mach {M : Mach} (h : M.Ok) : machB 40 M.v = some (decide (M.cnt.getD M.bg 1 = 0)) := by
  unfold Mach.v machB
  simp only [List.length_map]
  rw [if_pos h.p2, h.ps]
  show stsB 40 M.ps.length (.int M.bg) (.tup (stsV M.cnt M.tr)) = _
  unfold stsB
  have hl := stsV_len h.len
  have ha : (stsV M.cnt M.tr).all stB = true := List.all_eq_true.mpr fun d hd => by
    obtain ⟨i, c, t, h1, h2, rfl⟩ := stsV_mem hd
    have := h.cnts c (List.mem_of_getElem? h1)
    simp [stB, numB]
    omega
  have hb : numB (.int M.bg) (stsV M.cnt M.tr).length = true := by
    have := h.bg
    simp [numB, hl, this]
  simp only [ha, hb, if_true]
  rw [hl, if_pos ⟨h.n1, h.n2⟩, stsOf_V h.len, Int.toNat_natCast]
  by_cases z : M.cnt.getD M.bg 1 = 0
  · rw [if_pos z, decide_eq_true z]
    refine trees_B h.len fun i c t h1 h2 => ?_
    obtain ⟨f, hf, ht⟩ := h.tree i c t h1 h2
    exact ht.good h.cnts 40 1 (by omega) (by omega)
  · rw [if_neg z, decide_eq_false z]
theorem parB_pu {l : List Str} (h : parB (l.map .str) = some true) : ∀ s ∈ l, s.length ≤ 1000 := by
  have nm : ∀ s : Str, nameB (.str s) = true → s.length ≤ 1000 := fun s h => by
    simp [nameB] at h
    have := h.2.1
    omega
  match l, h with
  | [], _ => simp
  | [a], h => 
    intro s hs
    simp at hs
    subst hs
    exact nm _ (by simpa [parB] using h)
  | [a, b], h =>
    intro s hs
    have h : (if nameB (.str b) = true then some (nameB (.str a) && !decide (a = b)) else some false) = some true := h
    by_cases hb : nameB (.str b) = true
    · rw [if_pos hb] at h
      simp at h
      simp at hs
      rcases hs with rfl | rfl
      · exact nm _ h.1
      · exact nm _ hb
    · rw [if_neg hb] at h
      cases h
  | _ :: _ :: _ :: _, h => cases h
theorem pu_tup {l : List MV} (h1 : ∀ d ∈ l, Pu d = true) (h2 : l.length ≤ 3000) (h3 : ∀ w x y z, l ≠ [.str w, x, y, z]) : Pu (.tup l) = true := by
  unfold Pu
  rw [Pus.of h1, decide_eq_true h2]
  simp only [Bool.true_and]
theorem Mach.pu {M : Mach} (h : M.Ok) : Pu M.v = true := by
  have a : Pu (.tup (M.ps.map .str)) = true := pu_tup (fun d hd => by
    obtain ⟨s, hs, rfl⟩ := List.mem_map.mp hd
    have := parB_pu h.ps s hs
    simp [Pu, this]) (by have := h.p2; simp; omega) (fun w x y z e => by
      have := congrArg List.length e
      have := h.p2
      simp at *
      omega)
  have b : Pu (.tup (stsV M.cnt M.tr)) = true := pu_tup (fun d hd => by
    obtain ⟨i, c, t, h1, h2, rfl⟩ := stsV_mem hd
    obtain ⟨f, _, ht⟩ := h.tree i c t h1 h2
    have := ht.pu h.cnts
    exact pu_tup (by simp [this, Pu]) (by simp) (by simp)) (by rw [stsV_len h.len]; have := h.n2; omega) (fun w x y z e => by
      have : MV.str w ∈ stsV M.cnt M.tr := by rw [e]; simp
      obtain ⟨i, c, t, _, _, h3⟩ := stsV_mem this
      cases h3)
  unfold Mach.v
  exact pu_tup (by simp [a, b]; rfl) (by simp) (by simp)
/-- the look at a machine -/
theorem Mach.check {M : Mach} (h : M.Ok) {k : Nat} {m : Mem} : MI.W ((Tab (k + 48)).f .check_machine [M.v] m) (QOk (decide (M.cnt.getD M.bg 1 = 0)) m) (QEx (decide (M.cnt.getD M.bg 1 = 0)) m) := by
  have := mach_ok (f := 40) (k := k) (m := m) (v := M.v) (b := decide (M.cnt.getD M.bg 1 = 0)) (Pu.ty _ (Mach.pu h)) (fun a c x y e => ?_) (Mach.mach h)
  · exact this
  · unfold Mach.v at e
    injection e with e
    injection e with e1 e2
    injection e1 with e1
    cases hp : M.ps with
    | nil => rw [hp] at e1; cases e1
    | cons s r =>
      rw [hp] at e1
      injection e1 with e1 _
      exact .inl ⟨s, e1.symm⟩
end K51
set_option maxHeartbeats 4000000
namespace K51
open PySem L2 MI
@[irreducible] noncomputable def maA (ck : Tabl) : MS := (mAsg (mSl (mLst (mCons (mC (.str "p")) (mCons (mC (.str "q")) mNil))) mNo (mEnd (mCall (ck.f .l_draw) (mCons (mVar 0) (mCons (mC (.int 3)) mNil))))) (nName 1))
@[irreducible] noncomputable def maB (ck : Tabl) : MS := (mAsg (mLc (mRng (mCons (mCall (ck.f .l_draw) (mCons (mVar 0) (mCons (mC (.int 3)) mNil))) mNil)) (ngName 7) mYes (mCall (ck.f .l_draw) (mCons (mVar 0) (mCons (mC (.int 3)) mNil))) [7]) (nName 2))
@[irreducible] noncomputable def maC (ck : Tabl) : MS := (mAsg (mCall (ck.f .l_draw) (mCons (mVar 0) (mCons (mBin gAdd (mCall gLen (mCons (mVar 2) mNil)) (mC (.int 1))) mNil))) (nName 3))
@[irreducible] noncomputable def maD (ck : Tabl) : MS := (mDrop (mBM gInsert (mVar 2) (mCons (mVar 3) (mCons (mC (.int 0)) mNil))))
@[irreducible] noncomputable def maE (ck : Tabl) : MS := (mAsg (mCall (ck.f .l_pick) (mCons (mVar 0) (mCons (mLst (mCons (mC (.int 1)) (mCons (mC (.int 2)) (mCons (mC (.int 3)) (mCons (mC (.int 4)) mNil))))) mNil))) (nName 5))
@[irreducible] noncomputable def maF (ck : Tabl) : MS := (mSeq (mAsg (mLc (mAnyI (mVar 2)) (ngName 8) mYes (mTup (mCons (mVar 8) (mCons (mCall (ck.f .l_tree) (mCons (mVar 0) (mCons (mVar 4) (mCons (mVar 8) (mCons (mLst mNil) (mCons (mVar 5) mNil)))))) mNil))) [8]) (nName 6))
    (mRet (mTup (mCons (mCall gTuple (mCons (mVar 1) mNil)) (mCons (mVar 3) (mCons (mCall gTuple (mCons (mVar 6) mNil)) mNil))))))
theorem b_ma (ck : Tabl) : b_l_machine ck = (mSeq (maA ck) (mSeq (maB ck) (mSeq (maC ck) (mSeq (maD ck)
    (mSeq (mAsg (mTup (mCons (mCall gLen (mCons (mVar 1) mNil)) (mCons (mVar 2) mNil))) (nName 4))
    (mSeq (maE ck) (maF ck))))))) := by unfold maA maB maC maD maE maF; rfl
section
variable {k n : Nat} {m : Mem} {s c : Nat} {Q : Fl → Mem → Prop} {E : Exn → Mem → Prop}
theorem maA_ok {x1 x2 x3 x4 x5 x6 x7 x8 : Option MV} (a : Bud m s c (n + 1)) (q : ∀ (p : Nat) (m' : Mem) (ps : List Str), m'[p]? = some (.lst (ps.map .str)) → p ∉ [s, c] → (ps = [] ∨ ps = [("p" : Str)] ∨ ps = [("p" : Str), ("q" : Str)]) → Aft m s c n m' → Q (.nx [some (.ref s), some (.ref p), x2, x3, x4, x5, x6, x7, x8]) m') :
    MI.W (maA (Tab (k + 1)) [some (.ref s), x1, x2, x3, x4, x5, x6, x7, x8] m) Q E := by
  unfold maA
  have sz : ∀ n, n ≤ 3000 → n ≤ sizeLine := fun n h => szl h
  simp [sz 2 (by omega)]
  have k0 : Kp [] m (m ++ [MO.lst [.str "p", .str "q"]]) := Kp.app
  refine (dr_ok (k := k) (a.any k0) (by omega) (by omega)).mono ?_ (fun x m' h => h.elim)
  rintro d m1 ⟨v, rfl, v0, v1, b1, k1⟩
  have g1 : m1[m.length]? = some (.lst [.str "p", .str "q"]) := k1.get (by simp) (a.new (Nat.le_refl _))
  simp only [g1]
  have A : ∀ l : List MV, Aft m s c n (m1 ++ [MO.lst l]) := fun l => ⟨b1.any Kp.app, ((kps k0).trans k1).trans Kp.app⟩
  have hv : v = 0 ∨ v = 1 ∨ v = 2 := by omega
  rcases hv with rfl | rfl | rfl
  · exact q _ _ [] (by simp; rfl) (b1.new (Nat.le_refl _)) (.inl rfl) (A _)
  · exact q _ _ ["p"] (by simp; rfl) (b1.new (Nat.le_refl _)) (.inr (.inl rfl)) (A _)
  · exact q _ _ ["p", "q"] (by simp; rfl) (b1.new (Nat.le_refl _)) (.inr (.inr rfl)) (A _)
theorem ints_of {acc : List MV} (h : ∀ y ∈ acc, ∃ x : Nat, y = .int x ∧ x ≤ 2) : ∃ l : List Nat, acc = l.map (fun (x : Nat) => MV.int x) ∧ ∀ x ∈ l, x ≤ 2 := by
  induction acc with
  | nil => exact ⟨[], rfl, by simp⟩
  | cons y acc ih =>
    obtain ⟨x, rfl, hx⟩ := h y List.mem_cons_self
    obtain ⟨l, rfl, hl⟩ := ih fun y hy => h y (List.mem_cons_of_mem _ hy)
    exact ⟨x :: l, rfl, fun z hz => by
      rcases List.mem_cons.mp hz with rfl | hz
      · exact hx
      · exact hl z hz⟩
theorem maB_ok {x1 x2 x3 x4 x5 x6 x7 x8 : Option MV} (a : Bud m s c (n + 3)) (q : ∀ (cs : Nat) (m' : Mem) (cnt : List Nat), m'[cs]? = some (.lst (cnt.map fun (x : Nat) => .int x)) → m.length ≤ cs → (∀ x ∈ cnt, x ≤ 2) → cnt.length ≤ 2 → Aft m s c n m' → Q (.nx [some (.ref s), x1, some (.ref cs), x3, x4, x5, x6, x7, x8]) m') :
    MI.W (maB (Tab (k + 1)) [some (.ref s), x1, x2, x3, x4, x5, x6, x7, x8] m) Q E := by
  unfold maB
  simp
  refine (dr_ok (k := k) (a.less (n' := n + 2 + 1) (by omega)) (by omega) (by omega)).mono ?_ (fun x m' h => h.elim)
  rintro d m1 ⟨v, rfl, v0, v1, b1, k1⟩
  obtain ⟨w, rfl⟩ : ∃ w : Nat, v = w := ⟨v.toNat, by omega⟩
  simp
  refine ⟨by omega, ?_⟩
  refine lc_dr (P := fun _ y => ∃ x : Nat, y = .int x ∧ x ≤ 2) (s := s) (c := c) (n := n) (B := 1) (fun _ _ => trivial) (b1.less (by simp [rng_len]; omega)) (fun d hd m' n' b' k' => ?_) (by simp [rng_len]; omega) fun acc m' l1 l2 A => ?_
  · simp [wipeM]
    refine (dr_ok (k := k) b' (by omega) (by omega)).mono ?_
    rintro d m3 ⟨z, rfl, z0, z1, b3, k3⟩
    exact ⟨⟨z.toNat, by rw [Int.toNat_of_nonneg z0], by omega⟩, b3, k3⟩
  · have l3 : acc.length = w := by rw [l1]; simp [rng_len]
    obtain ⟨cnt, rfl, hc⟩ := ints_of (acc := acc) fun y hy => by
      obtain ⟨j, hj⟩ := List.mem_iff_getElem?.mp hy
      have hj2 : j < (rngL 0 w).length := by rw [rng_len, ← l3]; exact (List.getElem?_eq_some_iff.mp hj).1
      exact l2 j _ y (List.getElem?_eq_getElem (by simpa using hj2)) hj
    refine q _ _ cnt (by simp) (Nat.le_trans k1.1 A.kp.1) hc (by simp at l3; omega) ⟨A.bud.any Kp.app, (k1.trans A.kp).trans Kp.app⟩
theorem maC_ok {cs : Nat} {cnt : List Nat} {x1 x3 x4 x5 x6 x7 x8 : Option MV} (a : Bud m s c (n + 1)) (hc : m[cs]? = some (.lst (cnt.map fun (x : Nat) => .int x))) (hl : cnt.length ≤ 2) (q : ∀ (b : Nat) (m' : Mem), b ≤ cnt.length → Aft m s c n m' → Q (.nx [some (.ref s), x1, some (.ref cs), some (.int b), x4, x5, x6, x7, x8]) m') :
    MI.W (maC (Tab (k + 1)) [some (.ref s), x1, some (.ref cs), x3, x4, x5, x6, x7, x8] m) Q E := by
  unfold maC
  simp [hc]
  refine (dr_ok (k := k) a (by omega) (by omega)).mono ?_ (fun x m' h => h.elim)
  rintro d m1 ⟨v, rfl, v0, v1, b1, k1⟩
  have := q v.toNat m1 (by omega) ⟨b1, k1⟩
  rw [Int.toNat_of_nonneg v0] at this
  exact this
/-- the counts, nought put in -/
def put0 (cnt : List Nat) (b : Nat) : List Nat := cnt.take b ++ [0] ++ cnt.drop b
theorem maD_ok {cs b : Nat} {cnt : List Nat} {x1 x4 x5 x6 x7 x8 : Option MV} (hc : m[cs]? = some (.lst (cnt.map fun (x : Nat) => .int x))) (hl : cnt.length ≤ 2) (hb : b ≤ cnt.length) (q : (m.set cs (.lst ((put0 cnt b).map fun (x : Nat) => .int x)))[cs]? = some (.lst ((put0 cnt b).map fun (x : Nat) => .int x)) → Q (.nx [some (.ref s), x1, some (.ref cs), some (.int b), x4, x5, x6, x7, x8]) (m.set cs (.lst ((put0 cnt b).map fun (x : Nat) => .int x)))) :
    MI.W (maD (Tab (k + 1)) [some (.ref s), x1, some (.ref cs), some (.int b), x4, x5, x6, x7, x8] m) Q E := by
  unfold maD
  have hlt := (List.getElem?_eq_some_iff.mp hc).1
  have q := q (by simp [hlt])
  have sz : 2 < sizeLine := Nat.lt_of_lt_of_le (by omega) (szl (n := 3) (by omega))
  have e : (cnt.map fun (x : Nat) => MV.int x).take b ++ MV.int 0 :: (cnt.map fun (x : Nat) => MV.int x).drop b = (put0 cnt b).map fun (x : Nat) => MV.int x := by
    unfold put0
    simp [List.map_take, List.map_drop]
  simp [hc, lstOf]
  refine ⟨⟨by omega, by omega⟩, ?_⟩
  rw [← List.map_take, ← List.map_drop] at e
  simp only [List.map_take, List.map_drop] at e ⊢
  rw [e]
  exact q
theorem maE_ok {x1 x2 x3 x4 x5 x6 x7 x8 : Option MV} (a : Bud m s c (n + 1)) (q : ∀ (f : Nat) (m' : Mem), 1 ≤ f → f ≤ 4 → Aft m s c n m' → Q (.nx [some (.ref s), x1, x2, x3, x4, some (.int f), x6, x7, x8]) m') :
    MI.W (maE (Tab (k + 2)) [some (.ref s), x1, x2, x3, x4, x5, x6, x7, x8] m) Q E := by
  unfold maE
  have sz : ∀ n, n ≤ 3000 → n ≤ sizeLine := fun n h => szl h
  simp [sz 4 (by omega)]
  have k0 : Kp [] m (m ++ [MO.lst [.int 1, .int 2, .int 3, .int 4]]) := Kp.app
  refine (pick_ok (k := k) (a.any k0) (l := [.int 1, .int 2, .int 3, .int 4]) (by simp) (a.new (Nat.le_refl _)) (by simp) (by simp)).mono ?_ (fun x m' h => h.elim)
  rintro d m1 ⟨d1, b1, k1⟩
  have A : Aft m s c n m1 := ⟨b1, (kps k0).trans k1⟩
  simp at d1
  rcases d1 with rfl | rfl | rfl | rfl
  · exact q 1 _ (by omega) (by omega) A
  · exact q 2 _ (by omega) (by omega) A
  · exact q 3 _ (by omega) (by omega) A
  · exact q 4 _ (by omega) (by omega) A
end
end K51
set_option maxHeartbeats 4000000
namespace K51
open PySem L2 MI
theorem put0_z {cnt : List Nat} {b : Nat} : 0 ∈ put0 cnt b := by simp [put0]
theorem put0_le {cnt : List Nat} {b : Nat} (h : ∀ x ∈ cnt, x ≤ 2) : ∀ x ∈ put0 cnt b, x ≤ 2 := by
  intro x hx
  unfold put0 at hx
  simp only [List.mem_append, List.mem_singleton] at hx
  rcases hx with (hx | rfl) | hx
  · exact h x (List.mem_of_mem_take hx)
  · omega
  · exact h x (List.mem_of_mem_drop hx)
theorem put0_len {cnt : List Nat} {b : Nat} : (put0 cnt b).length = cnt.length + 1 := by
  unfold put0
  simp
  omega
theorem put0_at {cnt : List Nat} {b : Nat} (h : b ≤ cnt.length) : (put0 cnt b).getD b 1 = 0 := by
  unfold put0
  rw [List.getD_eq_getElem?_getD, List.append_assoc, List.getElem?_append_right (by simp; omega)]
  simp [Nat.min_eq_left h]
section
variable {k n : Nat} {m : Mem} {s c : Nat} {Q : Fl → Mem → Prop} {E : Exn → Mem → Prop}
theorem maF_ok {p cs b f : Nat} {ps : List Str} {cnt : List Nat} {x6 x7 x8 : Option MV} (a : Bud m s c (n + bT f * cnt.length)) (hp : m[p]? = some (.lst (ps.map .str))) (np : p ∉ [s, c]) (hc : m[cs]? = some (.lst (cnt.map fun (x : Nat) => .int x))) (nc : cs ∉ [s, c]) (hps : ps = [] ∨ ps = [("p" : Str)] ∨ ps = [("p" : Str), ("q" : Str)])
    (z0 : 0 ∈ cnt) (h4 : ∀ x ∈ cnt, x ≤ 2) (h5 : cnt.length ≤ 10) (f4 : f ≤ 4) (hb : b < cnt.length) (q : ∀ (M : Mach) (m' : Mem), M.Ok → M.ps = ps → M.bg = b → M.cnt = cnt → Aft m s c n m' → Q (.rt M.v) m') :
    MI.W (maF (Tab (k + 10)) [some (.ref s), some (.ref p), some (.ref cs), some (.int b), some (.tup [.int ps.length, .ref cs]), some (.int f), x6, x7, x8] m) Q E := by
  unfold maF
  have sz : ∀ n, n ≤ 3000 → n ≤ sizeLine := fun n h => szl h
  have p2 : ps.length ≤ 2 := by rcases hps with rfl | rfl | rfl <;> simp
  obtain ⟨g, hg⟩ : ∃ g, k + 10 = g + 6 + f := ⟨k + 4 - f, by omega⟩
  simp [hc]
  refine lc_dr (P := fun d y => ∃ (c0 : Nat) (t : MV), d = .int c0 ∧ y = .tup [.int c0, t] ∧ Tr c0 ps.length cnt f [] t) (s := s) (c := c) (n := n) (B := bT f) (fun m' k' => by rw [k'.get hc nc]) (a.less (by simp)) (fun d hd m' n' b' k' => ?_) (by simp; omega) fun acc m' l1 l2 A => ?_
  · obtain ⟨c0, hc0, rfl⟩ := List.mem_map.mp hd
    have k0 : Kp [] m' (m' ++ [MO.lst []]) := Kp.app
    have c2 := h4 c0 hc0
    simp [wipeM]
    rw [hg]
    refine (tree_dr (k := g) (pl := c0) (many := ps.length) (by omega) (by omega) nc z0 h4 h5 f (m' ++ [MO.lst []]) n' m'.length [] (b'.any k0) (by simp) ((k'.trans (kps k0)).get hc nc) (by simp; omega) (b'.new (Nat.le_refl _))).mono ?_
    rintro t m3 ⟨ht, A3⟩
    exact ⟨sz 2 (by omega), ⟨c0, rfl, t, ⟨rfl, rfl⟩, ht⟩, A3.trans (kps k0)⟩
  · have g1 : (m' ++ [MO.lst acc])[p]? = some (.lst (ps.map .str)) := (A.kp.trans Kp.app).get hp np
    simp [g1]
    -- the trees
    have tr : ∃ tr : List MV, tr.length = cnt.length ∧ acc = stsV cnt tr ∧ ∀ (i c0 : Nat) (t : MV), cnt[i]? = some c0 → tr[i]? = some t → Tr c0 ps.length cnt f [] t := by
      have l1' : acc.length = cnt.length := by rw [l1]; simp
      refine ⟨acc.map fun y => match y with | .tup [_, t] => t | _ => .non, by simp [l1'], ?_, ?_⟩
      · refine List.ext_getElem? fun i => ?_
        unfold stsV
        rw [List.getElem?_zipWith, List.getElem?_map]
        cases h1 : cnt[i]? with
        | none =>
          have : acc[i]? = none := List.getElem?_eq_none (by rw [l1']; exact List.getElem?_eq_none_iff.mp h1)
          rw [this]
        | some c0 =>
          have hi : i < acc.length := by rw [l1']; exact (List.getElem?_eq_some_iff.mp h1).1
          have h2 : acc[i]? = some acc[i] := List.getElem?_eq_getElem hi
          rw [h2]
          obtain ⟨c1, t, e1, e2, e3⟩ := l2 i (.int c0) acc[i] (by simp [h1]) h2
          injection e1 with e1
          rw [e2]
          simp only [Option.map_some]
          rw [e1]
      · intro i c0 t h1 h2
        have hi : i < acc.length := by rw [l1']; exact (List.getElem?_eq_some_iff.mp h1).1
        have h3 : acc[i]? = some acc[i] := List.getElem?_eq_getElem hi
        obtain ⟨c1, t', e1, e2, e3⟩ := l2 i (.int c0) acc[i] (by simp [h1]) h3
        injection e1 with e1
        have e1 : c0 = c1 := Int.ofNat.inj e1
        subst e1
        rw [List.getElem?_map, h3, e2] at h2
        simp at h2
        subst h2
        exact e3
    obtain ⟨tr, t1, rfl, t3⟩ := tr
    have ok : Mach.Ok ⟨ps, b, cnt, tr⟩ := by
      refine ⟨?_, p2, t1, by show 1 ≤ cnt.length; omega, by show cnt.length ≤ 2000; omega, fun x hx => by have := h4 x hx; omega, hb, fun i c0 t e1 e2 => ⟨f, by omega, t3 i c0 t e1 e2⟩⟩
      rcases hps with rfl | rfl | rfl
      · rfl
      · show some (nameB (.str "p")) = some true
        rw [show nameB (.str "p") = true by decide +kernel]
      · show (if nameB (.str "q") = true then some (nameB (.str "p") && !decide (("p" : Str) = "q")) else some false) = some true
        rw [show nameB (.str "p") = true by decide +kernel, show nameB (.str "q") = true by decide +kernel]
        decide
    exact ⟨sz 3 (by omega), q ⟨ps, b, cnt, tr⟩ _ ok rfl rfl rfl ⟨A.bud.any Kp.app, A.kp.trans Kp.app⟩⟩
end
theorem machine_ok {k n : Nat} {m : Mem} {s c : Nat} (a : Bud m s c (n + 12000)) : MI.W ((Tab (k + 11)).f .l_machine [.ref s] m) (fun d m' => ∃ M : Mach, d = M.v ∧ M.Ok ∧ (M.ps = [] ∨ M.ps = [("p" : Str)] ∨ M.ps = [("p" : Str), ("q" : Str)]) ∧ M.cnt.getD M.bg 1 = 0 ∧ M.cnt.length ≤ 3 ∧ Aft m s c n m') E0 := by
  have e1 : (Tab (k + 11)).f .l_machine = f_l_machine (Tab (k + 10)) := rfl
  rw [e1]
  unfold f_l_machine
  rw [b_ma, W_end, W_seq]
  refine maA_ok (k := k + 9) (n := n + 11999) a fun p m1 ps hp np hps A1 => ?_
  show MI.W (mSeq (maB (Tab (k + 10))) _ _ m1) _ _
  rw [W_seq]
  refine maB_ok (k := k + 9) (n := n + 11996) A1.bud fun cs m2 cnt hc lc h4 h5 A2 => ?_
  show MI.W (mSeq (maC (Tab (k + 10))) _ _ m2) _ _
  rw [W_seq]
  refine maC_ok (k := k + 9) (n := n + 11995) A2.bud hc h5 fun b m3 hb A3 => ?_
  show MI.W (mSeq (maD (Tab (k + 10))) _ _ m3) _ _
  rw [W_seq]
  have nc : cs ∉ [s, c] := A1.bud.new lc
  have hc3 := A3.kp.get hc nc
  refine maD_ok (k := k + 9) hc3 h5 hb fun g4 => ?_
  show MI.W (mSeq _ _ _ _) _ _
  have k3 : Kp [s, c] m m3 := (A1.kp.trans A2.kp).trans A3.kp
  have k4 : Kp [s, c] m (m3.set cs (.lst ((put0 cnt b).map fun (x : Nat) => .int x))) := k3.wrNew (Nat.le_trans A1.kp.1 lc)
  have hp4 : (m3.set cs (.lst ((put0 cnt b).map fun (x : Nat) => .int x)))[p]? = some (.lst (ps.map .str)) := by
    rw [List.getElem?_set_ne (fun e => ?_)]
    · exact (A2.kp.trans A3.kp).get hp np
    · have := (List.getElem?_eq_some_iff.mp hp).1
      omega
  have b4 : Bud (m3.set cs (.lst ((put0 cnt b).map fun (x : Nat) => .int x))) s c (n + 11995) := A3.bud.kp (Kp.wr (S := [cs]) (by simp)) (fun e => nc (by simp at e; simp [e])) (fun e => nc (by simp at e; simp [e]))
  generalize (m3.set cs (.lst ((put0 cnt b).map fun (x : Nat) => .int x))) = m4 at g4 k4 hp4 b4
  rw [W_seq]
  simp [hp4]
  refine ⟨szl (n := 2) (by omega), ?_⟩
  refine maE_ok (k := k + 8) (n := n + 11994) b4 fun f m5 f1 f2 A5 => ?_
  have f3 : bT f ≤ 3630 := by
    have : f = 1 ∨ f = 2 ∨ f = 3 ∨ f = 4 := by omega
    rcases this with rfl | rfl | rfl | rfl <;> decide
  have f5 : bT f * (put0 cnt b).length ≤ 3630 * 3 := Nat.mul_le_mul f3 (by rw [put0_len]; omega)
  have := maF_ok (k := k) (n := n) (b := b) (f := f) (ps := ps) (cnt := put0 cnt b) (x6 := none) (x7 := none) (x8 := none) (Q := fin (fun d m' => ∃ M : Mach, d = M.v ∧ M.Ok ∧ (M.ps = [] ∨ M.ps = [("p" : Str)] ∨ M.ps = [("p" : Str), ("q" : Str)]) ∧ M.cnt.getD M.bg 1 = 0 ∧ M.cnt.length ≤ 3 ∧ Aft m s c n m') E0) (E := E0) (A5.bud.less (by omega)) (A5.kp.get hp4 np) np (A5.kp.get g4 nc) nc hps put0_z (put0_le h4) (by rw [put0_len]; omega) f2 (by rw [put0_len]; omega) fun M m' h1 h2 h3 h6 A => ⟨M, rfl, h1, by rw [h2]; exact hps, by rw [h3, h6]; exact put0_at hb, by rw [h6, put0_len]; omega, A.trans (k4.trans A5.kp)⟩
  exact this
end K51
set_option maxHeartbeats 4000000
namespace K51
open PySem L2 MI
def srcN (num : Nat) (p : Str) : MV := .tup [.int num, .tup [.str "name", .str p]]
def srcE (num i : Nat) : MV := .tup [.int num, .tup [.str "event", .int i]]
/-- a call: its number, the parameters and their kinds, what is held, the answers -/
structure Ctx where
  num : Nat
  ps : List Str
  kinds : List Str
  held : List (MV × Str)
  ans : List Str
def dfl : MV × Str := (.non, "n")
def Ctx.par (C : Ctx) (i : Nat) : MV × Str := (srcN C.num (C.ps.getD i ""), C.kinds.getD i ("n" : Str))
def Ctx.evt (C : Ctx) (i : Nat) : MV × Str := (srcE C.num i, C.ans.getD i ("n" : Str))
def Ctx.ob (C : Ctx) : MV → MV × Str
  | .tup [.str w, .int i] => if w = "place" then C.held.getD i.toNat dfl else if w = "parameter" then C.par i.toNat else C.evt i.toNat
  | _ => dfl
def valOf (p : MV × Str) : MV := if p.2 = ("n" : Str) then .tup [.str "none"] else .tup [.str "object", p.1]
def Ctx.val (C : Ctx) : MV → MV
  | .tup [.str s] => .tup [.str s]
  | v => valOf (C.ob v)
abbrev tfn : List Str := ["t", "f", "n"]
abbrev tfnx : List Str := ["t", "f", "n", "x"]
def evsOf (C : Ctx) (n : Nat) : List Bool := (C.ans.take n).map fun (a : Str) => decide (a ≠ ("x" : Str))
/-- where a value comes from: an earlier call -/
def IsSrc (num : Nat) (s : MV) : Prop := (∃ p : Str, s = srcN num p) ∨ ∃ i : Nat, s = srcE num i
structure Ctx.Ok (C : Ctx) : Prop where
  kl : C.kinds.length = C.ps.length
  pl : C.ps.length ≤ 2
  kd : ∀ k ∈ C.kinds, k ∈ tfn
  hd : ∀ p ∈ C.held, p.2 ∈ tfn ∧ ∃ j, j < C.num ∧ IsSrc j p.1
  hl : C.held.length ≤ 8
  an : ∀ a ∈ C.ans, a ∈ tfnx
  al : C.ans.length ≤ 10
theorem ob_pl {C : Ctx} {i : Nat} : C.ob (plM (.int i)) = C.held.getD i dfl := by
  show (if ("place" : Str) = "place" then C.held.getD ((i : Int)).toNat dfl else if ("place" : Str) = "parameter" then C.par ((i : Int)).toNat else C.evt ((i : Int)).toNat) = _
  rw [if_pos rfl, Int.toNat_natCast]
theorem ob_pa {C : Ctx} {i : Nat} : C.ob (paM (.int i)) = C.par i := by
  show (if ("parameter" : Str) = "place" then C.held.getD ((i : Int)).toNat dfl else if ("parameter" : Str) = "parameter" then C.par ((i : Int)).toNat else C.evt ((i : Int)).toNat) = _
  rw [if_neg s_ne1, if_pos rfl, Int.toNat_natCast]
theorem ob_ev {C : Ctx} {i : Nat} : C.ob (evM (.int i)) = C.evt i := by
  show (if ("event" : Str) = "place" then C.held.getD ((i : Int)).toNat dfl else if ("event" : Str) = "parameter" then C.par ((i : Int)).toNat else C.evt ((i : Int)).toNat) = _
  rw [if_neg s_ne2, if_neg s_ne3, Int.toNat_natCast]
theorem evsOf_len {C : Ctx} {n : Nat} (h : n ≤ C.ans.length) : (evsOf C n).length = n := by
  unfold evsOf
  simp
  omega
theorem evsOf_get {C : Ctx} {n i : Nat} (h : i < n) (hn : n ≤ C.ans.length) : (evsOf C n).getD i false = decide (C.ans.getD i ("n" : Str) ≠ ("x" : Str)) := by
  unfold evsOf
  rw [List.getD_eq_getElem?_getD, List.getElem?_map, List.getElem?_take_of_lt h, List.getElem?_eq_getElem (by omega), List.getD_eq_getElem?_getD, List.getElem?_eq_getElem (by omega)]
  rfl
/-- an operand that is there: which one it is -/
inductive At (C : Ctx) (n : Nat) : MV → Prop
  | pl {i : Nat} : i < C.held.length → At C n (plM (.int i))
  | pa {i : Nat} : i < C.ps.length → At C n (paM (.int i))
  | ev {i : Nat} : i < n → C.ans.getD i ("n" : Str) ≠ ("x" : Str) → At C n (evM (.int i))
theorem at_of {C : Ctx} {n : Nat} {v : MV} (hn : n ≤ C.ans.length) (h : v ∈ objL C.held.length C.ps.length (evsOf C n)) : At C n v := by
  rcases obj_mem h with ⟨i, h1, rfl⟩ | ⟨i, h1, rfl⟩ | ⟨i, h1, h2, rfl⟩
  · exact .pl h1
  · exact .pa h1
  · rw [evsOf_len hn] at h1
    rw [evsOf_get h1 hn] at h2
    exact .ev h1 (by simpa using h2)
theorem At.more {C : Ctx} {n n' : Nat} {v : MV} (h : At C n v) (hn : n ≤ n') : At C n' v := by
  cases h with
  | pl h => exact .pl h
  | pa h => exact .pa h
  | ev h h2 => exact .ev (by omega) h2
theorem getD_mem {α : Type} {l : List α} {i : Nat} {d : α} (h : i < l.length) : l.getD i d ∈ l := by
  rw [List.getD_eq_getElem?_getD, List.getElem?_eq_getElem h]
  exact List.getElem_mem h
theorem At.kind {C : Ctx} (ok : C.Ok) {n : Nat} (hn : n ≤ C.ans.length) {v : MV} (h : At C n v) : (C.ob v).2 ∈ tfn := by
  cases h with
  | pl h => rw [ob_pl]; exact (ok.hd _ (getD_mem h)).1
  | @pa i h =>
    rw [ob_pa]
    exact ok.kd _ (getD_mem (by rw [ok.kl]; exact h))
  | @ev i h h2 =>
    rw [ob_ev]
    have := ok.an _ (getD_mem (d := ("n" : Str)) (show i < C.ans.length by omega))
    show C.ans.getD i ("n" : Str) ∈ tfn
    simp only [List.mem_cons, List.mem_nil_iff, or_false] at this ⊢
    rcases this with h | h | h | h
    · exact .inl h
    · exact .inr (.inl h)
    · exact .inr (.inr h)
    · exact absurd h h2
def prV (p : MV × Str) : MV := .tup [p.1, .str p.2]
structure RunAt (C : Ctx) (o le aT : Nat) (E : List MV) (m : Mem) : Prop where
  ex : ∃ aA aO aH aP aV : Nat, m[o]? = some (.own "MachineCall" [("number", .int C.num), ("answers", .ref aA), ("events", .ref le), ("objects", .ref aO)]) ∧ m[aA]? = some (.lst (C.ans.map .str)) ∧ m[aO]? = some (.dct [(.inr "place", .ref aH), (.inr "parameter", .ref aP), (.inr "event", .ref aV)]) ∧
    m[aH]? = some (.lst (C.held.map prV)) ∧ m[aP]? = some (.lst ((List.range C.ps.length).map fun i => prV (C.par i))) ∧ m[aV]? = some (.lst ((List.range C.ans.length).map fun i => prV (C.evt i))) ∧ aA ≠ le ∧ aO ≠ le ∧ aH ≠ le ∧ aP ≠ le ∧ aV ≠ le ∧ o ≠ le ∧ aT ∉ [aA, aO, aH, aP, aV, o, le]
  ev : m[le]? = some (.lst E)
theorem RunAt.kp {C : Ctx} {o le aT : Nat} {E : List MV} {m m' : Mem} (h : RunAt C o le aT E m) (k : Kp [] m m') : RunAt C o le aT E m' := by
  obtain ⟨aA, aO, aH, aP, aV, h1, h2, h3, h4, h5, h6, z⟩ := h.ex
  exact ⟨⟨aA, aO, aH, aP, aV, k.get h1 (by simp), k.get h2 (by simp), k.get h3 (by simp), k.get h4 (by simp), k.get h5 (by simp), k.get h6 (by simp), z⟩, k.get h.ev (by simp)⟩
theorem RunAt.put {C : Ctx} {o le aT : Nat} {E E' : List MV} {m : Mem} (h : RunAt C o le aT E m) : RunAt C o le aT E' (m.set le (.lst E')) := by
  obtain ⟨aA, aO, aH, aP, aV, h1, h2, h3, h4, h5, h6, n1, n2, n3, n4, n5, n6, n7⟩ := h.ex
  have hl := (List.getElem?_eq_some_iff.mp h.ev).1
  have g : ∀ {i : Nat}, i ≠ le → (m.set le (.lst E'))[i]? = m[i]? := fun h => List.getElem?_set_ne (Ne.symm h)
  exact ⟨⟨aA, aO, aH, aP, aV, by rw [g n6]; exact h1, by rw [g n1]; exact h2, by rw [g n2]; exact h3, by rw [g n3]; exact h4, by rw [g n4]; exact h5, by rw [g n5]; exact h6, n1, n2, n3, n4, n5, n6, n7⟩, by simp [hl]⟩
theorem RunAt.off {C : Ctx} {o le aT : Nat} {E : List MV} {m m' : Mem} (h : RunAt C o le aT E m) (k : Kp [aT] m m') : RunAt C o le aT E m' := by
  obtain ⟨aA, aO, aH, aP, aV, h1, h2, h3, h4, h5, h6, n1, n2, n3, n4, n5, n6, n7⟩ := h.ex
  have z := n7
  simp only [List.mem_cons, List.mem_nil_iff, or_false, not_or] at z
  obtain ⟨z1, z2, z3, z4, z5, z6, z7⟩ := z
  exact ⟨⟨aA, aO, aH, aP, aV, k.get h1 (by simp; exact Ne.symm z6), k.get h2 (by simp; exact Ne.symm z1), k.get h3 (by simp; exact Ne.symm z2), k.get h4 (by simp; exact Ne.symm z3), k.get h5 (by simp; exact Ne.symm z4), k.get h6 (by simp; exact Ne.symm z5), n1, n2, n3, n4, n5, n6, n7⟩, k.get h.ev (by simp; exact Ne.symm z7)⟩
theorem atM_map {α : Type} {l : List α} {f : α → MV} {i : Nat} {d : α} (h : i < l.length) : atM (l.map f) ((i : Nat) : Int) = some (f (l.getD i d)) := by
  have e : (l.map f)[i]? = some (f (l.getD i d)) := by
    rw [List.getElem?_map, List.getD_eq_getElem?_getD, List.getElem?_eq_getElem h]
    rfl
  exact atM_nat e
theorem v_pl {a b c : MV} : valM [(.inr "place", a), (.inr "parameter", b), (.inr "event", c)] (.inr "place") = some a := by rfl
theorem v_pa {a b c : MV} : valM [(.inr "place", a), (.inr "parameter", b), (.inr "event", c)] (.inr "parameter") = some b := by rfl
theorem v_ev {a b c : MV} : valM [(.inr "place", a), (.inr "parameter", b), (.inr "event", c)] (.inr "event") = some c := by rfl
/-- object_at -/
theorem oat_ok {C : Ctx} {o le aT n : Nat} {E : List MV} {m : Mem} {v : MV} {k : Nat} (R : RunAt C o le aT E m) (hn : n ≤ C.ans.length) (h : At C n v) :
    MI.W ((Tab (k + 1)).f .m_MachineCall_object_at [.ref o, v] m) (fun d m' => d = prV (C.ob v) ∧ m' = m) E0 := by
  have e1 : (Tab (k + 1)).f .m_MachineCall_object_at = f_m_MachineCall_object_at (Tab k) := rfl
  rw [e1]
  unfold f_m_MachineCall_object_at b_m_MachineCall_object_at
  obtain ⟨aA, aO, aH, aP, aV, h1, h2, h3, h4, h5, h6, _⟩ := R.ex
  cases h with
  | @pl i h =>
    unfold plM
    simp [startM, W_asgT, nCons, nName, nNil]
    refine W_gFld h1 rfl rfl ?_
    refine W_item_rs h3 v_pl ?_
    have := atM_map (f := prV) (d := dfl) h
    simp only [W_item_r, h4, this]
    exact ⟨by rw [← ob_pl]; rfl, trivial⟩
  | @pa i h =>
    unfold paM
    simp [startM, W_asgT, nCons, nName, nNil]
    refine W_gFld h1 rfl rfl ?_
    refine W_item_rs h3 v_pa ?_
    have := atM_map (l := List.range C.ps.length) (f := fun i => prV (C.par i)) (d := 0) (i := i) (by simpa using h)
    rw [List.getD_eq_getElem?_getD, List.getElem?_range h] at this
    simp only [W_item_r, h5, this]
    exact ⟨by show prV (C.par i) = _; rw [← ob_pa]; rfl, trivial⟩
  | @ev i h hx =>
    unfold evM
    simp [startM, W_asgT, nCons, nName, nNil]
    refine W_gFld h1 rfl rfl ?_
    refine W_item_rs h3 v_ev ?_
    have hi : i < C.ans.length := by omega
    have := atM_map (l := List.range C.ans.length) (f := fun i => prV (C.evt i)) (d := 0) (i := i) (by simpa using hi)
    rw [List.getD_eq_getElem?_getD, List.getElem?_range hi] at this
    simp only [W_item_r, h6, this]
    exact ⟨by show prV (C.evt i) = _; rw [← ob_ev]; rfl, trivial⟩
end K51
set_option maxHeartbeats 4000000
namespace K51
open PySem L2 MI
theorem while_step {c : MT} {f : MS} {fuel : Nat} {ρ : MI.Env} {m : Mem} {Q : Fl → Mem → Prop} {E : Exn → Mem → Prop} (h : MI.W (c ρ m) (fun b m1 => if b = true then MI.W (f ρ m1) (fun a m2 => match a with
      | .nx ρ' => MI.W (whileM c f fuel ρ' m2) Q E
      | .ct ρ' => MI.W (whileM c f fuel ρ' m2) Q E
      | .bk ρ' => Q (.nx ρ') m2
      | a => Q a m2) E else Q (.nx ρ) m1) E0) : MI.W (whileM c f (fuel + 1) ρ m) Q E := by with_unfolding_all
  show MI.W (onE ρ (c ρ m) fun b m1 => if b = true then (match f ρ m1 with
      | .ok (.nx ρ2) m2 => whileM c f fuel ρ2 m2
      | .ok (.ct ρ2) m2 => whileM c f fuel ρ2 m2
      | .ok (.bk ρ2) m2 => .ok (.nx ρ2) m2
      | q => q) else .ok (.nx ρ) m1) Q E
  cases hc : c ρ m with
  | stuck => rw [hc] at h; exact h.elim
  | ex x m1 => rw [hc] at h; exact h.elim
  | ok b m1 =>
    rw [hc] at h
    have h : (if b = true then MI.W (f ρ m1) (fun a m2 => match a with
      | .nx ρ' => MI.W (whileM c f fuel ρ' m2) Q E
      | .ct ρ' => MI.W (whileM c f fuel ρ' m2) Q E
      | .bk ρ' => Q (.nx ρ') m2
      | a => Q a m2) E else Q (.nx ρ) m1) := h
    show MI.W (if b = true then _ else _) Q E
    cases b with
    | false => exact h
    | true =>
      rw [if_pos rfl] at h ⊢
      cases hf : f ρ m1 with
      | stuck => rw [hf] at h; exact h.elim
      | ex x m2 => rw [hf] at h; exact h
      | ok a m2 =>
        rw [hf] at h
        cases a with
        | nx ρ' => exact h
        | ct ρ' => exact h
        | bk ρ' => exact h
        | rt d => exact h
        | ex x ρ' => exact h
/-- an operand whose value is there -/
def Opv (C : Ctx) (n : Nat) (v : MV) : Prop := (∃ s ∈ consts, v = .tup [.str s]) ∨ At C n v
theorem opv_of {C : Ctx} {n : Nat} {v : MV} (hn : n ≤ C.ans.length) (h : Opd C.held.length C.ps.length (evsOf C n) v) : Opv C n v := by
  rcases h with h | h
  · exact .inl h
  · exact .inr (at_of hn h)
theorem held_ok {k : Nat} {m : Mem} {src : MV} {kd : Str} : MI.W ((Tab (k + 1)).f .held_object [src, .str kd] m) (fun d m' => (∃ b, d = .tup [valOf (src, kd), .bl b]) ∧ m' = m) E0 := by
  have e1 : (Tab (k + 1)).f .held_object = f_held_object (Tab k) := rfl
  rw [e1]
  unfold f_held_object b_held_object
  have s1 : 1 ≤ sizeLine := szl (n := 1) (by omega)
  have s2 : 2 ≤ sizeLine := szl (n := 2) (by omega)
  simp [startM, s1, s2]
  by_cases h : kd = ("n" : Str)
  · simp [h, valOf]
  · simp [h, valOf]
    exact (Decidable.em _).symm
theorem val_at {C : Ctx} {n : Nat} {v : MV} (h : At C n v) : C.val v = valOf (C.ob v) ∧ ∃ w i, v = .tup [.str w, .int i] ∧ w ∉ consts := by
  cases h with
  | pl h => exact ⟨rfl, _, _, rfl, by decide⟩
  | pa h => exact ⟨rfl, _, _, rfl, by decide⟩
  | ev h h2 => exact ⟨rfl, _, _, rfl, by decide⟩
theorem RunAt.has {C : Ctx} {o le aT : Nat} {E : List MV} {m : Mem} (R : RunAt C o le aT E m) {x : Str} (hx : x ∈ (["object_at", "value", "end_of"] : List Str)) : hasM "MachineCall" x (.ref o) m = true := by
  obtain ⟨aA, aO, aH, aP, aV, h1, _⟩ := R.ex
  have e := ownOf_at h1
  unfold hasM
  rw [e]
  simp only [List.mem_cons, List.mem_nil_iff, or_false] at hx
  rcases hx with rfl | rfl | rfl <;> rfl
/-- value -/
theorem pval_ok {C : Ctx} {o le aT n : Nat} {E : List MV} {m : Mem} {v : MV} {k : Nat} (R : RunAt C o le aT E m) (hn : n ≤ C.ans.length) (h : Opv C n v) :
    MI.W ((Tab (k + 2)).f .m_MachineCall_value [.ref o, v] m) (fun d m' => d = C.val v ∧ m' = m) E0 := by
  have e1 : (Tab (k + 2)).f .m_MachineCall_value = f_m_MachineCall_value (Tab (k + 1)) := rfl
  rw [e1]
  unfold f_m_MachineCall_value b_m_MachineCall_value
  obtain ⟨aA, aO, aH, aP, aV, h1, _⟩ := R.ex
  have key : ∀ (s : Str) (m : Mem) (Q : MV → Mem → Prop) (E : Exn → Mem → Prop), MI.W (gInA false (.str s) c_CONSTANTS m) Q E = Q (.bl (decide (s ∈ consts))) m := fun s m Q E => W_in_strs (l := consts) (neg := false)
  rcases h with ⟨s, hs, rfl⟩ | h
  · simp [startM]
    erw [key]
    simp [hs]
    rfl
  · obtain ⟨hv, w, i, e2, hw⟩ := val_at h
    have o1 := oat_ok (k := k) R hn h
    subst e2
    simp [startM]
    erw [key]
    simp [hw]
    simp [W_asgT, nCons, nName, nNil]
    refine ⟨R.has (by simp), o1.mono ?_⟩
    rintro d m' ⟨rfl, rfl⟩
    unfold prV
    simp
    refine (held_ok (k := k)).mono ?_
    rintro d m2 ⟨⟨b, rfl⟩, rfl⟩
    simp [hv]
end K51
set_option maxHeartbeats 4000000
namespace K51
open PySem L2 MI
/-- the event of an ask -/
def evV (C : Ctx) (w : Str) (ops : List MV) : MV := .tup [.str w, .tup (ops.map C.val)]
def pick3 (k : Str) (x y z : MV) : MV := if k = ("t" : Str) then x else if k = ("f" : Str) then y else z
/-- how a tree is gone through, n steps: the events so far, those at the end, the end that is come to (none: an answer is wanting) -/
inductive Runs (C : Ctx) (cnt : List Nat) : Nat → List MV → MV → List MV → Option MV → Prop
  | fin {E : List MV} {d : MV} : E.length ≤ C.ans.length → EndIs C.held.length C.ps.length cnt (evsOf C E.length) d → Runs C cnt 0 E d E (some d)
  | test {n : Nat} {E E' : List MV} {o x y z : MV} {r : Option MV} : E.length ≤ C.ans.length → At C E.length o → Runs C cnt n E (pick3 (C.ob o).2 x y z) E' r → Runs C cnt (n + 1) E (.tup [.str "test", o, .tup [x, y, z]]) E' r
  | want {E : List MV} {w : Str} {ops : List MV} {x y : MV} : E.length = C.ans.length → ops.length ≤ 3 → (∀ o ∈ ops, Opv C E.length o) → Runs C cnt 1 E (.tup [.str "ask", .str w, .tup ops, .tup [x, y]]) (E ++ [evV C w ops]) none
  | go {n : Nat} {E E' : List MV} {w : Str} {ops : List MV} {x y : MV} {r : Option MV} : E.length < C.ans.length → ops.length ≤ 3 → (∀ o ∈ ops, Opv C E.length o) → Runs C cnt n (E ++ [evV C w ops]) (if C.ans.getD E.length ("n" : Str) = ("x" : Str) then y else x) E' r →
      Runs C cnt (n + 1) E (.tup [.str "ask", .str w, .tup ops, .tup [x, y]]) E' r
theorem evsOf_snoc {C : Ctx} {n : Nat} (h : n < C.ans.length) : evsOf C (n + 1) = evsOf C n ++ [decide (C.ans.getD n ("n" : Str) ≠ ("x" : Str))] := by
  unfold evsOf
  rw [List.take_add_one, List.map_append, List.getElem?_eq_getElem h, List.getD_eq_getElem?_getD, List.getElem?_eq_getElem h]
  rfl
theorem WordN.le {w : Str} {n : Nat} (h : WordN w n) : n ≤ 3 := by
  rcases h with ⟨_, h⟩ | ⟨_, _, h⟩ <;> omega
/-- every good tree is gone through -/
theorem runs_of {C : Ctx} {cnt : List Nat} {f : Nat} {evs : List Bool} {t : MV} (h : Tr C.held.length C.ps.length cnt f evs t) : ∀ E : List MV, E.length ≤ C.ans.length → evs = evsOf C E.length → ∃ n E' r, n ≤ f + 1 ∧ Runs C cnt n E t E' r := by
  induction h with
  | fin h =>
    intro E hE e
    subst e
    exact ⟨0, E, _, by omega, .fin hE h⟩
  | @test f evs o x y z ho hx hy hz ix iy iz =>
    intro E hE e
    subst e
    have : ∃ n E' r, n ≤ f + 1 ∧ Runs C cnt n E (pick3 (C.ob o).2 x y z) E' r := by
      unfold pick3
      split
      · exact ix E hE rfl
      · split
        · exact iy E hE rfl
        · exact iz E hE rfl
    obtain ⟨n, E', r, hn, hr⟩ := this
    exact ⟨n + 1, E', r, by omega, .test hE (at_of hE ho) hr⟩
  | @ask f evs w ops x y he hw ho hx hy ix iy =>
    intro E hE e
    subst e
    have hv : ∀ o ∈ ops, Opv C E.length o := fun o h => opv_of hE (ho o h)
    by_cases hl : E.length = C.ans.length
    · exact ⟨1, _, _, by omega, .want hl hw.le hv⟩
    · have hl : E.length < C.ans.length := by omega
      have : ∃ n E' r, n ≤ f + 1 ∧ Runs C cnt n (E ++ [evV C w ops]) (if C.ans.getD E.length ("n" : Str) = ("x" : Str) then y else x) E' r := by
        have es := evsOf_snoc hl
        by_cases hx' : C.ans.getD E.length ("n" : Str) = ("x" : Str)
        · rw [if_pos hx']
          refine iy _ (by simp; omega) ?_
          rw [List.length_append, List.length_singleton, es, hx']
          rfl
        · rw [if_neg hx']
          refine ix _ (by simp; omega) ?_
          rw [List.length_append, List.length_singleton, es, decide_eq_true hx']
      obtain ⟨n, E', r, hn, hr⟩ := this
      exact ⟨n + 1, E', r, by omega, .go hl hw.le hv hr⟩
noncomputable def eoC : MT := (mB (mBin (gEqA true) (mBin gItem (mVar 1) (mC (.int 0))) (mC (.str "end"))))
@[irreducible] noncomputable def eoT (ck : Tabl) : MS := (mAsg (mBin gItem (mBin gItem (mVar 1) (mC (.int 2))) (mIdxK ["t", "f", "n"] (mBin gItem (mMeth "MachineCall" "object_at" (ck.f .m_MachineCall_object_at) (mVar 0) (mCons (mBin gItem (mVar 1) (mC (.int 1))) mNil)) (mC (.int 1))))) (nName 1))
@[irreducible] noncomputable def eoA (ck : Tabl) : MS := (mSeq (mAsg (mCall gLen (mCons (mFld pf_events "events" (mVar 0)) mNil)) (nName 2))
    (mSeq (mDrop (mBM gAppend (mFld pf_events "events" (mVar 0)) (mCons (mTup (mCons (mBin gItem (mVar 1) (mC (.int 1))) (mCons (mCall gTuple (mCons (mLc (mAnyI (mBin gItem (mVar 1) (mC (.int 2)))) (ngName 3) mYes (mMeth "MachineCall" "value" (ck.f .m_MachineCall_value) (mVar 0) (mCons (mVar 3) mNil)) [3]) mNil)) mNil))) mNil)))
    (mSeq (mIfS (mB (mBin (gEqA false) (mVar 2) (mCall gLen (mCons (mFld pf_answers "answers" (mVar 0)) mNil))))
    (mRet (mC .non))
    mSkip)
    (mAsg (mBin gItem (mBin gItem (mVar 1) (mC (.int 3))) (mIf (mB (mBin (gEqA false) (mBin gItem (mFld pf_answers "answers" (mVar 0)) (mVar 2)) (mC (.str "x")))) (mC (.int 1)) (mC (.int 0)))) (nName 1)))))
theorem b_eo (ck : Tabl) : b_m_MachineCall_end_of ck = (mSeq (whileM eoC (mIfS (mB (mBin (gEqA false) (mBin gItem (mVar 1) (mC (.int 0))) (mC (.str "test")))) (eoT ck) (eoA ck)) turns) (mRet (mVar 1))) := by
  unfold eoT eoA eoC
  rfl
end K51
set_option maxHeartbeats 4000000
namespace K51
open PySem L2 MI
theorem kp_le {S : List Nat} {m m' : Mem} (k : Kp [] m m') : Kp S m m' := k.mono (by simp)
theorem eoT_ok {C : Ctx} {o le aT n : Nat} {E : List MV} {m : Mem} {v x y z : MV} {x2 x3 : Option MV} {k : Nat} {Q : Fl → Mem → Prop} {Ex : Exn → Mem → Prop} (ok : C.Ok) (R : RunAt C o le aT E m) (hn : n ≤ C.ans.length) (h : At C n v) (q : Q (.nx [some (.ref o), some (pick3 (C.ob v).2 x y z), x2, x3]) m) :
    MI.W (eoT (Tab (k + 1)) [some (.ref o), some (.tup [.str "test", v, .tup [x, y, z]]), x2, x3] m) Q Ex := by
  unfold eoT
  have kd := h.kind ok hn
  simp
  refine ⟨R.has (by simp), (oat_ok (k := k) R hn h).mono ?_ (fun x m' h => h.elim)⟩
  rintro d m' ⟨rfl, rfl⟩
  unfold prV
  simp only [List.mem_cons, List.mem_nil_iff, or_false] at kd
  rcases kd with e | e | e
  · rw [e] at q
    simp [e]
    exact q
  · rw [e] at q
    simp [e]
    exact q
  · rw [e] at q
    simp [e]
    exact q
theorem eoA_ok {C : Ctx} {o le aT : Nat} {E : List MV} {m : Mem} {w : Str} {ops : List MV} {x y : MV} {x2 x3 : Option MV} {k : Nat} {Q : Fl → Mem → Prop} {Ex : Exn → Mem → Prop} (ok : C.Ok) (R : RunAt C o le aT E m) (hn : E.length ≤ C.ans.length) (ho : ops.length ≤ 3) (hv : ∀ v ∈ ops, Opv C E.length v)
    (q : ∀ m', RunAt C o le aT (E ++ [evV C w ops]) m' → Kp [le] m m' → if E.length = C.ans.length then Q (.rt .non) m' else Q (.nx [some (.ref o), some (if C.ans.getD E.length ("n" : Str) = ("x" : Str) then y else x), some (.int E.length), x3]) m') :
    MI.W (eoA (Tab (k + 2)) [some (.ref o), some (.tup [.str "ask", .str w, .tup ops, .tup [x, y]]), x2, x3] m) Q Ex := by
  unfold eoA
  have al := ok.al
  obtain ⟨aA, aO, aH, aP, aV, h1, h2, h3, h4, h5, h6, n1, n2, n3, n4, n5, n6⟩ := R.ex
  have sz : ∀ n, n ≤ 3000 → n ≤ sizeLine := fun n h => szl h
  simp
  refine W_gFld h1 rfl rfl ?_
  simp [R.ev]
  refine W_gFld h1 rfl rfl ?_
  simp [lstOf, R.ev]
  refine W_pureN C.val (fun _ => true) trivial (fun d hd => ⟨rfl, fun _ => ?_⟩) (by omega) (fun l hl => ?_)
  · refine W_eq ?_
    simp [wipeM]
    refine ⟨R.has (by simp), ?_⟩
    exact pval_ok (k := k) R hn (hv d hd)
  · rw [filter_all] at hl
    subst hl
    have k0 : Kp [] m (m ++ [MO.lst (ops.map C.val)]) := Kp.app
    have R1 := R.kp k0
    have R2 : RunAt C o le aT (E ++ [evV C w ops]) ((m ++ [MO.lst (ops.map C.val)]).set le (.lst (E ++ [evV C w ops]))) := R1.put
    have k2 : Kp [le] m ((m ++ [MO.lst (ops.map C.val)]).set le (.lst (E ++ [evV C w ops]))) := (kp_le k0).trans (Kp.wr (by simp))
    have q := q _ R2 k2
    have ev : (m ++ [MO.lst (ops.map C.val)])[le]? = some (.lst E) := R1.ev
    have ee : evV C w ops = .tup [.str w, .tup (ops.map C.val)] := rfl
    rw [ee] at R2 k2 q
    refine ⟨sz 2 (by omega), ?_⟩
    rw [ev]
    refine ⟨Nat.lt_of_lt_of_le (by omega) (sz 3000 (by omega)), ?_⟩
    generalize (List.set (m ++ [MO.lst (List.map C.val ops)]) le (MO.lst (E ++ [MV.tup [MV.str w, MV.tup (List.map C.val ops)]]))) = m' at R2 k2 q
    obtain ⟨bA, bO, bH, bP, bV, g1, g2, g3, g4, g5, g6, _⟩ := R2.ex
    refine W_gFld g1 rfl rfl ?_
    simp [g2]
    by_cases hl : E.length = C.ans.length
    · have hl' : ((E.length : Nat) : Int) = C.ans.length := by omega
      rw [if_pos hl] at q
      rw [if_pos hl']
      exact q
    · have hl' : ¬ (((E.length : Nat) : Int) = C.ans.length) := by omega
      rw [if_neg hl] at q
      rw [if_neg hl']
      have a3 : atM [MV.str "ask", MV.str w, MV.tup ops, MV.tup [x, y]] 3 = some (.tup [x, y]) := rfl
      rw [a3]
      simp only
      refine W_gFld g1 rfl rfl ?_
      have := atM_map (l := C.ans) (f := MV.str) (d := ("n" : Str)) (i := E.length) (by omega)
      simp only [W_item_r, g2, this]
      by_cases hx : C.ans.getD E.length ("n" : Str) = ("x" : Str)
      · rw [if_pos hx] at q
        rw [hx]
        simp
        exact q
      · rw [if_neg hx] at q
        generalize C.ans.getD E.length ("n" : Str) = a at q hx
        simp [hx]
        exact q
/-- how the loop ends -/
def EndFl (o : Nat) : Option MV → Fl → Prop
  | some d, fl => ∃ y2 y3, fl = .nx [some (.ref o), some d, y2, y3]
  | none, fl => fl = .rt .non
/-- the loop -/
theorem eo_loop {C : Ctx} {o le aT : Nat} {cnt : List Nat} {k : Nat} (ok : C.Ok) {n : Nat} {E E' : List MV} {t : MV} {r : Option MV} (h : Runs C cnt n E t E' r) : ∀ (fuel : Nat) (m : Mem) (x2 x3 : Option MV), n < fuel → RunAt C o le aT E m →
    MI.W (whileM eoC (mIfS (mB (mBin (gEqA false) (mBin gItem (mVar 1) (mC (.int 0))) (mC (.str "test")))) (eoT (Tab (k + 2))) (eoA (Tab (k + 2)))) fuel [some (.ref o), some t, x2, x3] m)
      (fun fl m' => EndFl o r fl ∧ RunAt C o le aT E' m' ∧ Kp [le] m m') E0 := by
  induction h with
  | @fin E d hE hd =>
    intro fuel m x2 x3 hf R
    obtain ⟨fuel, rfl⟩ : ∃ g, fuel = g + 1 := ⟨fuel - 1, by omega⟩
    refine while_step ?_
    obtain ⟨ov, num, hold, rfl, _⟩ := hd.ex
    unfold eoC
    simp [EndFl]
    exact ⟨R, Kp.refl⟩
  | @test n E E' v x y z r hE hv hr ih =>
    intro fuel m x2 x3 hf R
    obtain ⟨fuel, rfl⟩ : ∃ g, fuel = g + 1 := ⟨fuel - 1, by omega⟩
    refine while_step ?_
    unfold eoC
    simp
    refine eoT_ok (k := k + 1) ok R hE hv ?_
    exact ih fuel m x2 x3 (by omega) R
  | @want E w ops x y hl ho hv =>
    intro fuel m x2 x3 hf R
    obtain ⟨fuel, rfl⟩ : ∃ g, fuel = g + 1 := ⟨fuel - 1, by omega⟩
    refine while_step ?_
    unfold eoC
    simp
    refine eoA_ok (k := k) ok R (by omega) ho hv fun m' R' k' => ?_
    rw [if_pos hl]
    exact ⟨rfl, R', k'⟩
  | @go n E E' w ops x y r hl ho hv hr ih =>
    intro fuel m x2 x3 hf R
    obtain ⟨fuel, rfl⟩ : ∃ g, fuel = g + 1 := ⟨fuel - 1, by omega⟩
    refine while_step ?_
    unfold eoC
    simp
    refine eoA_ok (k := k) ok R (by omega) ho hv fun m' R' k' => ?_
    rw [if_neg (by omega)]
    refine (ih fuel m' _ _ (by omega) R').mono ?_
    rintro fl m2 ⟨h1, R2, k2⟩
    exact ⟨h1, R2, k'.trans k2⟩
/-- end_of -/
theorem eo_ok {C : Ctx} {o le aT : Nat} {cnt : List Nat} {k n : Nat} (ok : C.Ok) {E E' : List MV} {t : MV} {r : Option MV} {m : Mem} (h : Runs C cnt n E t E' r) (hn : n ≤ 100) (R : RunAt C o le aT E m) :
    MI.W ((Tab (k + 3)).f .m_MachineCall_end_of [.ref o, t] m) (fun d m' => d = r.getD .non ∧ RunAt C o le aT E' m' ∧ Kp [le] m m') E0 := by
  have e1 : (Tab (k + 3)).f .m_MachineCall_end_of = f_m_MachineCall_end_of (Tab (k + 2)) := rfl
  rw [e1]
  unfold f_m_MachineCall_end_of
  rw [b_eo, W_end, W_seq]
  refine (eo_loop (k := k) ok h turns m none none (by unfold turns; omega) R).mono ?_
  rintro fl m' ⟨h1, R', k'⟩
  cases r with
  | none =>
    rw [show fl = .rt .non from h1]
    exact ⟨rfl, R', k'⟩
  | some d =>
    obtain ⟨y2, y3, rfl⟩ := h1
    show MI.W (mRet (mVar 1) [some (.ref o), some d, y2, y3] m') _ _
    simp
    exact ⟨R', k'⟩
end K51
set_option maxHeartbeats 4000000
namespace K51
open PySem L2 MI
/-- a comprehension, any target, that changes nothing -/
theorem lc_map {chk : Mem → Prop} {g : NG} {e : ME} {ρ : MI.Env} {m : Mem} (φ : MV → MV) : ∀ (l acc : List MV), chk m → (∀ d ∈ l, ∃ as, g d m = some as ∧ e (setE ρ as) m = .ok (φ d) m) → acc.length + l.length ≤ 3000 → lcM chk g mYes e ρ l acc m = .ok (acc ++ l.map φ) m
  | [], acc, hc, _, _ => by
    unfold lcM
    rw [if_pos hc]
    simp
  | d :: l, acc, hc, h, hl => by
    obtain ⟨as, h1, h2⟩ := h d List.mem_cons_self
    unfold lcM
    rw [if_pos hc, h1]
    show (match e (setE ρ as) m with
        | .ok y m3 => if acc.length < sizeLine then lcM chk g mYes e ρ l (acc ++ [y]) m3 else .stuck
        | _ => .stuck) = _
    rw [h2]
    simp only [List.length_cons] at hl
    dsimp only
    rw [if_pos (Nat.lt_of_lt_of_le (by omega) (szl (n := 3000) (Nat.le_refl _))), lc_map φ l (acc ++ [φ d]) hc (fun x hx => h x (List.mem_cons_of_mem _ hx)) (by simp; omega)]
    simp
theorem W_map {chk : Mem → Prop} {g : NG} {e : ME} {ρ : MI.Env} {m : Mem} {l : List MV} {Q : List MV → Mem → Prop} {E : Exn → Mem → Prop} (φ : MV → MV) (hc : chk m) (h : ∀ d ∈ l, ∃ as, g d m = some as ∧ e (setE ρ as) m = .ok (φ d) m) (hl : l.length ≤ 3000) (q : ∀ k, k = l.map φ → Q k m) :
    MI.W (lcM chk g mYes e ρ l [] m) Q E := by with_unfolding_all
  rw [lc_map φ l [] hc h (by simpa using hl)]
  exact q _ rfl
theorem W_gMake {c : Str} {F : MF} {ds : List MV} {m : Mem} {Q : MV → Mem → Prop} {E : Exn → Mem → Prop} (h : MI.W (F (.ref m.length :: ds) (m ++ [.own c []])) (fun d m' => d = .non ∧ Q (.ref m.length) m') E0) : MI.W (gMake c F ds m) Q E := by with_unfolding_all
  unfold gMake
  cases hf : F (.ref m.length :: ds) (m ++ [.own c []]) with
  | stuck => rw [hf] at h; exact h.elim
  | ex x m1 => rw [hf] at h; exact h.elim
  | ok d m1 =>
    rw [hf] at h
    rw [W_ok] at h; obtain ⟨rfl, q⟩ := h
    exact q
theorem W_zip {g : MA} {ρ : MI.Env} {m : Mem} {Q : IterM → Mem → Prop} {E : Exn → Mem → Prop} : MI.W (mZip g ρ m) Q E = MI.W (g ρ m) (fun ds m => MI.W (zipOf ds m) Q E) E := by
  unfold mZip
  rw [W_bind]
theorem W_zipOf {l k : List MV} {m : Mem} {Q : IterM → Mem → Prop} {E : Exn → Mem → Prop} (h : l.length = k.length) : MI.W (zipOf [.tup l, .tup k] m) Q E = Q ⟨zipd l k, fun _ => True⟩ m := by with_unfolding_all
  show MI.W (if l.length = k.length then .ok ⟨zipd l k, fun _ => True⟩ m else .stuck) Q E = _
  rw [if_pos h]
  rfl
def prN (num : Nat) (d : MV) : MV := match d with
  | .tup [a, b] => .tup [.tup [.int num, .tup [.str "name", a]], b]
  | _ => .non
def prE (num : Nat) (d : MV) : MV := match d with
  | .tup [a, b] => .tup [.tup [.int num, .tup [.str "event", a]], b]
  | _ => .non
theorem par_list {C : Ctx} (h : C.kinds.length = C.ps.length) : (zipd (C.ps.map .str) (C.kinds.map .str)).map (prN C.num) = (List.range C.ps.length).map fun i => prV (C.par i) := by
  refine List.ext_getElem? fun i => ?_
  unfold zipd
  rw [List.getElem?_map, List.getElem?_zipWith, List.getElem?_map, List.getElem?_map, List.getElem?_map]
  by_cases hi : i < C.ps.length
  · rw [List.getElem?_eq_getElem hi, List.getElem?_eq_getElem (show i < C.kinds.length by omega), List.getElem?_range hi]
    simp [prN, prV, Ctx.par, srcN, List.getElem?_eq_getElem hi, List.getElem?_eq_getElem (show i < C.kinds.length by omega)]
  · rw [List.getElem?_eq_none (show C.ps.length ≤ i by omega), List.getElem?_eq_none (show C.kinds.length ≤ i by omega), List.getElem?_eq_none (show (List.range C.ps.length).length ≤ i by simp; omega)]
    rfl
theorem evt_list {C : Ctx} : (numd (C.ans.map .str)).map (prE C.num) = (List.range C.ans.length).map fun i => prV (C.evt i) := by
  refine List.ext_getElem? fun i => ?_
  unfold numd
  rw [List.getElem?_map, List.getElem?_zipWith, List.getElem?_map, List.getElem?_map, List.length_map]
  by_cases hi : i < C.ans.length
  · rw [List.getElem?_eq_getElem hi, List.getElem?_range hi]
    simp [prE, prV, Ctx.evt, srcE, List.getElem?_eq_getElem hi]
  · rw [List.getElem?_eq_none (show C.ans.length ≤ i by omega), List.getElem?_eq_none (show (List.range C.ans.length).length ≤ i by simp; omega)]
    rfl
theorem mk_ok {C : Ctx} (ok : C.Ok) {bg sts : MV} {aA aH aT : Nat} {m : Mem} {k : Nat} (tA : aT ≠ aA) (tH : aT ≠ aH) (tm : aT < m.length) (hA : m[aA]? = some (.lst (C.ans.map .str))) (hH : m[aH]? = some (.lst (C.held.map prV))) :
    MI.W (gMake "MachineCall" ((Tab (k + 1)).f .i_MachineCall) [.tup [.tup (C.ps.map .str), bg, sts], .int C.num, .ref aH, .tup [.tup (C.kinds.map .str), .ref aA]] m) (fun d m' => ∃ o le, d = .ref o ∧ RunAt C o le aT [] m' ∧ m.length ≤ o ∧ m.length ≤ le ∧ Kp [] m m') E0 := by
  refine W_gMake ?_
  have e1 : (Tab (k + 1)).f .i_MachineCall = f_i_MachineCall (Tab k) := rfl
  rw [e1]
  unfold f_i_MachineCall b_i_MachineCall
  have al := ok.al
  have pl := ok.pl
  have kl := ok.kl
  have hA1 : ∀ r : List MO, (m ++ r)[aA]? = some (.lst (C.ans.map .str)) := fun r => (Kp.app (S := [])).get hA (by simp)
  have own1 : ∀ (m : Mem) (l : List (Str × MV)) (r : List MO), ownOf (m ++ .own "MachineCall" l :: r) (.ref m.length) = some (m.length, ("MachineCall" : Str), l) := fun m l r => ownOf_at (by simp)
  have set1 : ∀ (m : Mem) (a b : MO) (r : List MO), (m ++ a :: r).set m.length b = m ++ b :: r := fun m a b r => by simp
  have zl : (C.ps.map MV.str).length = (C.kinds.map MV.str).length := by simp [kl]
  have n1 : ¬ (("number" : Str) = "answers") := by decide
  have n2 : ¬ (("number" : Str) = "events") := by decide
  have n3 : ¬ (("answers" : Str) = "events") := by decide
  have n4 : ¬ (("number" : Str) = "objects") := by decide
  have n5 : ¬ (("answers" : Str) = "objects") := by decide
  have n6 : ¬ (("events" : Str) = "objects") := by decide
  have s3 : 2 ≤ sizeLine := szl (n := 2) (by omega)
  simp [startM, n1, n2, n3, n4, n5, n6, W_asgT, nCons, nName, nNil, own1, set1, pf_number, pf_answers, pf_events, putFM, W_zip, W_zipOf zl]
  refine W_map (prN C.num) trivial (fun d hd => ?_) (by simp [zipd]; omega) (fun l1 hl1 => ?_)
  · obtain ⟨i, hi⟩ := List.mem_iff_getElem?.mp hd
    obtain ⟨x, y, e1, e2, rfl⟩ := zipd_get hi
    refine ⟨[(7, x), (8, y)], rfl, W_eq ?_⟩
    simp [wipeM, setE, prN, s3]
  rw [par_list kl] at hl1
  subst hl1
  simp [enumOf, lstOf, hA1]
  refine W_map (prE C.num) (by simp [hA1]) (fun d hd => ?_) (by simp; omega) (fun l2 hl2 => ?_)
  · obtain ⟨i, hi⟩ := List.mem_iff_getElem?.mp hd
    obtain ⟨x, e1, rfl⟩ := zw_get hi
    refine ⟨[(9, .int i), (8, x)], rfl, W_eq ?_⟩
    simp [wipeM, setE, prE, s3]
  rw [evt_list] at hl2
  subst hl2
  have g2 : ∀ (m : Mem) (a b c : MO) (r : List MO), (m ++ a :: b :: c :: r)[m.length + 1 + 1]? = some c := fun m a b c r => by
    exact at_app (m := m) (r := a :: b :: c :: r) (i := 2)
  have set2 : ∀ (m : Mem) (a b c d : MO) (r : List MO), (m ++ a :: b :: c :: r).set (m.length + 1 + 1) d = m ++ a :: b :: d :: r := fun m a b c d r => by
    rw [List.set_append_right _ _ (by omega)]
    rw [show m.length + 1 + 1 - m.length = 2 by omega]
    rfl
  have fe : ∀ a b c : MV, foldE [] [(.inr "place", a), (.inr "parameter", b), (.inr "event", c)] = [(.inr "place", a), (.inr "parameter", b), (.inr "event", c)] := fun a b c => by rfl
  simp only [List.append_assoc, List.cons_append, List.nil_append, g2, set2, own1, set1, fe]
  simp [putFM, n4, n5, n6, pf_objects]
  refine ⟨m.length + 1, ⟨⟨aA, m.length + 2, aH, m.length + 3, m.length + 4, ?_⟩, ?_⟩, by omega, Kp.app⟩
  · have la := (List.getElem?_eq_some_iff.mp hA).1
    have lh := (List.getElem?_eq_some_iff.mp hH).1
    have hH1 : ∀ r : List MO, (m ++ r)[aH]? = some (.lst (C.held.map prV)) := fun r => (Kp.app (S := [])).get hH (by simp)
    refine ⟨by simp, hA1 _, by rw [at_app]; rfl, hH1 _, by rw [at_app]; rfl, by rw [at_app]; rfl, by omega, by omega, by omega, by omega, by omega, by omega, by simp; omega⟩
  · rw [at_app]
    rfl
end K51
set_option maxHeartbeats 4000000
namespace K51
open PySem L2 MI
def outV (C : Ctx) : MV → MV
  | .tup [.str w, v] => if w = "value" then .tup [.str "value", C.val v] else .tup [.str w, v]
  | d => d
def ctxAt (M : Mach) (num : Nat) (held : List (MV × Str)) (c : List Str × List Str) : Ctx := ⟨num, M.ps, c.1, held, c.2⟩
inductive Play (M : Mach) : Nat → Nat → List (MV × Str) → List (List Str × List Str) → List (List MV × MV) → Prop
  | nil {num st : Nat} {held : List (MV × Str)} : Play M num st held [] []
  | want {num st n : Nat} {held : List (MV × Str)} {c : List Str × List Str} {rest : List (List Str × List Str)} {t : MV} {E : List MV} : (ctxAt M num held c).Ok → M.tr[st]? = some t → n ≤ 40 → Runs (ctxAt M num held c) M.cnt n [] t E none → Play M num st held (c :: rest) [(E, .tup [.str "wanting"])]
  | go {num st n : Nat} {held : List (MV × Str)} {c : List Str × List Str} {rest : List (List Str × List Str)} {t : MV} {E : List MV} {o : MV} {st' : Nat} {hold : List MV} {told : List (List MV × MV)} : (ctxAt M num held c).Ok → M.tr[st]? = some t → n ≤ 40 → Runs (ctxAt M num held c) M.cnt n [] t E (some (.tup [.str "end", o, .int st', .tup hold])) →
      E.length ≤ c.2.length → EndIs held.length M.ps.length M.cnt (evsOf (ctxAt M num held c) E.length) (.tup [.str "end", o, .int st', .tup hold]) → Play M (num + 1) st' (hold.map (ctxAt M num held c).ob) rest told → Play M num st held (c :: rest) ((E, outV (ctxAt M num held c) o) :: told)
theorem runs_end {C : Ctx} {cnt : List Nat} {n : Nat} {E E' : List MV} {t d : MV} {r : Option MV} (h : Runs C cnt n E t E' r) (e : r = some d) : E'.length ≤ C.ans.length ∧ EndIs C.held.length C.ps.length cnt (evsOf C E'.length) d := by
  induction h with
  | fin h1 h2 => cases e; exact ⟨h1, h2⟩
  | test _ _ _ ih => exact ih e
  | want _ _ _ => cases e
  | go _ _ _ _ ih => exact ih e
/-- a good history's calls -/
structure CallOk (M : Mach) (c : List Str × List Str) : Prop where
  kl : c.1.length = M.ps.length
  kd : ∀ k ∈ c.1, k ∈ tfn
  an : ∀ a ∈ c.2, a ∈ tfnx
  al : c.2.length ≤ 10
theorem at_src {C : Ctx} (ok : C.Ok) {n : Nat} (hn : n ≤ C.ans.length) {v : MV} (h : At C n v) : ∃ j, j < C.num + 1 ∧ IsSrc j (C.ob v).1 := by
  cases h with
  | pl h =>
    rw [ob_pl]
    obtain ⟨j, hj, hs⟩ := (ok.hd _ (getD_mem (d := dfl) h)).2
    exact ⟨j, by omega, hs⟩
  | pa h => rw [ob_pa]; exact ⟨C.num, by omega, .inl ⟨_, rfl⟩⟩
  | ev h h2 => rw [ob_ev]; exact ⟨C.num, by omega, .inr ⟨_, rfl⟩⟩
theorem play_of {M : Mach} (ok : M.Ok) : ∀ (hist : List (List Str × List Str)) (num st : Nat) (held : List (MV × Str)), (∀ c ∈ hist, CallOk M c) → M.cnt[st]? = some held.length → (∀ p ∈ held, p.2 ∈ tfn ∧ ∃ j, j < num ∧ IsSrc j p.1) → ∃ told, Play M num st held hist told
  | [], _, _, _, _, _, _ => ⟨[], .nil⟩
  | c :: rest, num, st, held, hc, hs, hh => by
    have co := hc c List.mem_cons_self
    have hst := (List.getElem?_eq_some_iff.mp hs).1
    have C : (ctxAt M num held c).Ok := ⟨co.kl, ok.p2, co.kd, hh, ok.cnts _ (List.mem_of_getElem? hs), co.an, co.al⟩
    have ht : M.tr[st]? = some (M.tr.getD st .non) := by rw [List.getD_eq_getElem?_getD, List.getElem?_eq_getElem (by rw [ok.len]; exact hst)]; rfl
    obtain ⟨f, hf, tr⟩ := ok.tree st _ _ hs ht
    obtain ⟨n, E, r, hn, hr⟩ := runs_of (C := ctxAt M num held c) tr [] (Nat.zero_le _) rfl
    cases r with
    | none => exact ⟨_, .want C ht (by omega) hr⟩
    | some d =>
      obtain ⟨hE, hd⟩ := runs_end hr rfl
      obtain ⟨o, st', hold, rfl, h1, h2, h3, h4⟩ := hd.ex
      have atv : ∀ v ∈ hold, At (ctxAt M num held c) E.length v := fun v hv => at_of hE (h3 v hv)
      obtain ⟨told, ht2⟩ := play_of ok rest (num + 1) st' (hold.map (ctxAt M num held c).ob) (fun c hc' => hc c (List.mem_cons_of_mem _ hc')) (by
        rw [List.length_map, h2, List.getD_eq_getElem?_getD, List.getElem?_eq_getElem h1]
        rfl) (fun p hp => by
        obtain ⟨v, hv, rfl⟩ := List.mem_map.mp hp
        exact ⟨(atv v hv).kind C hE, at_src C hE (atv v hv)⟩)
      exact ⟨_, .go C ht (by omega) hr hE hd ht2⟩
end K51
set_option maxHeartbeats 4000000
namespace K51
open PySem L2 MI
@[irreducible] noncomputable def rmT (ck : Tabl) : MS := (mSeq (mIfS (mB (mBin gIsN (mVar 8) (mC .non)))
    (mSeq (mDrop (mBM gAppend (mVar 4) (mCons (mTup (mCons (mFld pf_events "events" (mVar 7)) (mCons (mTup (mCons (mC (.str "wanting")) mNil)) mNil))) mNil)))
    mBrk)
    mSkip)
    (mSeq (mAsg (mVar 8) (nTup 4 (nCons (nName 9) (nCons (nName 10) (nCons (nName 2) (nCons (nName 11) nNil))))))
    (mSeq (mDrop (mBM gAppend (mVar 4) (mCons (mTup (mCons (mFld pf_events "events" (mVar 7)) (mCons (mIf (mB (mBin (gEqA false) (mBin gItem (mVar 10) (mC (.int 0))) (mC (.str "failed")))) (mVar 10) (mTup (mCons (mC (.str "value")) (mCons (mMeth "MachineCall" "value" (ck.f .m_MachineCall_value) (mVar 7) (mCons (mBin gItem (mVar 10) (mC (.int 1))) mNil)) mNil)))) mNil))) mNil)))
    (mAsg (mLc (mAnyI (mVar 11)) (ngName 12) mYes (mMeth "MachineCall" "object_at" (ck.f .m_MachineCall_object_at) (mVar 7) (mCons (mVar 12) mNil)) [12]) (nName 3)))))
@[irreducible] noncomputable def rmB (ck : Tabl) (g : MF) (k : Nat) : MS := (mSeq (mAsg (mPos k (mCall (gMake "MachineCall" g) (mCons (mVar 0) (mCons (mVar 5) (mCons (mVar 3) (mCons (mVar 6) mNil)))))) (nName 7))
    (mSeq (mAsg (mMeth "MachineCall" "end_of" (ck.f .m_MachineCall_end_of) (mVar 7) (mCons (mBin gItem (mBin gItem (mBin gItem (mVar 0) (mC (.int 2))) (mVar 2)) (mC (.int 1))) mNil)) (nName 8))
    (rmT ck)))
theorem b_rm (ck : Tabl) (h : Nat → Tabl) (k : Nat) : b_run_machine ck h k = (mSeq (mDrop (mCall (ck.f .check_machine) (mCons (mVar 0) mNil)))
    (mSeq (mDrop (mCall (ck.f .check_history) (mCons (mVar 0) (mCons (mVar 1) mNil))))
    (mSeq (mAsg (mBin gItem (mVar 0) (mC (.int 1))) (nName 2))
    (mSeq (mAsg (mLst mNil) (nName 3))
    (mSeq (mAsg (mLst mNil) (nName 4))
    (mSeq (mFor (mEnum (mCons (mVar 1) mNil)) (nTup 2 (nCons (nName 5) (nCons (nName 6) nNil))) (rmB ck ((h (k - 1)).f .i_MachineCall) k))
    (mRet (mVar 4)))))))) := by
  unfold rmB rmT
  rfl
section
variable {M : Mach} {num st n : Nat} {held : List (MV × Str)} {c : List Str × List Str} {t : MV} {E : List MV} {m : Mem} {k : Nat} {Q : Fl → Mem → Prop} {Ex : Exn → Mem → Prop}
theorem sts_at {cnt : List Nat} {tr : List MV} {i c : Nat} {t : MV} (h1 : cnt[i]? = some c) (h2 : tr[i]? = some t) : atM (stsV cnt tr) ((i : Nat) : Int) = some (.tup [.int c, t]) := by
  refine atM_nat ?_
  unfold stsV
  rw [List.getElem?_zipWith, h1, h2]
theorem rmT_want {C : Ctx} {o le aT : Nat} {L : List MV} {x0 x1 x2 x3 x5 x6 x9 x10 x11 x12 : Option MV} (R : RunAt C o le aT E m) (hT : m[aT]? = some (.lst L)) (hl : L.length ≤ 100) (q : Q (.bk [x0, x1, x2, x3, some (.ref aT), x5, x6, some (.ref o), some .non, x9, x10, x11, x12]) (m.set aT (.lst (L ++ [.tup [.ref le, .tup [.str "wanting"]]])))) :
    MI.W (rmT (Tab (k + 2)) [x0, x1, x2, x3, some (.ref aT), x5, x6, some (.ref o), some .non, x9, x10, x11, x12] m) Q Ex := by
  unfold rmT
  obtain ⟨aA, aO, aH, aP, aV, h1, _⟩ := R.ex
  have sz : ∀ n, n ≤ 3000 → n ≤ sizeLine := fun n h => szl h
  simp [lstOf, hT]
  refine W_gFld h1 rfl rfl ?_
  simp [hT, sz 2 (by omega), sz 1 (by omega)]
  exact ⟨Nat.lt_of_lt_of_le (by omega) (sz 3000 (by omega)), q⟩
theorem rmT_go {C : Ctx} (ok : C.Ok) {o le aT : Nat} {L : List MV} {cnt : List Nat} {ov : MV} {st' : Nat} {hold : List MV} {x0 x1 x2 x3 x5 x6 x9 x10 x11 x12 : Option MV} (R : RunAt C o le aT E m) (hE : E.length ≤ C.ans.length) (hd : EndIs C.held.length C.ps.length cnt (evsOf C E.length) (.tup [.str "end", ov, .int st', .tup hold])) (hh : hold.length ≤ 8)
    (hT : m[aT]? = some (.lst L)) (hl : L.length ≤ 100) (q : ∀ x9 x10 x11 x12, Q (.nx [x0, x1, some (.int st'), some (.ref m.length), some (.ref aT), x5, x6, some (.ref o), some (.tup [.str "end", ov, .int st', .tup hold]), x9, x10, x11, x12]) ((m.set aT (.lst (L ++ [.tup [.ref le, outV C ov]]))) ++ [.lst ((hold.map C.ob).map prV)])) :
    MI.W (rmT (Tab (k + 2)) [x0, x1, x2, x3, some (.ref aT), x5, x6, some (.ref o), some (.tup [.str "end", ov, .int st', .tup hold]), x9, x10, x11, x12] m) Q Ex := by
  unfold rmT
  obtain ⟨aA, aO, aH, aP, aV, h1, _⟩ := R.ex
  have sz : ∀ n, n ≤ 3000 → n ≤ sizeLine := fun n h => szl h
  obtain ⟨ov', st2, hold', e, h2, h3, h4, h5⟩ := hd.ex
  simp at e
  obtain ⟨rfl, _, rfl⟩ := e
  simp [W_asgT, nCons, nName, nNil, lstOf, hT]
  refine W_gFld h1 rfl rfl ?_
  have hst : (st' : Int) = st' := rfl
  have last : ∀ {x9 x10 : Option MV}, MI.W (lcM (fun _ => True) (ngName 12) mYes (mMeth "MachineCall" "object_at" ((Tab (k + 2)).f .m_MachineCall_object_at) (mVar 7) (mCons (mVar 12) mNil))
      (wipeM [x0, x1, some (.int st'), x3, some (.ref aT), x5, x6, some (.ref o), some (.tup [.str "end", ov, .int st', .tup hold]), x9, x10, some (.tup hold), x12] [12]) hold [] (m.set aT (.lst (L ++ [.tup [.ref le, outV C ov]]))))
      (fun l m => Q (.nx [x0, x1, some (.int st'), some (.ref m.length), some (.ref aT), x5, x6, some (.ref o), some (.tup [.str "end", ov, .int st', .tup hold]), x9, x10, some (.tup hold), x12]) (m ++ [.lst l])) (fun x m => Q (.ex x [x0, x1, some (.int st'), x3, some (.ref aT), x5, x6, some (.ref o), some (.tup [.str "end", ov, .int st', .tup hold]), x9, x10, some (.tup hold), x12]) m) := by
    intro x9 x10
    have R2 : RunAt C o le aT E (m.set aT (.lst (L ++ [.tup [.ref le, outV C ov]]))) := R.off (Kp.wr (by simp))
    have e0 : (m.set aT (.lst (L ++ [.tup [.ref le, outV C ov]]))).length = m.length := by simp
    have q := q x9 x10 (some (.tup hold)) x12
    rw [← e0] at q
    generalize (m.set aT (.lst (L ++ [.tup [.ref le, outV C ov]]))) = m1 at R2 q
    refine W_pureN (fun v => prV (C.ob v)) (fun _ => true) trivial (fun d hd => ⟨rfl, fun _ => W_eq ?_⟩) (by omega) (fun l hl => ?_)
    · simp [wipeM]
      exact ⟨R2.has (by simp), oat_ok (k := k + 1) R2 hE (at_of hE (h4 d hd))⟩
    · rw [filter_all] at hl
      rw [List.map_map] at q
      subst hl
      exact q
  have lt : L.length < sizeLine := Nat.lt_of_lt_of_le (by omega) (sz 3000 (by omega))
  rcases h5 with ⟨v, rfl, hv⟩ | ⟨j, rfl, hj⟩
  · have ne : ¬ (("value" : Str) = "failed") := by decide
    have eo : outV C (.tup [.str "value", v]) = .tup [.str "value", C.val v] := by
      show (if ("value" : Str) = "value" then MV.tup [.str "value", C.val v] else .tup [.str "value", v]) = _
      rw [if_pos rfl]
    rw [eo] at last
    simp [ne]
    refine ⟨R.has (by simp), (pval_ok (k := k) R hE (opv_of hE hv)).mono ?_ (fun x m' h => h.elim)⟩
    rintro d m' ⟨rfl, rfl⟩
    rw [hT]
    exact ⟨sz 2 (by omega), lt, last⟩
  · have ne : ¬ (("failed" : Str) = "value") := by decide
    have eo : outV C (.tup [.str "failed", .int j]) = .tup [.str "failed", .int j] := by
      show (if ("failed" : Str) = "value" then MV.tup [.str "value", C.val (.int j)] else .tup [.str "failed", .int j]) = _
      rw [if_neg ne]
    rw [eo] at last
    simp
    rw [hT]
    exact ⟨sz 2 (by omega), lt, last⟩
end
end K51
set_option maxHeartbeats 4000000
namespace K51
open PySem L2 MI
def wantV : MV := .tup [.str "wanting"]
theorem Kp.sub {S S' : List Nat} {m m' m2 : Mem} (a : Kp S m m') (b : Kp S' m' m2) (h : ∀ x ∈ S', x ∈ S ∨ m.length ≤ x) : Kp S m m2 :=
  ⟨Nat.le_trans a.1 b.1, fun n h1 h2 => (b.2 n (Nat.lt_of_lt_of_le h1 a.1) fun z => by
    rcases h n z with z | z
    · exact h2 z
    · omega).trans (a.2 n h1 h2)⟩
section
variable {M : Mach} {num st n : Nat} {held : List (MV × Str)} {c : List Str × List Str} {t : MV} {E : List MV} {m : Mem} {k : Nat} {Q : Fl → Mem → Prop} {Ex : Exn → Mem → Prop}
theorem rmB_ok (co : (ctxAt M num held c).Ok) (mo : M.Ok) {c0 : Nat} {hs : M.cnt[st]? = some c0} (ht : M.tr[st]? = some t) {r : Option MV} (hn : n ≤ 40) (hr : Runs (ctxAt M num held c) M.cnt n [] t E r) {aA aH aT : Nat} {L : List MV} (hA : m[aA]? = some (.lst (c.2.map .str))) (hH : m[aH]? = some (.lst (held.map prV))) (hT : m[aT]? = some (.lst L)) (hl : L.length ≤ 100) (tA : aT ≠ aA) (tH : aT ≠ aH)
    {x1 x7 x8 x9 x10 x11 x12 : Option MV} {kk : Nat}
    (q1 : ∀ le m' y7 y8 y9 y10 y11 y12, r = none → m'[aT]? = some (.lst (L ++ [.tup [.ref le, wantV]])) → m'[le]? = some (.lst E) → m.length ≤ le → Kp [aT] m m' → Q (.bk [some M.v, x1, some (.int st), some (.ref aH), some (.ref aT), some (.int num), some (.tup [.tup (c.1.map .str), .ref aA]), y7, y8, y9, y10, y11, y12]) m')
    (q2 : ∀ le m' y7 y8 y9 y10 y11 y12 o st' hold aH', r = some (.tup [.str "end", o, .int ((st' : Nat) : Int), .tup hold]) → m'[aT]? = some (.lst (L ++ [.tup [.ref le, outV (ctxAt M num held c) o]])) → m'[le]? = some (.lst E) → m.length ≤ le → m'[aH']? = some (.lst ((hold.map (ctxAt M num held c).ob).map prV)) → m.length ≤ aH' → aH' ≠ le → Kp [aT] m m' →
      Q (.nx [some M.v, x1, some (.int st'), some (.ref aH'), some (.ref aT), some (.int num), some (.tup [.tup (c.1.map .str), .ref aA]), y7, y8, y9, y10, y11, y12]) m') :
    MI.W (rmB (Tab (k + 3)) ((Tab (k + 2)).f .i_MachineCall) (kk + 1) [some M.v, x1, some (.int st), some (.ref aH), some (.ref aT), some (.int num), some (.tup [.tup (c.1.map .str), .ref aA]), x7, x8, x9, x10, x11, x12] m) Q Ex := by
  unfold rmB mPos
  simp
  have tm : aT < m.length := (List.getElem?_eq_some_iff.mp hT).1
  refine (mk_ok (k := k + 1) co (bg := .int M.bg) (sts := .tup (stsV M.cnt M.tr)) (aA := aA) (aH := aH) (aT := aT) tA tH tm hA hH).mono ?_ (fun x m' h => h.elim)
  rintro d m1 ⟨o, le, rfl, R, ho, hle, k1⟩
  refine ⟨R.has (by simp), ?_⟩
  have hv : M.v = .tup [.tup (M.ps.map .str), .int M.bg, .tup (stsV M.cnt M.tr)] := rfl
  rw [hv]
  simp [sts_at hs ht]
  refine (eo_ok (k := k) co hr (by omega) R).mono ?_ (fun x m' h => h.elim)
  rintro d m2 ⟨rfl, R2, k2⟩
  have k3 : Kp [] m m2 := k1.sub k2 (fun x hx => by simp at hx; subst hx; exact .inr hle)
  have hT2 := k3.get hT (by simp)
  have nle : le ≠ aT := by omega
  cases r with
  | none =>
    refine rmT_want (k := k + 1) R2 hT2 hl ?_
    refine q1 le _ _ _ _ _ _ _ rfl ?_ ?_ hle ((kp_le k3).trans (Kp.wr (by simp)))
    · have := (List.getElem?_eq_some_iff.mp hT2).1
      simp [this]
      rfl
    · rw [List.getElem?_set_ne (Ne.symm nle)]
      exact R2.ev
  | some d =>
    obtain ⟨hE, hd⟩ := runs_end hr rfl
    obtain ⟨ov, st', hold, rfl, h1, h2, h3, h4⟩ := hd.ex
    have hh : hold.length ≤ 8 := by
      rw [h2, List.getD_eq_getElem?_getD, List.getElem?_eq_getElem h1]
      exact mo.cnts _ (List.getElem_mem h1)
    refine rmT_go (k := k + 1) co (cnt := M.cnt) R2 hE hd hh hT2 hl fun y9 y10 y11 y12 => ?_
    have la := (List.getElem?_eq_some_iff.mp hT2).1
    have e0 : (m2.set aT (.lst (L ++ [.tup [.ref le, outV (ctxAt M num held c) ov]]))).length = m2.length := by simp
    refine q2 le _ _ _ _ _ _ _ ov st' hold m2.length rfl ?_ ?_ hle ?_ k3.1 ?_ (((kp_le k3).trans (Kp.wr (by simp))).trans Kp.app)
    · rw [List.getElem?_append_left (by rw [e0]; exact la)]
      simp [la]
    · have ll := (List.getElem?_eq_some_iff.mp R2.ev).1
      rw [List.getElem?_append_left (by rw [e0]; exact ll), List.getElem?_set_ne (Ne.symm nle)]
      exact R2.ev
    · rw [List.getElem?_append_right (by omega), e0]
      simp
    · have ll := (List.getElem?_eq_some_iff.mp R2.ev).1
      omega
end
end K51
set_option maxHeartbeats 4000000
namespace K51
open PySem L2 MI
/-- what was told: the list's items, the events' lists at les -/
structure ToldAt (m : Mem) (b aT : Nat) (L : List MV) (told : List (List MV × MV)) (les : List Nat) : Prop where
  l1 : L.length = told.length
  l2 : les.length = told.length
  at_ : ∀ (i : Nat) E o l, told[i]? = some (E, o) → les[i]? = some l → L[i]? = some (.tup [.ref l, o]) ∧ m[l]? = some (.lst E)
  nd : les.Nodup
  lo : ∀ l ∈ les, b ≤ l ∧ l ≠ aT ∧ l < m.length
theorem ToldAt.kp {m m' : Mem} {b aT : Nat} {L : List MV} {told : List (List MV × MV)} {les : List Nat} (h : ToldAt m b aT L told les) (k : Kp [aT] m m') : ToldAt m' b aT L told les :=
  ⟨h.l1, h.l2, fun i E o l h1 h2 => by
    obtain ⟨z1, z2⟩ := h.at_ i E o l h1 h2
    exact ⟨z1, k.get z2 (by have := (h.lo l (List.mem_of_getElem? h2)).2.1; simp [this])⟩, h.nd, fun l hl => by
    obtain ⟨z1, z2, z3⟩ := h.lo l hl
    exact ⟨z1, z2, Nat.lt_of_lt_of_le z3 k.1⟩⟩
theorem ToldAt.snoc {m m' : Mem} {b aT le : Nat} {L : List MV} {told : List (List MV × MV)} {les : List Nat} {E : List MV} {o : MV} (h : ToldAt m b aT L told les) (k : Kp [aT] m m') (he : m'[le]? = some (.lst E)) (hle : m.length ≤ le) (hb : b ≤ m.length) (hT : aT < m.length) : ToldAt m' b aT (L ++ [.tup [.ref le, o]]) (told ++ [(E, o)]) (les ++ [le]) := by
  have h' := h.kp k
  refine ⟨by simp [h.l1], by simp [h.l2], fun i E' o' l h1 h2 => ?_, ?_, fun l hl => ?_⟩
  · by_cases hi : i < told.length
    · rw [List.getElem?_append_left hi] at h1
      rw [List.getElem?_append_left (by rw [h.l2]; exact hi)] at h2
      rw [List.getElem?_append_left (by rw [h.l1]; exact hi)]
      exact h'.at_ i E' o' l h1 h2
    · rw [List.getElem?_append_right (by omega)] at h1
      rw [List.getElem?_append_right (by rw [h.l2]; omega)] at h2
      rw [List.getElem?_append_right (by rw [h.l1]; omega)]
      rw [h.l2] at h2
      rw [h.l1]
      cases hj : i - told.length with
      | zero =>
        rw [hj] at h1 h2
        simp at h1 h2
        obtain ⟨rfl, rfl⟩ := h1
        subst h2
        exact ⟨rfl, he⟩
      | succ j => rw [hj] at h1; simp at h1
  · refine List.nodup_append.mpr ⟨h.nd, by simp, fun x hx y hy => ?_⟩
    simp at hy
    subst hy
    have := (h.lo x hx).2.2
    omega
  · rcases List.mem_append.mp hl with hl | hl
    · exact h'.lo l hl
    · simp at hl
      subst hl
      exact ⟨by omega, by omega, (List.getElem?_eq_some_iff.mp he).1⟩
/-- the calls as values -/
def callV (c : List Str × List Str) (a : Nat) : MV := .tup [.tup (c.1.map .str), .ref a]
def itemsV : Nat → List (List Str × List Str) → List Nat → List MV
  | num, c :: cs, a :: as => .tup [.int num, callV c a] :: itemsV (num + 1) cs as
  | _, _, _ => []
theorem rm_loop {M : Mach} (mo : M.Ok) {b aT kk k : Nat} {m0 : Mem} {chk : Mem → Prop} (hc : ∀ m', Kp [aT] m0 m' → chk m') {num st : Nat} {held : List (MV × Str)} {hist : List (List Str × List Str)} {told : List (List MV × MV)} (h : Play M num st held hist told) :
    ∀ (as : List Nat) (L : List MV) (told0 : List (List MV × MV)) (les0 : List Nat) (m : Mem) (aH : Nat) (x1 x5 x6 x7 x8 x9 x10 x11 x12 : Option MV), M.cnt[st]? ≠ none → as.length = hist.length → (∀ (i : Nat) c a, hist[i]? = some c → as[i]? = some a → m[a]? = some (.lst (c.2.map .str)) ∧ a ≠ aT) → m[aH]? = some (.lst (held.map prV)) → aT ≠ aH → m[aT]? = some (.lst L) → ToldAt m b aT L told0 les0 → b ≤ m.length → told0.length + hist.length ≤ 50 → Kp [aT] m0 m →
    MI.W (loopM chk (nTup 2 (nCons (nName 5) (nCons (nName 6) nNil))) (rmB (Tab (k + 3)) ((Tab (k + 2)).f .i_MachineCall) (kk + 1)) (itemsV num hist as) [some M.v, x1, some (.int st), some (.ref aH), some (.ref aT), x5, x6, x7, x8, x9, x10, x11, x12] m)
      (fun fl m' => (∃ y1 y2 y3 y5 y6 y7 y8 y9 y10 y11 y12, fl = .nx [some M.v, y1, y2, y3, some (.ref aT), y5, y6, y7, y8, y9, y10, y11, y12]) ∧ ∃ L' les', m'[aT]? = some (.lst L') ∧ ToldAt m' b aT L' (told0 ++ told) (les0 ++ les') ∧ Kp [aT] m m') E0 := by
  induction h with
  | @nil num st held =>
    intro as L told0 les0 m aH x1 x5 x6 x7 x8 x9 x10 x11 x12 hst hl hA hH tH hT A hb hn k0
    have : itemsV num [] as = [] := by unfold itemsV; rfl
    rw [this]
    refine W_lp_nil (hc m k0) ⟨⟨_, _, _, _, _, _, _, _, _, _, _, rfl⟩, L, [], hT, by simpa using A, Kp.refl⟩
  | @want num st n held c rest t E co ht hn' hr =>
    intro as L told0 les0 m aH x1 x5 x6 x7 x8 x9 x10 x11 x12 hst hl hA hH tH hT A hb hn k0
    cases as with
    | nil => simp at hl
    | cons a as =>
      obtain ⟨hA1, nA⟩ := hA 0 c a rfl rfl
      obtain ⟨c0, hs⟩ := Option.ne_none_iff_exists'.mp hst
      show MI.W (loopM _ _ _ (.tup [.int num, callV c a] :: itemsV (num + 1) rest as) _ _) _ _
      refine W_lp_cons (ρ1 := [some M.v, x1, some (.int st), some (.ref aH), some (.ref aT), some (.int num), some (callV c a), x7, x8, x9, x10, x11, x12]) (hc m k0) rfl ?_
      unfold callV
      have lT := (List.getElem?_eq_some_iff.mp hT).1
      refine rmB_ok (k := k) (kk := kk) co mo (hs := hs) ht hn' hr hA1 hH hT (by rw [A.l1]; simp at hn; omega) (Ne.symm nA) tH ?_ ?_
      · intro le m' y7 y8 y9 y10 y11 y12 _ g1 g2 g3 g4
        exact ⟨⟨_, _, _, _, _, _, _, _, _, _, _, rfl⟩, _, [le], g1, A.snoc g4 g2 g3 hb lT, g4⟩
      · intro le m' y7 y8 y9 y10 y11 y12 o st' hold aH' e
        cases e
  | @go num st n held c rest t E o st' hold told co ht hn' hr hE hd hp ih =>
    intro as L told0 les0 m aH x1 x5 x6 x7 x8 x9 x10 x11 x12 hst hl hA hH tH hT A hb hn k0
    cases as with
    | nil => simp at hl
    | cons a as =>
      obtain ⟨hA1, nA⟩ := hA 0 c a rfl rfl
      obtain ⟨c0, hs⟩ := Option.ne_none_iff_exists'.mp hst
      show MI.W (loopM _ _ _ (.tup [.int num, callV c a] :: itemsV (num + 1) rest as) _ _) _ _
      refine W_lp_cons (ρ1 := [some M.v, x1, some (.int st), some (.ref aH), some (.ref aT), some (.int num), some (callV c a), x7, x8, x9, x10, x11, x12]) (hc m k0) rfl ?_
      unfold callV
      have lT := (List.getElem?_eq_some_iff.mp hT).1
      refine rmB_ok (k := k) (kk := kk) co mo (hs := hs) ht hn' hr hA1 hH hT (by rw [A.l1]; simp at hn; omega) (Ne.symm nA) tH ?_ ?_
      · intro le m' y7 y8 y9 y10 y11 y12 e
        cases e
      · intro le m' y7 y8 y9 y10 y11 y12 o2 st2 hold2 aH' e g1 g2 g3 g4 g5 g6 g7
        simp at e
        obtain ⟨rfl, e2, rfl⟩ := e
        have e2 : st' = st2 := by omega
        subst e2
        have B := A.snoc (o := outV (ctxAt M num held c) o) g7 g2 g3 hb lT
        have hst' : M.cnt[st']? ≠ none := by
          obtain ⟨_, st3, _, e3, h3, _⟩ := hd.ex
          simp at e3
          have e3 : st' = st3 := by omega
          subst e3
          rw [List.getElem?_eq_getElem h3]
          simp
        refine (ih as _ (told0 ++ [(E, outV (ctxAt M num held c) o)]) (les0 ++ [le]) m' aH' x1 _ _ _ _ _ _ _ _ hst' (by simpa using hl) (fun i c' a' h1 h2 => ?_) g4 (by omega) g1 B (Nat.le_trans hb g7.1) (by simp at hn ⊢; omega) (k0.trans g7)).mono ?_
        · obtain ⟨z1, z2⟩ := hA (i + 1) c' a' (by simpa using h1) (by simpa using h2)
          exact ⟨g7.get z1 (by simp [z2]), z2⟩
        · rintro fl m2 ⟨h1, L', les', h2, h3, h4⟩
          refine ⟨h1, L', [le] ++ les', h2, ?_, g7.trans h4⟩
          rw [List.append_assoc, List.append_assoc] at h3
          exact h3
end K51
set_option maxHeartbeats 4000000
namespace K51
open PySem L2 MI
/-- a comprehension of truths, whose body may lay new things -/
theorem lc_bl {i : Nat} {ρ : MI.Env} {e : ME} {chk : Mem → Prop} {φ : MV → Bool} {m : Mem} {l : List MV} {Q : List MV → Mem → Prop} {E : Exn → Mem → Prop} (hc : ∀ m', Kp [] m m' → chk m')
    (h : ∀ d ∈ l, ∀ m', Kp [] m m' → MI.W (e (ρ.set i (some d)) m') (fun y m2 => y = .bl (φ d) ∧ Kp [] m' m2) E0) (hl : l.length ≤ 3000)
    (q : ∀ m', Kp [] m m' → Q ((l.map φ).map .bl) m') : MI.W (lcM chk (ngName i) mYes e ρ l [] m) Q E := by
  refine W_lcs (fun r acc m' => ∃ p, l = p ++ r ∧ acc = (p.map φ).map .bl ∧ Kp [] m m') _ _ _ ⟨[], rfl, rfl, Kp.refl⟩ (fun r acc m' ⟨p, _, _, k⟩ => hc m' k) ?_ ?_
  · rintro d r acc m1 ⟨p, e1, e2, k1⟩
    refine ⟨[(i, d)], rfl, ?_⟩
    simp only [setE]
    simp [mYes]
    have hm : d ∈ l := by rw [e1]; simp
    refine (h d hm m1 k1).mono ?_
    rintro y m2 ⟨rfl, k2⟩
    have lp : p.length + (r.length + 1) = l.length := by rw [e1]; simp
    refine ⟨Nat.lt_of_lt_of_le (by rw [e2]; simp; omega) (szl (n := 3000) (Nat.le_refl _)), p ++ [d], by rw [e1]; simp, by rw [e2]; simp, k1.trans k2⟩
  · rintro acc m1 ⟨p, e1, e2, k1⟩
    rw [List.append_nil] at e1
    subst e1
    rw [e2]
    exact q m1 k1
def inL (l : List Str) (d : MV) : Bool := match d with
  | .str s => decide (s ∈ l)
  | _ => false
theorem kit_lls : kitB "list" "list" = some true := rfl
theorem ty_list {m : Mem} {a : Nat} {l : List MV} (h : m[a]? = some (.lst l)) : tyM m (.ref a) = some "list" := by
  show tyO m[a]? = _
  rw [h]
  rfl
/-- is_call of a good one -/
theorem isc_ok {M : Mach} {c : List Str × List Str} (co : CallOk M c) {a : Nat} {m : Mem} {k : Nat} {bg sts : MV} (mo : M.Ok) (hA : m[a]? = some (.lst (c.2.map .str))) :
    MI.W ((Tab (k + 1)).f .is_call [callV c a, .tup [.tup (M.ps.map .str), bg, sts]] m) (fun d m' => d = .bl true ∧ Kp [] m m') E0 := by
  have e1 : (Tab (k + 1)).f .is_call = f_is_call (Tab k) := rfl
  rw [e1]
  unfold f_is_call b_is_call callV
  have p2 := mo.p2
  have kl := co.kl
  have al := co.al
  have kl' : (c.1.length : Int) = M.ps.length := by omega
  simp [startM, kit_tt, W_asgT, nCons, nName, nNil, kl', ty_list hA, kit_lls]
  refine lc_bl (φ := inL tfn) (fun _ _ => trivial) (fun d hd m' k' => ?_) (by simp; omega) (fun m1 k1 => ?_)
  · obtain ⟨s, hs, rfl⟩ := List.mem_map.mp hd
    simp [wipeM]
    erw [W_in_strs (l := tfn)]
    exact ⟨rfl, Kp.refl⟩
  · have t1 : ((c.1.map MV.str).map (inL tfn)).all id = true := by
      rw [List.map_map, List.all_map, List.all_eq_true]
      intro s hs
      exact decide_eq_true (co.kd s hs)
    rw [W_all (bs := (c.1.map MV.str).map (inL tfn)) (by simp), t1]
    have hA1 : (m1 ++ [MO.lst (((c.1.map MV.str).map (inL tfn)).map .bl)])[a]? = some (.lst (c.2.map .str)) := (k1.trans Kp.app).get hA (by simp)
    have k2 : Kp [] m (m1 ++ [MO.lst (((c.1.map MV.str).map (inL tfn)).map .bl)]) := k1.trans Kp.app
    generalize (m1 ++ [MO.lst (((c.1.map MV.str).map (inL tfn)).map .bl)]) = m2 at hA1 k2
    simp [lstOf, hA1]
    refine lc_bl (φ := inL tfnx) (fun m' k' => by rw [k'.get hA1 (by simp)]) (fun d hd m' k' => ?_) (by simp; omega) (fun m3 k3 => ?_)
    · obtain ⟨s, hs, rfl⟩ := List.mem_map.mp hd
      simp [wipeM]
      erw [W_in_strs (l := tfnx)]
      exact ⟨rfl, Kp.refl⟩
    · have t2 : ((c.2.map MV.str).map (inL tfnx)).all id = true := by
        rw [List.map_map, List.all_map, List.all_eq_true]
        intro s hs
        exact decide_eq_true (co.an s hs)
      rw [W_all (bs := (c.2.map MV.str).map (inL tfnx)) (by simp), t2]
      exact ⟨rfl, (k2.trans k3).trans Kp.app⟩
end K51
set_option maxHeartbeats 4000000
namespace K51
open PySem L2 MI
/-- a history in the memory: its list at h, the answers' lists at as -/
structure HistAt (m : Mem) (h : Nat) (hist : List (List Str × List Str)) (as : List Nat) : Prop where
  ls : m[h]? = some (.lst (List.zipWith callV hist as))
  len : as.length = hist.length
  at_ : ∀ (i : Nat) c a, hist[i]? = some c → as[i]? = some a → m[a]? = some (.lst (c.2.map .str))
theorem HistAt.kp {m m' : Mem} {h : Nat} {hist : List (List Str × List Str)} {as : List Nat} (H : HistAt m h hist as) (k : Kp [] m m') : HistAt m' h hist as :=
  ⟨k.get H.ls (by simp), H.len, fun i c a h1 h2 => k.get (H.at_ i c a h1 h2) (by simp)⟩
theorem zw_mem {hist : List (List Str × List Str)} {as : List Nat} {d : MV} (h : d ∈ List.zipWith callV hist as) : ∃ (i : Nat) (c : List Str × List Str) (a : Nat), hist[i]? = some c ∧ as[i]? = some a ∧ d = callV c a := by
  obtain ⟨i, hi⟩ := List.mem_iff_getElem?.mp h
  rw [List.getElem?_zipWith] at hi
  cases h1 : hist[i]? with
  | none => rw [h1] at hi; cases hi
  | some c =>
    cases h2 : as[i]? with
    | none => rw [h1, h2] at hi; cases hi
    | some a => rw [h1, h2] at hi; exact ⟨i, c, a, h1, h2, (Option.some.inj hi).symm⟩
theorem numd_items : ∀ {hist : List (List Str × List Str)} {as : List Nat} {n : Nat}, as.length = hist.length → (List.range' n (List.zipWith callV hist as).length).zipWith (fun (i : Nat) x => MV.tup [.int i, x]) (List.zipWith callV hist as) = itemsV n hist as
  | [], as, n, h => by
    have : as = [] := by simpa using h
    subst this
    rfl
  | c :: cs, [], n, h => by simp at h
  | c :: cs, a :: as, n, h => by
    have ih := numd_items (hist := cs) (as := as) (n := n + 1) (by simpa using h)
    show (List.range' n ((List.zipWith callV cs as).length + 1)).zipWith _ (callV c a :: List.zipWith callV cs as) = .tup [.int n, callV c a] :: itemsV (n + 1) cs as
    rw [List.range'_succ, List.zipWith_cons_cons, ih]
theorem ish_ok {M : Mach} (mo : M.Ok) {h : Nat} {hist : List (List Str × List Str)} {as : List Nat} {m : Mem} {k : Nat} {bg sts : MV} (H : HistAt m h hist as) (hc : ∀ c ∈ hist, CallOk M c) (hl : hist.length ≤ 50) :
    MI.W ((Tab (k + 2)).f .is_history [.tup [.tup (M.ps.map .str), bg, sts], .ref h] m) (fun d m' => d = .bl true ∧ Kp [] m m') E0 := by
  have e1 : (Tab (k + 2)).f .is_history = f_is_history (Tab (k + 1)) := rfl
  rw [e1]
  unfold f_is_history b_is_history
  simp [startM, ty_list H.ls, kit_lls, H.ls]
  refine lc_bl (φ := fun _ => true) (fun m' k' => by rw [k'.get H.ls (by simp)]) (fun d hd m' k' => ?_) (by simp; omega) (fun m1 k1 => ?_)
  · obtain ⟨i, c, a, h1, h2, rfl⟩ := zw_mem hd
    simp [wipeM]
    exact isc_ok (k := k) (hc c (List.mem_of_getElem? h1)) mo (k'.get (H.at_ i c a h1 h2) (by simp))
  · rw [W_all (bs := (List.zipWith callV hist as).map (fun _ => true)) (by simp)]
    exact ⟨congrArg MV.bl (by rw [List.all_map]; exact List.all_eq_true.mpr (fun _ _ => rfl)), k1.trans Kp.app⟩
theorem chist_ok {M : Mach} (mo : M.Ok) {h : Nat} {hist : List (List Str × List Str)} {as : List Nat} {m : Mem} {k : Nat} {bg sts : MV} (H : HistAt m h hist as) (hc : ∀ c ∈ hist, CallOk M c) (hl : hist.length ≤ 50) :
    MI.W ((Tab (k + 3)).f .check_history [.tup [.tup (M.ps.map .str), bg, sts], .ref h] m) (fun _ m' => Kp [] m m') E0 := by
  have e1 : (Tab (k + 3)).f .check_history = f_check_history (Tab (k + 2)) := rfl
  rw [e1]
  unfold f_check_history b_check_history
  simp [startM]
  refine (ish_ok (k := k) mo H hc hl).mono ?_
  rintro d m' ⟨rfl, k'⟩
  simp
  exact k'
/-- run_machine of a good machine, a good history -/
theorem run_good {M : Mach} (mo : M.Ok) (z : M.cnt.getD M.bg 1 = 0) {h : Nat} {hist : List (List Str × List Str)} {as : List Nat} {m : Mem} {k : Nat} (H : HistAt m h hist as) (hc : ∀ c ∈ hist, CallOk M c) (hl : hist.length ≤ 50) {told : List (List MV × MV)} (hp : Play M 0 M.bg [] hist told) :
    MI.W ((Tab (k + 49)).f .run_machine [M.v, .ref h] m) (fun d m' => ∃ aT L les, d = .ref aT ∧ m.length ≤ aT ∧ m'[aT]? = some (.lst L) ∧ ToldAt m' m.length aT L told les ∧ Kp [] m m') E0 := by
  have e1 : (Tab (k + 49)).f .run_machine = f_run_machine (Tab (k + 48)) (Hk (k + 48)) (k + 48) := rfl
  rw [e1]
  unfold f_run_machine
  rw [b_rm]
  have eh : Hk (k + 48) (k + 48 - 1) = Tab (k + 47) := by rw [Hk_eq (by omega), show k + 48 - 1 = k + 47 by omega]
  rw [eh]
  have hv : M.v = .tup [.tup (M.ps.map .str), .int M.bg, .tup (stsV M.cnt M.tr)] := rfl
  have chk := Mach.check mo (k := k) (m := m)
  rw [decide_eq_true z] at chk
  have ch2 := fun (m : Mem) (H : HistAt m h hist as) => chist_ok (k := k + 45) (bg := .int M.bg) (sts := .tup (stsV M.cnt M.tr)) mo H hc hl
  have sb := (stsV_len (cnt := M.cnt) mo.len)
  simp [startM]
  refine chk.mono ?_ (fun x m' h => ?_)
  · rintro d m1 ⟨_, _, k1⟩
    rw [hv]
    refine (ch2 m1 (H.kp k1)).mono ?_
    rintro d2 m2 k2
    have H2 := H.kp (k1.trans k2)
    simp
    have k3 : Kp [] m2 (m2 ++ [MO.lst [], MO.lst []]) := Kp.app
    have H3 := H2.kp k3
    have gH : (m2 ++ [MO.lst [], MO.lst []])[m2.length]? = some (.lst []) := by simp
    have gT : (m2 ++ [MO.lst [], MO.lst []])[m2.length + 1]? = some (.lst []) := by rw [at_app]; rfl
    have lh := (List.getElem?_eq_some_iff.mp H2.ls).1
    have ml : m.length ≤ m2.length := (k1.trans k2).1
    have ls3 : (m2 ++ [MO.lst [], MO.lst []]).length = m2.length + 2 := by simp
    have k4 : Kp [] m (m2 ++ [MO.lst [], MO.lst []]) := (k1.trans k2).trans k3
    have la : ∀ (i : Nat) c a, hist[i]? = some c → as[i]? = some a → a ≠ m2.length + 1 := fun i c a h1 h2 => by
      have := (List.getElem?_eq_some_iff.mp (H2.at_ i c a h1 h2)).1
      omega
    generalize (m2 ++ [MO.lst [], MO.lst []]) = m3 at H3 gH gT k4 ls3
    have it : numd (List.zipWith callV hist as) = itemsV 0 hist as := by
      unfold numd
      rw [List.range_eq_range']
      exact numd_items H.len
    have lst3 : lstOf m3 (.ref h) = some (List.zipWith callV hist as) := by simp [lstOf, H3.ls]
    simp only [enumOf, lst3, W_ok, it]
    rw [← hv]
    have bz : M.cnt[M.bg]? ≠ none := by
      rw [List.getElem?_eq_getElem mo.bg]
      simp
    have loop := rm_loop mo (b := m.length) (aT := m2.length + 1) (kk := k + 47) (k := k + 45) (m0 := m3) (chk := fun m' => lstOf m' (.ref h) = some (List.zipWith callV hist as)) (fun m' k' => by
      have := k'.get H3.ls (by simp; omega)
      simp [lstOf, this]) hp as [] [] [] m3 m2.length (some (.ref h)) none none none none none none none none bz H.len (fun i c a h1 h2 => ⟨H3.at_ i c a h1 h2, la i c a h1 h2⟩) gH (by omega) gT ⟨rfl, rfl, fun i E o l h1 => by simp at h1, List.nodup_nil, fun l hl => by cases hl⟩ k4.1 (by simp; omega) Kp.refl
    refine loop.mono ?_
    rintro fl m' ⟨⟨y1, y2, y3, y5, y6, y7, y8, y9, y10, y11, y12, rfl⟩, L', les', g1, g2, g3⟩
    show MI.W (mRet (mVar 4) _ m') _ _
    simp
    refine ⟨by omega, L', g1, ⟨les', by simpa using g2⟩, k4.sub g3 (fun x hx => by simp at hx; subst hx; exact .inr (by omega))⟩
  · obtain ⟨_, h2, _⟩ := h
    cases h2
end K51
set_option maxHeartbeats 4000000
namespace K51
open PySem L2 MI
def getN (T : List (MV × MV)) (v : MV) : Option MV := match tkOf v with
  | some k => valN T k
  | none => none
theorem valN_put {T : List (MV × MV)} {k k' : NestedKey} {d e : MV} (hd : nkOf d = some k) : valN (putN T k d e) k' = if k' = k then some e else valN T k' := by
  have eq : ∀ x : NestedKey, eqN d x = decide (k = x) := fun x => by unfold eqN; rw [hd]
  unfold putN
  by_cases ha : (T.any fun p => eqN p.1 k) = true
  · rw [if_pos ha]
    unfold valN
    induction T with
    | nil => simp at ha
    | cons p T ih =>
      rw [List.map_cons, List.find?_cons, List.find?_cons]
      by_cases hp : eqN p.1 k = true
      · have hpk : ∀ x, eqN p.1 x = decide (k = x) := fun x => by
          unfold eqN at hp ⊢
          cases h : nkOf p.1 with
          | none => rw [h] at hp; cases hp
          | some y => rw [h] at hp; simp at hp; subst hp; rfl
        rw [if_pos hp]
        simp only [hpk]
        by_cases hk : k' = k
        · subst hk; simp
        · have : ¬ k = k' := fun z => hk z.symm
          simp only [this, decide_false, if_neg hk]
          -- the rest: keys that are not k' stay
          have : ∀ (l : List (MV × MV)), Option.map (fun x => x.2) (List.find? (fun p => eqN p.1 k') (l.map fun p => if eqN p.1 k = true then (p.1, e) else p)) = Option.map (fun x => x.2) (List.find? (fun p => eqN p.1 k') l) := by
            intro l
            induction l with
            | nil => rfl
            | cons q l il =>
              rw [List.map_cons, List.find?_cons, List.find?_cons]
              by_cases hq : eqN q.1 k = true
              · rw [if_pos hq]
                have hqk : eqN q.1 k' = false := by
                  unfold eqN at hq ⊢
                  cases h : nkOf q.1 with
                  | none => rfl
                  | some y => rw [h] at hq; simp at hq; subst hq; exact decide_eq_false this
                simp only [hqk]
                exact il
              · rw [if_neg hq]
                cases eqN q.1 k' with
                | true => rfl
                | false => exact il
          exact this T
      · rw [if_neg hp]
        have ha' : (T.any fun p => eqN p.1 k) = true := by
          rw [List.any_cons] at ha
          simpa [hp] using ha
        by_cases hk : k' = k
        · subst hk
          have hp' : eqN p.1 k' = false := by simpa using hp
          simp only [hp']
          have := ih ha'
          simp only [if_true] at this ⊢
          exact this
        · cases hpk : eqN p.1 k' with
          | true => simp [if_neg hk]
          | false => simp only; exact ih ha'
  · rw [if_neg ha]
    unfold valN
    rw [List.find?_append]
    have hn : ∀ p ∈ T, eqN p.1 k = false := by
      intro p hp
      cases h : eqN p.1 k with
      | false => rfl
      | true => exact absurd (List.any_eq_true.mpr ⟨p, hp, h⟩) ha
    by_cases hk : k' = k
    · subst hk
      have : List.find? (fun p => eqN p.1 k') T = none := List.find?_eq_none.mpr fun p hp => by simp [hn p hp]
      rw [this]
      simp [eq]
    · have : ¬ k = k' := fun z => hk z.symm
      cases hf : List.find? (fun p => eqN p.1 k') T with
      | some p => simp [hk]
      | none => simp [eq, this, hk]
theorem getN_put {T : List (MV × MV)} {k : NestedKey} {d e v : MV} (hd : tkOf d = some k) : getN (putN T k d e) v = if tkOf v = some k then some e else getN T v := by
  unfold getN
  cases hv : tkOf v with
  | none => simp
  | some k' =>
    simp only [valN_put (tkOf_some hd).2.1, Option.some.injEq]
theorem putN_len {T : List (MV × MV)} {k : NestedKey} {d e : MV} : (putN T k d e).length ≤ T.length + 1 := by
  unfold putN
  split <;> simp
theorem tk_pl {i : Nat} : tkOf (plM (.int i)) = some (.tup [.text "place", .num i]) := by
  simp [plM, tkOf, nkOf, nksOf, NestedKey.depth, NestedKey.depthAll]
theorem tk_pa {i : Nat} : tkOf (paM (.int i)) = some (.tup [.text "parameter", .num i]) := by
  simp [paM, tkOf, nkOf, nksOf, NestedKey.depth, NestedKey.depthAll]
theorem tk_ev {i : Nat} : tkOf (evM (.int i)) = some (.tup [.text "event", .num i]) := by
  simp [evM, tkOf, nkOf, nksOf, NestedKey.depth, NestedKey.depthAll]
theorem tk_cn {s : Str} : tkOf (.tup [.str s]) = some (.tup [.text s]) := by
  simp [tkOf, nkOf, nksOf, NestedKey.depth, NestedKey.depthAll]
theorem tk_sN {j : Nat} {p : Str} : tkOf (srcN j p) = some (.tup [.num j, .tup [.text "name", .text p]]) := by
  simp [srcN, tkOf, nkOf, nksOf, NestedKey.depth, NestedKey.depthAll]
theorem tk_sE {j i : Nat} : tkOf (srcE j i) = some (.tup [.num j, .tup [.text "event", .num i]]) := by
  simp [srcE, tkOf, nkOf, nksOf, NestedKey.depth, NestedKey.depthAll]
theorem src_key {j : Nat} {s : MV} (h : IsSrc j s) : ∃ k, tkOf s = some (.tup [.num j, k]) := by
  rcases h with ⟨p, rfl⟩ | ⟨i, rfl⟩
  · exact ⟨_, tk_sN⟩
  · exact ⟨_, tk_sE⟩
structure Tab0 (C : Ctx) (n : Nat) (T : List (MV × MV)) : Prop where
  at_ : ∀ v, At C n v → getN T v = some (valOf (C.ob v))
  cn : ∀ s : Str, getN T (.tup [.str s]) = none
structure Tab1 (C : Ctx) (n : Nat) (T : List (MV × MV)) : Prop where
  at_ : ∀ v, At C n v → (C.ob v).2 ≠ ("n" : Str) → getN T (C.ob v).1 = some (.str (C.ob v).2)
/-- the law's call in the memory -/
structure LawAt (C : Ctx) (L d0 d1 le n : Nat) (E : List MV) (m : Mem) : Prop where
  ls : m[L]? = some (.lst [.ref d0, .ref d1, .ref le])
  ev : m[le]? = some (.lst E)
  nd : L ≠ d0 ∧ L ≠ d1 ∧ L ≠ le ∧ d0 ≠ d1 ∧ d0 ≠ le ∧ d1 ≠ le
  t0 : ∃ T, nOf m (.ref d0) = some (d0, T) ∧ Tab0 C n T ∧ T.length ≤ 100
  t1 : ∃ T, nOf m (.ref d1) = some (d1, T) ∧ Tab1 C n T ∧ T.length ≤ 1000
section
variable {C : Ctx} {L d0 d1 le n : Nat} {E : List MV} {m : Mem} {v : MV} {k : Nat}
theorem vin_ok (A : LawAt C L d0 d1 le n E m) (h : Opv C n v) : MI.W ((Tab (k + 1)).f .l_value_in [.ref L, v] m) (fun d m' => d = C.val v ∧ m' = m) E0 := by
  have e1 : (Tab (k + 1)).f .l_value_in = f_l_value_in (Tab k) := rfl
  rw [e1]
  unfold f_l_value_in b_l_value_in
  obtain ⟨T, h1, h2, _⟩ := A.t0
  have a0 : atM [MV.ref d0, MV.ref d1, MV.ref le] 0 = some (.ref d0) := rfl
  have hn : isN m (.ref d0) = true := by unfold isN; rw [h1]; rfl
  simp [startM, A.ls, hn]
  rcases h with ⟨s, hs, rfl⟩ | h
  · have := h2.cn s
    unfold getN at this
    rw [tk_cn] at this
    have this : valN T (.tup [.text s]) = none := this
    refine W_gNGet2 h1 tk_cn ?_
    rw [this]
    exact ⟨rfl, rfl⟩
  · have g := h2.at_ v h
    obtain ⟨hv, _⟩ := val_at h
    cases ht : tkOf v with
    | none => unfold getN at g; rw [ht] at g; cases g
    | some q =>
      unfold getN at g
      rw [ht] at g
      have g : valN T q = some (valOf (C.ob v)) := g
      refine W_gNGet2 h1 ht ?_
      rw [g, hv]
      exact ⟨rfl, rfl⟩
theorem kin_ok (A : LawAt C L d0 d1 le n E m) (h : At C n v) : MI.W ((Tab (k + 2)).f .l_kind_in [.ref L, v] m) (fun d m' => d = .str (C.ob v).2 ∧ m' = m) E0 := by
  have e1 : (Tab (k + 2)).f .l_kind_in = f_l_kind_in (Tab (k + 1)) := rfl
  rw [e1]
  unfold f_l_kind_in b_l_kind_in
  obtain ⟨T, h1, h2, _⟩ := A.t1
  simp [startM]
  refine (vin_ok (k := k) A (.inr h)).mono ?_
  rintro d m' ⟨rfl, rfl⟩
  obtain ⟨hv, _⟩ := val_at h
  rw [hv]
  unfold valOf
  by_cases hk : (C.ob v).2 = ("n" : Str)
  · have ne : ¬ (("none" : Str) = "object") := by decide
    rw [if_pos hk, hk]
    simp [ne]
  · rw [if_neg hk]
    simp [A.ls]
    have g := h2.at_ v h hk
    cases ht : tkOf (C.ob v).1 with
    | none => unfold getN at g; rw [ht] at g; cases g
    | some q =>
      unfold getN at g
      rw [ht] at g
      exact W_itemN (l' := []) h1 ht g ⟨rfl, rfl⟩
end
end K51
set_option maxHeartbeats 4000000
namespace K51
open PySem L2 MI
theorem LawAt.kp {C : Ctx} {L d0 d1 le n : Nat} {E : List MV} {m m' : Mem} (A : LawAt C L d0 d1 le n E m) (k : Kp [] m m') : LawAt C L d0 d1 le n E m' := by
  obtain ⟨T0, a1, a2, a3⟩ := A.t0
  obtain ⟨T1, b1, b2, b3⟩ := A.t1
  have nk : ∀ {d : Nat} {T : List (MV × MV)}, nOf m (.ref d) = some (d, T) → nOf m' (.ref d) = some (d, T) := fun {d T} h => by
    have h' := h
    simp only [nOf_ref] at h' ⊢
    cases e : m[d]? with
    | none => rw [e] at h'; cases h'
    | some o => rw [k.get e (by simp)]; rw [e] at h'; exact h'
  exact ⟨k.get A.ls (by simp), k.get A.ev (by simp), A.nd, ⟨T0, nk a1, a2, a3⟩, ⟨T1, nk b1, b2, b3⟩⟩
theorem at_succ {C : Ctx} {n : Nat} {v : MV} (h : At C (n + 1) v) : At C n v ∨ (v = evM (.int n) ∧ C.ans.getD n ("n" : Str) ≠ ("x" : Str)) := by
  cases h with
  | pl h => exact .inl (.pl h)
  | pa h => exact .inl (.pa h)
  | @ev i h h2 =>
    by_cases hi : i = n
    · subst hi; exact .inr ⟨rfl, h2⟩
    · exact .inl (.ev (by omega) h2)
theorem s_ev1 : ¬ (("place" : Str) = "event") := by decide
theorem s_ev2 : ¬ (("parameter" : Str) = "event") := by decide
theorem s_nm : ¬ (("name" : Str) = "event") := by decide
theorem at_key {C : Ctx} {n : Nat} {v : MV} (h : At C n v) : tkOf v ≠ some (.tup [.text "event", .num n]) := by
  intro e
  cases h with
  | pl h => rw [tk_pl] at e; simp [s_ev1] at e
  | pa h => rw [tk_pa] at e; simp [s_ev2] at e
  | ev h h2 => rw [tk_ev] at e; simp at e; omega
theorem src_ne {C : Ctx} (ok : C.Ok) {n : Nat} {v : MV} (h : At C n v) : tkOf (C.ob v).1 ≠ some (.tup [.num C.num, .tup [.text "event", .num n]]) := by
  intro e
  cases h with
  | pl h =>
    rw [ob_pl] at e
    obtain ⟨j, hj, hs⟩ := (ok.hd _ (getD_mem (d := dfl) h)).2
    obtain ⟨q, hq⟩ := src_key hs
    rw [hq] at e
    simp at e
    omega
  | pa h =>
    rw [ob_pa] at e
    have e : tkOf (srcN C.num _) = _ := e
    rw [tk_sN] at e
    simp [s_nm] at e
  | @ev i h h2 =>
    rw [ob_ev] at e
    have e : tkOf (srcE C.num i) = _ := e
    rw [tk_sE] at e
    simp at e
    omega
theorem tab1_put {C : Ctx} (ok : C.Ok) {n : Nat} {T : List (MV × MV)} (h : Tab1 C n T) : Tab1 C (n + 1) (putN T (.tup [.num C.num, .tup [.text "event", .num n]]) (srcE C.num n) (.str (C.ans.getD n "n"))) := by
  refine ⟨fun v hv hk => ?_⟩
  rw [getN_put tk_sE]
  rcases at_succ hv with hv | ⟨rfl, hx⟩
  · rw [if_neg (src_ne ok hv)]
    exact h.at_ v hv hk
  · rw [ob_ev]
    have : tkOf (C.evt n).1 = some (.tup [.num C.num, .tup [.text "event", .num n]]) := tk_sE
    rw [if_pos this]
    rfl
theorem tab0_put {C : Ctx} {n : Nat} {T : List (MV × MV)} {w : MV} (h : Tab0 C n T) (hw : C.ans.getD n ("n" : Str) ≠ ("x" : Str) → w = valOf (C.evt n)) : Tab0 C (n + 1) (putN T (.tup [.text "event", .num n]) (evM (.int n)) w) := by
  refine ⟨fun v hv => ?_, fun s => ?_⟩
  · rw [getN_put tk_ev]
    rcases at_succ hv with hv | ⟨rfl, hx⟩
    · rw [if_neg (at_key hv)]
      exact h.at_ v hv
    · rw [if_pos tk_ev, ob_ev, hw hx]
  · rw [getN_put tk_ev, tk_cn, if_neg (by simp)]
    exact h.cn s
theorem tab0_two {C : Ctx} {n : Nat} {T : List (MV × MV)} {w w' : MV} (h : Tab0 C n T) (hw : C.ans.getD n ("n" : Str) ≠ ("x" : Str) → w' = valOf (C.evt n)) : Tab0 C (n + 1) (putN (putN T (.tup [.text "event", .num n]) (evM (.int n)) w) (.tup [.text "event", .num n]) (evM (.int n)) w') := by
  refine ⟨fun v hv => ?_, fun s => ?_⟩
  · rw [getN_put tk_ev]
    rcases at_succ hv with hv | ⟨rfl, hx⟩
    · rw [if_neg (at_key hv), getN_put tk_ev, if_neg (at_key hv)]
      exact h.at_ v hv
    · rw [if_pos tk_ev, ob_ev, hw hx]
  · rw [getN_put tk_ev, tk_cn, if_neg (by simp), getN_put tk_ev, tk_cn, if_neg (by simp)]
    exact h.cn s
noncomputable def teC : MT := (mB (mBin (gEqA true) (mBin gItem (mVar 1) (mC (.int 0))) (mC (.str "end"))))
@[irreducible] noncomputable def teT (ck : Tabl) : MS := (mAsg (mBin gItemN (mBin gItem (mVar 1) (mC (.int 2))) (mBM gIdx (mLst (mCons (mC (.str "t")) (mCons (mC (.str "f")) (mCons (mC (.str "n")) mNil)))) (mCons (mCall (ck.f .l_kind_in) (mCons (mVar 0) (mCons (mBin gItem (mVar 1) (mC (.int 1))) mNil))) mNil))) (nName 1))
@[irreducible] noncomputable def teP : MS := (mSeq (mAsg (mTup (mCons (mC (.str "event")) (mCons (mVar 4) mNil))) (nName 5))
    (mSeq (mAsg (mBin gItemN (mBin gItem (mVar 1) (mC (.int 3))) (mCall gInt (mCons (mBin (gEqA false) (mBin gItemN (mVar 2) (mVar 4)) (mC (.str "x"))) mNil))) (nName 1))
    (mSeq (mNPut (mBin gItem (mVar 0) (mC (.int 1))) (mTup (mCons (mVar 3) (mCons (mVar 5) mNil))) (mBin gItemN (mVar 2) (mVar 4)))
    (mSeq (mNPut (mBin gItem (mVar 0) (mC (.int 0))) (mVar 5) (mTup (mCons (mC (.str "object")) (mCons (mTup (mCons (mVar 3) (mCons (mVar 5) mNil))) mNil))))
    (mIfS (mB (mBin (gEqA false) (mBin gItemN (mVar 2) (mVar 4)) (mC (.str "n"))))
    (mNPut (mBin gItem (mVar 0) (mC (.int 0))) (mVar 5) (mTup (mCons (mC (.str "none")) mNil)))
    mSkip)))))
@[irreducible] noncomputable def teA (ck : Tabl) : MS := (mSeq (mAsg (mCall gLen (mCons (mBin gItem (mVar 0) (mC (.int 2))) mNil)) (nName 4))
    (mSeq (mDrop (mBM gAppend (mBin gItem (mVar 0) (mC (.int 2))) (mCons (mTup (mCons (mBin gItem (mVar 1) (mC (.int 1))) (mCons (mCall gTuple (mCons (mLc (mAnyI (mBin gItem (mVar 1) (mC (.int 2)))) (ngName 6) mYes (mCall (ck.f .l_value_in) (mCons (mVar 0) (mCons (mVar 6) mNil))) [6]) mNil)) mNil))) mNil)))
    (mSeq (mIfS (mB (mBin gGe (mVar 4) (mCall gLen (mCons (mVar 2) mNil))))
    (mRet (mC .non))
    mSkip)
    teP)))
theorem b_te (ck : Tabl) : b_l_tree_end ck = (mSeq (whileM teC (mIfS (mB (mBin (gEqA false) (mBin gItem (mVar 1) (mC (.int 0))) (mC (.str "test")))) (teT ck) (teA ck)) turns) (mRet (mVar 1))) := by
  unfold teT teA teP teC
  rfl
end K51
set_option maxHeartbeats 4000000
namespace K51
open PySem L2 MI
section
variable {C : Ctx} {L d0 d1 le n aA : Nat} {E : List MV} {m : Mem} {k : Nat} {Q : Fl → Mem → Prop} {Ex : Exn → Mem → Prop}
theorem idx3 {s : Str} (h : s ∈ tfn) : ∃ j : Nat, ((["t", "f", "n"] : List Str).map fun s => V.str s).findIdx? (fun z => eqV z (.str s)) = some j ∧ ∀ x y z : MV, atM [x, y, z] ((j : Nat) : Int) = some (pick3 s x y z) := by
  simp only [List.mem_cons, List.mem_nil_iff, or_false] at h
  have e1 : ¬ (("f" : Str) = "t") := by decide
  have e2 : ¬ (("n" : Str) = "t") := by decide
  have e3 : ¬ (("n" : Str) = "f") := by decide
  rcases h with rfl | rfl | rfl
  · exact ⟨0, by decide, fun x y z => by unfold pick3; rw [if_pos rfl]; rfl⟩
  · exact ⟨1, by decide, fun x y z => by unfold pick3; rw [if_neg e1, if_pos rfl]; rfl⟩
  · exact ⟨2, by decide, fun x y z => by unfold pick3; rw [if_neg e2, if_neg e3]; rfl⟩
theorem teT_ok (ok : C.Ok) (A : LawAt C L d0 d1 le n E m) (hn : n ≤ C.ans.length) {v x y z : MV} {x2 x3 x4 x5 x6 : Option MV} (h : At C n v) (q : Q (.nx [some (.ref L), some (pick3 (C.ob v).2 x y z), x2, x3, x4, x5, x6]) (m ++ [.lst [.str "t", .str "f", .str "n"]])) :
    MI.W (teT (Tab (k + 2)) [some (.ref L), some (.tup [.str "test", v, .tup [x, y, z]]), x2, x3, x4, x5, x6] m) Q Ex := by
  unfold teT
  have kd := h.kind ok hn
  have sz : ∀ n, n ≤ 3000 → n ≤ sizeLine := fun n h => szl h
  have g1 : (m ++ [MO.lst [.str "t", .str "f", .str "n"]])[m.length]? = some (.lst [.str "t", .str "f", .str "n"]) := by simp
  simp [sz 3 (by omega), lstOf, g1]
  refine (kin_ok (k := k) (A.kp Kp.app) h).mono ?_ (fun x m' h => h.elim)
  rintro d m' ⟨rfl, rfl⟩
  obtain ⟨j, j1, j2⟩ := idx3 kd
  have fv : fVs [MV.str "t", MV.str "f", MV.str "n"] = some ((["t", "f", "n"] : List Str).map fun s => V.str s) := rfl
  have fv2 : fV (.str (C.ob v).2) = some (.str (C.ob v).2) := rfl
  simp only [W_idx, lstOf, g1, Option.bind_some, fv, fv2, j1]
  simp only [gItemN_int, W_item_t, j2]
  exact q
theorem nOf_set {m : Mem} {d : Nat} {T : List (MV × MV)} (h : d < m.length) : nOf (m.set d (.dN T)) (.ref d) = some (d, T) := by
  simp [h]
theorem nOf_ne {m : Mem} {d e : Nat} {o : MO} (h : d ≠ e) : nOf (m.set e o) (.ref d) = nOf m (.ref d) := by
  simp only [nOf_ref]
  rw [List.getElem?_set_ne (Ne.symm h)]
theorem nOf_lt {m : Mem} {d : Nat} {T : List (MV × MV)} (h : nOf m (.ref d) = some (d, T)) : d < m.length := by
  simp only [nOf_ref] at h
  cases e : m[d]? with
  | none => rw [e] at h; cases h
  | some o => exact (List.getElem?_eq_some_iff.mp e).1
/-- an answer is looked up and kept -/
theorem teP_ok (ok : C.Ok) (A : LawAt C L d0 d1 le n E m) (hE : E.length = n + 1) (hn : n < C.ans.length) (hA : m[aA]? = some (.lst (C.ans.map .str))) (nA : aA ≠ d0 ∧ aA ≠ d1) {w : Str} {ops : List MV} {x y : MV} {x5 x6 : Option MV} {T0 T1 : List (MV × MV)} {b : Nat} (hb : b ≤ 900) (l0 : T0.length ≤ 50 + n) (l1 : T1.length ≤ b + n) (t0 : nOf m (.ref d0) = some (d0, T0)) (t1 : nOf m (.ref d1) = some (d1, T1)) (h0 : Tab0 C n T0) (h1 : Tab1 C n T1)
    (q : ∀ m' T0' T1', LawAt C L d0 d1 le (n + 1) E m' → nOf m' (.ref d0) = some (d0, T0') → nOf m' (.ref d1) = some (d1, T1') → T0'.length ≤ 50 + (n + 1) → T1'.length ≤ b + (n + 1) → Tab0 C (n + 1) T0' → Tab1 C (n + 1) T1' → Kp [d0, d1] m m' → Q (.nx [some (.ref L), some (if C.ans.getD n ("n" : Str) = ("x" : Str) then y else x), some (.ref aA), some (.int C.num), some (.int n), some (evM (.int n)), x6]) m') :
    MI.W (teP [some (.ref L), some (.tup [.str "ask", .str w, .tup ops, .tup [x, y]]), some (.ref aA), some (.int C.num), some (.int n), x5, x6] m) Q Ex := by
  unfold teP
  have al := ok.al
  have sz : ∀ n, n ≤ 3000 → n ≤ sizeLine := fun n h => szl h
  have ga : atM (C.ans.map .str) ((n : Nat) : Int) = some (.str (C.ans.getD n "n")) := atM_map (l := C.ans) (f := MV.str) (d := ("n" : Str)) hn
  have a3 : atM [MV.str "ask", MV.str w, MV.tup ops, MV.tup [x, y]] 3 = some (.tup [x, y]) := rfl
  obtain ⟨n1, n2, n3, n4, n5, n6⟩ := A.nd
  have d0l := nOf_lt t0
  have d1l := nOf_lt t1
  have tE : tkOf (.tup [.int C.num, .tup [.str "event", .int n]]) = some (.tup [.num C.num, .tup [.text "event", .num n]]) := tk_sE (j := C.num) (i := n)
  have tV : tkOf (.tup [.str "event", .int n]) = some (.tup [.text "event", .num n]) := tk_ev (i := n)
  have lL := A.ls
  have b0 : atM [MV.ref d0, MV.ref d1, MV.ref le] 0 = some (.ref d0) := rfl
  have b1 : atM [MV.ref d0, MV.ref d1, MV.ref le] 1 = some (.ref d1) := rfl
  have lt1 : T1.length < sizeLine := Nat.lt_of_lt_of_le (by omega) (sz 3000 (by omega))
  have lt0 : T0.length < sizeLine := Nat.lt_of_lt_of_le (by omega) (sz 3000 (by omega))
  have ix : atM [x, y] (if C.ans.getD n ("n" : Str) = ("x" : Str) then 1 else 0) = some (if C.ans.getD n ("n" : Str) = ("x" : Str) then y else x) := by
    split <;> rfl
  have gL1 : ∀ o : MO, (m.set d1 o)[L]? = some (.lst [.ref d0, .ref d1, .ref le]) := fun o => by rw [List.getElem?_set_ne (Ne.symm n2)]; exact lL
  have gL2 : ∀ o o' : MO, ((m.set d1 o).set d0 o')[L]? = some (.lst [.ref d0, .ref d1, .ref le]) := fun o o' => by rw [List.getElem?_set_ne (Ne.symm n1)]; exact gL1 o
  have gA2 : ∀ o o' : MO, ((m.set d1 o).set d0 o')[aA]? = some (.lst (C.ans.map .str)) := fun o o' => by rw [List.getElem?_set_ne (Ne.symm nA.1), List.getElem?_set_ne (Ne.symm nA.2)]; exact hA
  have p0 : ∀ o : MO, nOf (m.set d1 o) (.ref d0) = some (d0, T0) := fun o => by rw [nOf_ne n4]; exact t0
  have p00 : ∀ (o : MO) (T : List (MV × MV)), nOf ((m.set d1 o).set d0 (.dN T)) (.ref d0) = some (d0, T) := fun o T => nOf_set (by simp; exact d0l)
  have p11 : ∀ (T : List (MV × MV)) (o : MO), nOf ((m.set d1 (.dN T)).set d0 o) (.ref d1) = some (d1, T) := fun T o => by rw [nOf_ne (Ne.symm n4)]; exact nOf_set d1l
  have pLe : ∀ o o' : MO, ((m.set d1 o).set d0 o')[le]? = some (.lst E) := fun o o' => by rw [List.getElem?_set_ne n5, List.getElem?_set_ne n6]; exact A.ev
  have kk : ∀ o o' : MO, Kp [d0, d1] m ((m.set d1 o).set d0 o') := fun o o' => (Kp.wr (by simp)).trans (Kp.wr (by simp))
  have L1 : (putN T1 (.tup [.num C.num, .tup [.text "event", .num n]]) (srcE C.num n) (.str (C.ans.getD n "n"))).length ≤ b + (n + 1) := Nat.le_trans putN_len (by omega)
  have A1 := tab1_put ok h1
  -- what the memory is at the end, for any last table
  have fin1 : ∀ T0', T0'.length ≤ 50 + (n + 1) → Tab0 C (n + 1) T0' → LawAt C L d0 d1 le (n + 1) E ((m.set d1 (.dN (putN T1 (.tup [.num C.num, .tup [.text "event", .num n]]) (srcE C.num n) (.str (C.ans.getD n "n"))))).set d0 (.dN T0')) := fun T0' z1 z2 =>
    ⟨gL2 _ _, pLe _ _, A.nd, ⟨T0', p00 _ _, z2, by omega⟩, ⟨_, p11 _ _, A1, by omega⟩⟩
  have se : srcE C.num n = .tup [.int C.num, .tup [.str "event", .int n]] := rfl
  have ve : evM (.int n) = .tup [.str "event", .int n] := rfl
  rw [se] at L1 A1 fin1
  simp only [W_seq]
  simp [-nOf_ref, -List.getD_eq_getElem?_getD, sz 2 (by omega), a3, hA, ga, ix, lL, b1, t1, tE, lt1]
  simp [-nOf_ref, -List.getD_eq_getElem?_getD, sz 2 (by omega), gL1, b0, p0, tV, lt0]
  simp [-nOf_ref, -List.getD_eq_getElem?_getD, gA2, ga]
  have evt2 : (C.evt n).2 = C.ans.getD n ("n" : Str) := rfl
  by_cases hk : C.ans.getD n ("n" : Str) = ("n" : Str)
  · rw [if_pos hk]
    simp only [gL2, b0, p00]
    have W0 := tab0_two (n := n) (w := .tup [.str "object", .tup [.int C.num, .tup [.str "event", .int n]]]) (w' := .tup [.str "none"]) h0 (fun _ => by unfold valOf; rw [if_pos (by rw [evt2]; exact hk)])
    have LL : (putN (putN T0 (.tup [.text "event", .num n]) (evM (.int n)) (.tup [.str "object", .tup [.int C.num, .tup [.str "event", .int n]]])) (.tup [.text "event", .num n]) (evM (.int n)) (.tup [.str "none"])).length ≤ 50 + (n + 1) := by
      unfold putN
      have key : ((T0.map fun p => if eqN p.1 (.tup [.text "event", .num n]) = true then (p.1, MV.tup [.str "object", .tup [.int C.num, .tup [.str "event", .int n]]]) else p)).length = T0.length := by simp
      by_cases c1 : (T0.any fun p => eqN p.1 (.tup [.text "event", .num n])) = true
      · rw [if_pos c1]
        split
        · simp; omega
        · simp; omega
      · rw [if_neg c1]
        rw [if_pos]
        · simp; omega
        · rw [List.any_append]
          simp [eqN, (tkOf_some (tk_ev (i := n))).2.1]
    rw [ve] at W0 LL
    refine ⟨sz 1 (by omega), ?_, ?_⟩
    · refine Nat.lt_of_le_of_lt putN_len ?_
      exact Nat.lt_of_lt_of_le (by omega) (sz 3000 (by omega))
    · rw [List.set_set]
      exact q _ _ _ (fin1 _ LL W0) (p00 _ _) (p11 _ _) LL L1 W0 A1 (kk _ _)
  · rw [if_neg hk]
    have W0 := tab0_put (n := n) (w := .tup [.str "object", .tup [.int C.num, .tup [.str "event", .int n]]]) h0 (fun _ => by unfold valOf; rw [if_neg (by rw [evt2]; exact hk)]; rfl)
    have LL : (putN T0 (.tup [.text "event", .num n]) (evM (.int n)) (.tup [.str "object", .tup [.int C.num, .tup [.str "event", .int n]]])).length ≤ 50 + (n + 1) := Nat.le_trans putN_len (by omega)
    rw [ve] at W0 LL
    exact q _ _ _ (fin1 _ LL W0) (p00 _ _) (p11 _ _) LL L1 W0 A1 (kk _ _)
end
end K51
set_option maxHeartbeats 4000000
namespace K51
open PySem L2 MI
/-- the law's call with its tables -/
structure LawT (C : Ctx) (b L d0 d1 le aA n : Nat) (E : List MV) (T0 T1 : List (MV × MV)) (m : Mem) : Prop where
  A : LawAt C L d0 d1 le n E m
  t0 : nOf m (.ref d0) = some (d0, T0)
  t1 : nOf m (.ref d1) = some (d1, T1)
  l0 : T0.length ≤ 50 + n
  l1 : T1.length ≤ b + n
  h0 : Tab0 C n T0
  h1 : Tab1 C n T1
  hb : b ≤ 900
  hA : m[aA]? = some (.lst (C.ans.map .str))
  nA : aA ≠ d0 ∧ aA ≠ d1 ∧ aA ≠ le
section
variable {C : Ctx} {b L d0 d1 le n aA : Nat} {E : List MV} {T0 T1 : List (MV × MV)} {m : Mem} {k : Nat} {Q : Fl → Mem → Prop} {Ex : Exn → Mem → Prop}
theorem LawT.kp {m' : Mem} (R : LawT C b L d0 d1 le aA n E T0 T1 m) (k : Kp [] m m') : LawT C b L d0 d1 le aA n E T0 T1 m' := by
  have nk : ∀ {d : Nat} {T : List (MV × MV)}, nOf m (.ref d) = some (d, T) → nOf m' (.ref d) = some (d, T) := fun {d T} h => by
    have h' := h
    simp only [nOf_ref] at h' ⊢
    cases e : m[d]? with
    | none => rw [e] at h'; cases h'
    | some o => rw [k.get e (by simp)]; rw [e] at h'; exact h'
  exact ⟨R.A.kp k, nk R.t0, nk R.t1, R.l0, R.l1, R.h0, R.h1, R.hb, k.get R.hA (by simp), R.nA⟩
theorem LawT.put {E' : List MV} (R : LawT C b L d0 d1 le aA n E T0 T1 m) : LawT C b L d0 d1 le aA n E' T0 T1 (m.set le (.lst E')) := by
  obtain ⟨n1, n2, n3, n4, n5, n6⟩ := R.A.nd
  have lL := (List.getElem?_eq_some_iff.mp R.A.ev).1
  have p0 : nOf (m.set le (.lst E')) (.ref d0) = some (d0, T0) := by rw [nOf_ne n5]; exact R.t0
  have p1 : nOf (m.set le (.lst E')) (.ref d1) = some (d1, T1) := by rw [nOf_ne n6]; exact R.t1
  obtain ⟨T0', a1, a2, a3⟩ := R.A.t0
  obtain ⟨T1', b1, b2, b3⟩ := R.A.t1
  refine ⟨⟨?_, by simp [lL], R.A.nd, ⟨T0', ?_, a2, a3⟩, ⟨T1', ?_, b2, b3⟩⟩, p0, p1, R.l0, R.l1, R.h0, R.h1, R.hb, ?_, R.nA⟩
  · rw [List.getElem?_set_ne (Ne.symm n3)]; exact R.A.ls
  · rw [nOf_ne n5]; exact a1
  · rw [nOf_ne n6]; exact b1
  · rw [List.getElem?_set_ne (Ne.symm R.nA.2.2)]; exact R.hA
theorem teA_ok (ok : C.Ok) (R : LawT C b L d0 d1 le aA E.length E T0 T1 m) (hn : E.length ≤ C.ans.length) {w : Str} {ops : List MV} {x y : MV} {x4 x5 x6 : Option MV} (ho : ops.length ≤ 3) (hv : ∀ v ∈ ops, Opv C E.length v)
    (q0 : E.length = C.ans.length → ∀ m', m'[L]? = some (.lst [.ref d0, .ref d1, .ref le]) → m'[le]? = some (.lst (E ++ [evV C w ops])) → Kp [d0, d1, le] m m' → Q (.rt .non) m')
    (q1 : E.length < C.ans.length → ∀ m' T0' T1', LawT C b L d0 d1 le aA (E.length + 1) (E ++ [evV C w ops]) T0' T1' m' → Kp [d0, d1, le] m m' → Q (.nx [some (.ref L), some (if C.ans.getD E.length ("n" : Str) = ("x" : Str) then y else x), some (.ref aA), some (.int C.num), some (.int E.length), some (evM (.int E.length)), x6]) m') :
    MI.W (teA (Tab (k + 1)) [some (.ref L), some (.tup [.str "ask", .str w, .tup ops, .tup [x, y]]), some (.ref aA), some (.int C.num), x4, x5, x6] m) Q Ex := by
  unfold teA
  have al := ok.al
  have sz : ∀ n, n ≤ 3000 → n ≤ sizeLine := fun n h => szl h
  have b2 : atM [MV.ref d0, MV.ref d1, MV.ref le] 2 = some (.ref le) := rfl
  have a2 : atM [MV.str "ask", MV.str w, MV.tup ops, MV.tup [x, y]] 2 = some (.tup ops) := rfl
  have nL := R.A.nd.2.2.1
  simp only [W_seq]
  simp [R.A.ls, R.A.ev, b2, a2]
  refine W_pureN C.val (fun _ => true) trivial (fun d hd => ⟨rfl, fun _ => ?_⟩) (by omega) (fun l hl => ?_)
  · refine W_eq ?_
    simp [wipeM]
    exact vin_ok (k := k) R.A (hv d hd)
  · rw [filter_all] at hl
    subst hl
    have k0 : Kp [] m (m ++ [MO.lst (ops.map C.val)]) := Kp.app
    have R1 := R.kp k0
    have R2 : LawT C b L d0 d1 le aA E.length (E ++ [evV C w ops]) T0 T1 ((m ++ [MO.lst (ops.map C.val)]).set le (.lst (E ++ [evV C w ops]))) := R1.put
    have k2 : Kp [le] m ((m ++ [MO.lst (ops.map C.val)]).set le (.lst (E ++ [evV C w ops]))) := (kp_le k0).trans (Kp.wr (by simp))
    have ee : evV C w ops = .tup [.str w, .tup (ops.map C.val)] := rfl
    have ev : (m ++ [MO.lst (ops.map C.val)])[le]? = some (.lst E) := R1.A.ev
    refine ⟨sz 2 (by omega), ?_⟩
    rw [ev]
    refine ⟨Nat.lt_of_lt_of_le (by omega) (sz 3000 (by omega)), ?_⟩
    rw [ee] at R2 k2 q0 q1
    generalize (List.set (m ++ [MO.lst (List.map C.val ops)]) le (MO.lst (E ++ [MV.tup [MV.str w, MV.tup (List.map C.val ops)]]))) = m' at R2 k2
    have k3 : Kp [d0, d1, le] m m' := k2.mono (by simp)
    have lA := R2.hA
    by_cases hl : E.length = C.ans.length
    · have hl' : C.ans.length ≤ E.length := by omega
      simp [lA, hl']
      exact q0 hl m' R2.A.ls R2.A.ev k3
    · have hl' : ¬ (C.ans.length ≤ E.length) := by omega
      simp [lA, hl']
      refine teP_ok ok R2.A (by simp) (by omega) R2.hA ⟨R2.nA.1, R2.nA.2.1⟩ R2.hb R2.l0 R2.l1 R2.t0 R2.t1 R2.h0 R2.h1 fun m2 T0' T1' g1 g2 g3 g4 g5 g6 g7 g8 => ?_
      have k4 : Kp [d0, d1, le] m m2 := k3.trans (g8.mono (by simp))
      exact q1 (by omega) m2 T0' T1' ⟨g1, g2, g3, g4, g5, g6, g7, R2.hb, g8.get R2.hA (by simp [R2.nA.1, R2.nA.2.1]), R2.nA⟩ k4
end
end K51
set_option maxHeartbeats 4000000
namespace K51
open PySem L2 MI
/-- how the law's loop ends -/
def TeFl (L : Nat) : Option MV → Fl → Prop
  | some d, fl => ∃ y2 y3 y4 y5 y6, fl = .nx [some (.ref L), some d, y2, y3, y4, y5, y6]
  | none, fl => fl = .rt .non
/-- what stands after it -/
structure TeAt (C : Ctx) (b L d0 d1 le aA : Nat) (E : List MV) (r : Option MV) (m : Mem) : Prop where
  ls : m[L]? = some (.lst [.ref d0, .ref d1, .ref le])
  ev : m[le]? = some (.lst E)
  go : r ≠ none → ∃ T0 T1, LawT C b L d0 d1 le aA E.length E T0 T1 m
theorem te_loop {C : Ctx} {b L d0 d1 le aA : Nat} {cnt : List Nat} {k : Nat} (ok : C.Ok) {n : Nat} {E E' : List MV} {t : MV} {r : Option MV} (h : Runs C cnt n E t E' r) : ∀ (fuel : Nat) (m : Mem) (T0 T1 : List (MV × MV)) (x4 x5 x6 : Option MV), n < fuel → LawT C b L d0 d1 le aA E.length E T0 T1 m →
    MI.W (whileM teC (mIfS (mB (mBin (gEqA false) (mBin gItem (mVar 1) (mC (.int 0))) (mC (.str "test")))) (teT (Tab (k + 2))) (teA (Tab (k + 2)))) fuel [some (.ref L), some t, some (.ref aA), some (.int C.num), x4, x5, x6] m)
      (fun fl m' => TeFl L r fl ∧ TeAt C b L d0 d1 le aA E' r m' ∧ Kp [d0, d1, le] m m') E0 := by
  induction h with
  | @fin E d hE hd =>
    intro fuel m T0 T1 x4 x5 x6 hf R
    obtain ⟨fuel, rfl⟩ : ∃ g, fuel = g + 1 := ⟨fuel - 1, by omega⟩
    refine while_step ?_
    obtain ⟨ov, num, hold, rfl, _⟩ := hd.ex
    unfold teC
    simp [TeFl]
    exact ⟨⟨R.A.ls, R.A.ev, fun _ => ⟨T0, T1, R⟩⟩, Kp.refl⟩
  | @test n E E' v x y z r hE hv hr ih =>
    intro fuel m T0 T1 x4 x5 x6 hf R
    obtain ⟨fuel, rfl⟩ : ∃ g, fuel = g + 1 := ⟨fuel - 1, by omega⟩
    refine while_step ?_
    unfold teC
    simp
    refine teT_ok (k := k) ok R.A hE hv ?_
    have k0 : Kp [] m (m ++ [.lst [.str "t", .str "f", .str "n"]]) := Kp.app
    refine (ih fuel _ T0 T1 x4 x5 x6 (by omega) (R.kp k0)).mono ?_
    rintro fl m2 ⟨h1, h2, h3⟩
    exact ⟨h1, h2, (kp_le k0).trans h3⟩
  | @want E w ops x y hl ho hv =>
    intro fuel m T0 T1 x4 x5 x6 hf R
    obtain ⟨fuel, rfl⟩ : ∃ g, fuel = g + 1 := ⟨fuel - 1, by omega⟩
    refine while_step ?_
    unfold teC
    simp
    refine teA_ok (k := k + 1) ok R (by omega) ho hv (fun _ m' g1 g2 g3 => ?_) (fun h => absurd hl (by omega))
    exact ⟨rfl, ⟨g1, g2, fun h => absurd rfl h⟩, g3⟩
  | @go n E E' w ops x y r hl ho hv hr ih =>
    intro fuel m T0 T1 x4 x5 x6 hf R
    obtain ⟨fuel, rfl⟩ : ∃ g, fuel = g + 1 := ⟨fuel - 1, by omega⟩
    refine while_step ?_
    unfold teC
    simp
    refine teA_ok (k := k + 1) ok R (by omega) ho hv (fun h => absurd h (by omega)) (fun _ m' T0' T1' g1 g2 => ?_)
    refine (ih fuel m' T0' T1' _ _ _ (by omega) (by rw [List.length_append, List.length_singleton]; exact g1)).mono ?_
    rintro fl m2 ⟨h1, h2, h3⟩
    exact ⟨h1, h2, g2.trans h3⟩
/-- _law_tree_end -/
theorem te_ok {C : Ctx} {b L d0 d1 le aA : Nat} {cnt : List Nat} {k n : Nat} (ok : C.Ok) {E' : List MV} {t : MV} {r : Option MV} {m : Mem} {T0 T1 : List (MV × MV)} (h : Runs C cnt n [] t E' r) (hn : n ≤ 100) (R : LawT C b L d0 d1 le aA 0 [] T0 T1 m) :
    MI.W ((Tab (k + 3)).f .l_tree_end [.ref L, t, .ref aA, .int C.num] m) (fun d m' => d = r.getD .non ∧ TeAt C b L d0 d1 le aA E' r m' ∧ Kp [d0, d1, le] m m') E0 := by
  have e1 : (Tab (k + 3)).f .l_tree_end = f_l_tree_end (Tab (k + 2)) := rfl
  rw [e1]
  unfold f_l_tree_end
  rw [b_te, W_end, W_seq]
  refine (te_loop (k := k) ok h turns m T0 T1 none none none (by unfold turns; omega) R).mono ?_
  rintro fl m' ⟨h1, R', k'⟩
  cases r with
  | none =>
    rw [show fl = .rt .non from h1]
    exact ⟨rfl, R', k'⟩
  | some d =>
    obtain ⟨y2, y3, y4, y5, y6, rfl⟩ := h1
    show MI.W (mRet (mVar 1) [some (.ref L), some d, y2, y3, y4, y5, y6] m') _ _
    simp
    exact ⟨R', k'⟩
end K51
set_option maxHeartbeats 4000000
namespace K51
open PySem L2 MI
@[irreducible] noncomputable def lfP : MS := (mFor (mRng (mCons (mCall gLen (mCons (mVar 5) mNil)) mNil)) (nName 13)
    (mNPut (mBin gItem (mVar 12) (mC (.int 0))) (mTup (mCons (mC (.str "place")) (mCons (mVar 13) mNil))) (mBin gItemN (mVar 5) (mVar 13))))
@[irreducible] noncomputable def lfQ1 : MS := (mSeq (mAsg (mTup (mCons (mVar 9) (mCons (mTup (mCons (mC (.str "name")) (mCons (mBin gItemN (mVar 2) (mVar 13)) mNil))) mNil))) (nName 16))
    (mSeq (mNPut (mVar 6) (mVar 16) (mBin gItemN (mVar 10) (mVar 13)))
    (mSeq (mNPut (mBin gItem (mVar 12) (mC (.int 0))) (mTup (mCons (mC (.str "parameter")) (mCons (mVar 13) mNil))) (mTup (mCons (mC (.str "object")) (mCons (mVar 16) mNil))))
    (mIfS (mB (mBin (gEqA false) (mBin gItemN (mVar 10) (mVar 13)) (mC (.str "n"))))
    (mNPut (mBin gItem (mVar 12) (mC (.int 0))) (mTup (mCons (mC (.str "parameter")) (mCons (mVar 13) mNil))) (mTup (mCons (mC (.str "none")) mNil)))
    mSkip))))
@[irreducible] noncomputable def lfQ : MS := (mFor (mRng (mCons (mCall gLen (mCons (mVar 2) mNil)) mNil)) (nName 13) lfQ1)
@[irreducible] noncomputable def lfT (ck : Tabl) : MS :=
    (mSeq (mDrop (mBM gAppend (mVar 7) (mCons (mTup (mCons (mBin gItem (mVar 12) (mC (.int 2))) (mCons (mVar 15) mNil))) mNil)))
    (mSeq (mAsg (mLc (mAnyI (mBin gItem (mVar 14) (mC (.int 3)))) (ngName 17) mYes (mCall (ck.f .l_value_in) (mCons (mVar 12) (mCons (mVar 17) mNil))) [17]) (nName 5))
    (mSeq (mAsg (mBin gItem (mVar 14) (mC (.int 2))) (nName 3))
    (mDrop (mBM gAppend (mVar 8) (mCons (mBin gItem (mBin gItemN (mVar 4) (mVar 3)) (mC (.int 0))) mNil))))))
@[irreducible] noncomputable def lfS (ck : Tabl) : MS :=
    (mSeq (mAsg (mBin gItem (mVar 14) (mC (.int 1))) (nName 15))
    (mSeq (mIfS (mB (mBin (gEqA false) (mBin gItem (mVar 15) (mC (.int 0))) (mC (.str "value"))))
    (mAsg (mTup (mCons (mC (.str "value")) (mCons (mCall (ck.f .l_value_in) (mCons (mVar 12) (mCons (mBin gItem (mVar 15) (mC (.int 1))) mNil))) mNil))) (nName 15))
    mSkip)
    (lfT ck)))
@[irreducible] noncomputable def lfR (ck : Tabl) : MS := (mSeq (mAsg (mCall (ck.f .l_tree_end) (mCons (mVar 12) (mCons (mBin gItem (mBin gItemN (mVar 4) (mVar 3)) (mC (.int 1))) (mCons (mVar 11) (mCons (mVar 9) mNil))))) (nName 14))
    (mSeq (mIfS (mB (mBin gIsN (mVar 14) (mC .non)))
    (mRet (mTup (mCons (mBin gAdd (mVar 7) (mLst (mCons (mTup (mCons (mBin gItem (mVar 12) (mC (.int 2))) (mCons (mTup (mCons (mC (.str "wanting")) mNil)) mNil))) mNil))) (mCons (mVar 8) mNil))))
    mSkip)
    (lfS ck)))
@[irreducible] noncomputable def lfB (ck : Tabl) : MS := (mSeq (mAsg (mBin gItemN (mVar 1) (mVar 9)) (nTup 2 (nCons (nName 10) (nCons (nName 11) nNil))))
    (mSeq (mAsg (mLst (mCons mDNew (mCons (mVar 6) (mCons (mLst mNil) mNil)))) (nName 12))
    (mSeq lfP (mSeq lfQ (lfR ck)))))
theorem b_lf (ck : Tabl) : b_l_follow ck = (mSeq (mAsg (mVar 0) (nTup 3 (nCons (nName 2) (nCons (nName 3) (nCons (nName 4) nNil)))))
    (mSeq (mAsg (mLst mNil) (nName 5))
    (mSeq (mAsg mDNew (nName 6))
    (mSeq (mAsg (mLst mNil) (nName 7))
    (mSeq (mAsg (mLst (mCons (mBin gItem (mBin gItemN (mVar 4) (mVar 3)) (mC (.int 0))) mNil)) (nName 8))
    (mSeq (mFor (mRng (mCons (mCall gLen (mCons (mVar 1) mNil)) mNil)) (nName 9) (lfB ck))
    (mRet (mTup (mCons (mVar 7) (mCons (mVar 8) mNil))))))))))  := by
  unfold lfB lfR lfS lfT lfQ lfQ1 lfP
  rfl
theorem W_range {i n : Nat} {body : MS} {ρ : MI.Env} {m : Mem} {Q : Fl → Mem → Prop} {E : Exn → Mem → Prop} (I : Nat → MI.Env → Mem → Prop) (h0 : I 0 ρ m) (hs : ∀ j ρ m, j < n → I j ρ m → MI.W (body (ρ.set i (some (.int ((j : Nat) : Int)))) m) (fun a m => match a with | .nx ρ' => I (j + 1) ρ' m | .ct ρ' => I (j + 1) ρ' m | .bk ρ' => Q (.nx ρ') m | a => Q a m) E) (hd : ∀ ρ m, I n ρ m → Q (.nx ρ) m) : MI.W (loopM (fun _ => True) (nName i) body (rngL 0 n) ρ m) Q E := by
  have get : ∀ j, j < n → rngL 0 n = (rngL 0 n).take j ++ .int ((j : Nat) : Int) :: (rngL 0 n).drop (j + 1) := fun j hj => by
    have : (rngL 0 n)[j]'(by rw [rng_len]; exact hj) = .int ((j : Nat) : Int) := by simp [rngL]
    rw [← this, List.getElem_cons_drop, List.take_append_drop]
  refine W_loop (fun l ρ m => ∃ j, j ≤ n ∧ l = (rngL 0 n).drop j ∧ I j ρ m) _ ρ m ⟨0, by omega, by simp, h0⟩ (fun _ _ _ _ => trivial) ?_ ?_
  · rintro d l ρ m ⟨j, hj, hl, hI⟩
    have hj2 : j < n := by
      rcases Nat.lt_or_ge j n with h | h
      · exact h
      · rw [List.drop_eq_nil_of_le (by rw [rng_len]; exact h)] at hl; cases hl
    rw [List.drop_eq_getElem_cons (by rw [rng_len]; exact hj2)] at hl
    obtain ⟨rfl, rfl⟩ := List.cons.inj hl
    have : (rngL 0 n)[j]'(by rw [rng_len]; exact hj2) = .int ((j : Nat) : Int) := by simp [rngL]
    rw [this]
    refine (hs j ρ m hj2 hI).mono ?_
    intro a m' h
    cases a with
    | nx ρ' => exact ⟨j + 1, by omega, rfl, h⟩
    | ct ρ' => exact ⟨j + 1, by omega, rfl, h⟩
    | bk ρ' => exact h
    | rt d => exact h
    | ex x ρ' => exact h
  · rintro ρ m ⟨j, hj, hl, hI⟩
    have : j = n := by
      rcases Nat.lt_or_ge j n with h | h
      · have := congrArg List.length hl
        rw [List.length_drop, rng_len] at this
        simp at this
        omega
      · omega
    subst this
    exact hd ρ m hI
/-- the table after j places -/
structure PT0 (C : Ctx) (j : Nat) (T : List (MV × MV)) : Prop where
  pl : ∀ i, i < j → getN T (plM (.int i)) = some (valOf (C.held.getD i dfl))
  cn : ∀ s : Str, getN T (.tup [.str s]) = none
  ln : T.length ≤ j
theorem lfP_ok {C : Ctx} (ok : C.Ok) {L d0 d1 le aH : Nat} {m : Mem} {x0 x1 x2 x3 x4 x6 x7 x8 x9 x10 x11 x13 x14 x15 x16 x17 : Option MV} {Q : Fl → Mem → Prop} {Ex : Exn → Mem → Prop} (hL : m[L]? = some (.lst [.ref d0, .ref d1, .ref le])) (h0 : nOf m (.ref d0) = some (d0, [])) (hH : m[aH]? = some (.lst (C.held.map valOf))) (n1 : L ≠ d0) (n2 : aH ≠ d0)
    (q : ∀ y m' T, nOf m' (.ref d0) = some (d0, T) → PT0 C C.held.length T → Kp [d0] m m' → Q (.nx [x0, x1, x2, x3, x4, some (.ref aH), x6, x7, x8, x9, x10, x11, some (.ref L), y, x14, x15, x16, x17]) m') :
    MI.W (lfP [x0, x1, x2, x3, x4, some (.ref aH), x6, x7, x8, x9, x10, x11, some (.ref L), x13, x14, x15, x16, x17] m) Q Ex := by
  unfold lfP
  have hl := ok.hl
  have sz : ∀ n, n ≤ 3000 → n ≤ sizeLine := fun n h => szl h
  simp [-nOf_ref, hH]
  refine ⟨by omega, ?_⟩
  refine W_range (fun j ρ m' => (∃ y, ρ = [x0, x1, x2, x3, x4, some (.ref aH), x6, x7, x8, x9, x10, x11, some (.ref L), y, x14, x15, x16, x17]) ∧ ∃ T, nOf m' (.ref d0) = some (d0, T) ∧ PT0 C j T ∧ Kp [d0] m m') ?_ ?_ ?_
  · exact ⟨⟨_, rfl⟩, [], h0, ⟨fun i hi => absurd hi (by omega), fun s => by unfold getN; rw [tk_cn]; rfl, by simp⟩, Kp.refl⟩
  · rintro j ρ m' hj ⟨⟨y, rfl⟩, T, g1, g2, g3⟩
    have gL := g3.get hL (by simp [n1])
    have gH := g3.get hH (by simp [n2])
    have ga : atM (C.held.map valOf) ((j : Nat) : Int) = some (valOf (C.held.getD j dfl)) := atM_map hj
    have b0 : atM [MV.ref d0, MV.ref d1, MV.ref le] 0 = some (.ref d0) := rfl
    have tk : tkOf (.tup [.str "place", .int ((j : Nat) : Int)]) = some (.tup [.text "place", .num j]) := tk_pl (i := j)
    have ln := g2.ln
    simp [-nOf_ref, -List.getD_eq_getElem?_getD, gL, gH, ga, b0, g1, tk, sz 2 (by omega)]
    refine ⟨Nat.lt_of_lt_of_le (by omega) (sz 3000 (by omega)), _, nOf_set (nOf_lt g1), ⟨fun i hi => ?_, fun s => ?_, ?_⟩, g3.trans (Kp.wr (by simp))⟩
    · rw [getN_put tk, tk_pl]
      by_cases e : i = j
      · subst e; rw [if_pos rfl]
      · rw [if_neg (by simp; omega)]
        exact g2.pl i (by omega)
    · rw [getN_put tk, tk_cn, if_neg (by simp)]
      exact g2.cn s
    · exact Nat.le_trans putN_len (by omega)
  · rintro ρ m' ⟨⟨y, rfl⟩, T, g1, g2, g3⟩
    exact q y m' T g1 g2 g3
end K51
set_option maxHeartbeats 4000000
namespace K51
open PySem L2 MI
structure QT0 (C : Ctx) (j : Nat) (T : List (MV × MV)) : Prop where
  pl : ∀ i, i < C.held.length → getN T (plM (.int i)) = some (valOf (C.held.getD i dfl))
  pa : ∀ i, i < j → getN T (paM (.int i)) = some (valOf (C.par i))
  cn : ∀ s : Str, getN T (.tup [.str s]) = none
  ln : T.length ≤ C.held.length + j
structure QT1 (C : Ctx) (b j : Nat) (T : List (MV × MV)) : Prop where
  hd : ∀ p ∈ C.held, p.2 ≠ ("n" : Str) → getN T p.1 = some (.str p.2)
  pa : ∀ i, i < j → getN T (srcN C.num (C.ps.getD i "")) = some (.str (C.kinds.getD i ("n" : Str)))
  ln : T.length ≤ b + j
theorem putN_put {T : List (MV × MV)} {k : NestedKey} {d e e' : MV} (hd : tkOf d = some k) {n : Nat} (h : T.length + 1 ≤ n) : (putN (putN T k d e) k d e').length ≤ n := by
  have hk := (tkOf_some hd).2.1
  by_cases c1 : (T.any fun p => eqN p.1 k) = true
  · have l1 : (putN T k d e).length = T.length := by unfold putN; rw [if_pos c1]; simp
    exact Nat.le_trans putN_len (by omega)
  · have l1 : (putN T k d e).length = T.length + 1 := by unfold putN; rw [if_neg c1]; simp
    have c2 : ((putN T k d e).any fun p => eqN p.1 k) = true := by
      unfold putN
      rw [if_neg c1, List.any_append]
      simp [eqN, hk]
    have l2 : (putN (putN T k d e) k d e').length = (putN T k d e).length := by
      rw [show putN (putN T k d e) k d e' = (putN T k d e).map (fun p => if eqN p.1 k = true then (p.1, e') else p) from if_pos c2]
      simp
    omega
theorem getN_two {T : List (MV × MV)} {k : NestedKey} {d e e' v : MV} (hd : tkOf d = some k) : getN (putN (putN T k d e) k d e') v = if tkOf v = some k then some e' else getN T v := by
  rw [getN_put hd, getN_put hd]
  split <;> rfl
section
variable {C : Ctx} {L d0 d1 le b : Nat} {m : Mem} {x0 x1 x3 x4 x5 x7 x8 x11 x13 x14 x15 x16 x17 : Option MV} {Q : Fl → Mem → Prop} {Ex : Exn → Mem → Prop}
theorem qt0_step {j : Nat} {T T' : List (MV × MV)} (h : QT0 C j T) (g : ∀ v, getN T' v = if tkOf v = some (.tup [.text "parameter", .num j]) then some (valOf (C.par j)) else getN T v) (l : T'.length ≤ C.held.length + (j + 1)) : QT0 C (j + 1) T' := by
  refine ⟨fun i hi => ?_, fun i hi => ?_, fun s => ?_, l⟩
  · have ne : ¬ ("place" : Str) = "parameter" := by decide
    rw [g, tk_pl, if_neg (by simp [ne])]
    exact h.pl i hi
  · rw [g, tk_pa]
    by_cases e : i = j
    · subst e; rw [if_pos rfl]
    · rw [if_neg (by simp; omega)]
      exact h.pa i (by omega)
  · rw [g, tk_cn, if_neg (by simp)]
    exact h.cn s
theorem qt1_step (ok : C.Ok) (nd : C.ps.Nodup) {j : Nat} {T : List (MV × MV)} (hj : j < C.ps.length) (h : QT1 C b j T) : QT1 C b (j + 1) (putN T (.tup [.num C.num, .tup [.text "name", .text (C.ps.getD j "")]]) (srcN C.num (C.ps.getD j "")) (.str (C.kinds.getD j "n"))) := by
  refine ⟨fun p hp hk => ?_, fun i hi => ?_, Nat.le_trans putN_len (by have := h.ln; omega)⟩
  · rw [getN_put tk_sN, if_neg]
    · exact h.hd p hp hk
    · intro e
      obtain ⟨i, hi, hs⟩ := (ok.hd p hp).2
      obtain ⟨q, hq⟩ := src_key hs
      rw [hq] at e
      simp at e
      omega
  · rw [getN_put tk_sN, tk_sN]
    by_cases e : i = j
    · subst e; rw [if_pos rfl]
    · rw [if_neg]
      · exact h.pa i (by omega)
      · intro z
        simp only [Option.some.injEq, NestedKey.tup.injEq, List.cons.injEq, NestedKey.text.injEq, true_and, and_true] at z
        have hi' : i < C.ps.length := by omega
        rw [List.getD_eq_getElem?_getD, List.getD_eq_getElem?_getD, List.getElem?_eq_getElem hi', List.getElem?_eq_getElem hj] at z
        simp only [Option.getD_some] at z
        exact List.pairwise_iff_getElem.mp nd i j hi' hj (by omega) z
theorem lfQ_ok (ok : C.Ok) (nd : C.ps.Nodup) (hb : b ≤ 900) {T0 T1 : List (MV × MV)} (hL : m[L]? = some (.lst [.ref d0, .ref d1, .ref le])) (t0 : nOf m (.ref d0) = some (d0, T0)) (t1 : nOf m (.ref d1) = some (d1, T1)) (p0 : PT0 C C.held.length T0) (p1 : ∀ p ∈ C.held, p.2 ≠ ("n" : Str) → getN T1 p.1 = some (.str p.2)) (p2 : T1.length ≤ b) (n1 : L ≠ d0) (n2 : L ≠ d1) (n3 : d0 ≠ d1)
    (q : ∀ y y16 m' T0 T1, nOf m' (.ref d0) = some (d0, T0) → nOf m' (.ref d1) = some (d1, T1) → QT0 C C.ps.length T0 → QT1 C b C.ps.length T1 → Kp [d0, d1] m m' → Q (.nx [x0, x1, some (.tup (C.ps.map .str)), x3, x4, x5, some (.ref d1), x7, x8, some (.int C.num), some (.tup (C.kinds.map .str)), x11, some (.ref L), y, x14, x15, y16, x17]) m') :
    MI.W (lfQ [x0, x1, some (.tup (C.ps.map .str)), x3, x4, x5, some (.ref d1), x7, x8, some (.int C.num), some (.tup (C.kinds.map .str)), x11, some (.ref L), x13, x14, x15, x16, x17] m) Q Ex := by
  unfold lfQ
  have hl := ok.hl
  have pl := ok.pl
  have kl := ok.kl
  have sz : ∀ n, n ≤ 3000 → n ≤ sizeLine := fun n h => szl h
  simp
  refine ⟨by omega, ?_⟩
  refine W_range (fun j ρ m' => (∃ y y16, ρ = [x0, x1, some (.tup (C.ps.map .str)), x3, x4, x5, some (.ref d1), x7, x8, some (.int C.num), some (.tup (C.kinds.map .str)), x11, some (.ref L), y, x14, x15, y16, x17]) ∧ ∃ T0 T1, nOf m' (.ref d0) = some (d0, T0) ∧ nOf m' (.ref d1) = some (d1, T1) ∧ QT0 C j T0 ∧ QT1 C b j T1 ∧ Kp [d0, d1] m m') ?_ ?_ ?_
  · exact ⟨⟨_, _, rfl⟩, T0, T1, t0, t1, ⟨p0.pl, fun i hi => absurd hi (by omega), p0.cn, p0.ln⟩, ⟨p1, fun i hi => absurd hi (by omega), p2⟩, Kp.refl⟩
  · rintro j ρ m' hj ⟨⟨y, y16, rfl⟩, T0, T1, g0, g1, g2, g3, g4⟩
    have gL := g4.get hL (by simp [n1, n2])
    have gp : atM (C.ps.map MV.str) ((j : Nat) : Int) = some (.str (C.ps.getD j "")) := atM_map (l := C.ps) (f := MV.str) (d := ("" : Str)) hj
    have gk : atM (C.kinds.map MV.str) ((j : Nat) : Int) = some (.str (C.kinds.getD j "n")) := atM_map (l := C.kinds) (f := MV.str) (d := ("n" : Str)) (by omega)
    have b0 : atM [MV.ref d0, MV.ref d1, MV.ref le] 0 = some (.ref d0) := rfl
    have tkS : tkOf (.tup [.int C.num, .tup [.str "name", .str (C.ps.getD j "")]]) = some (.tup [.num C.num, .tup [.text "name", .text (C.ps.getD j "")]]) := tk_sN (j := C.num) (p := C.ps.getD j "")
    have tkP : tkOf (.tup [.str "parameter", .int ((j : Nat) : Int)]) = some (.tup [.text "parameter", .num j]) := tk_pa (i := j)
    have ln0 := g2.ln
    have ln1 := g3.ln
    have d0l := nOf_lt g0
    have d1l := nOf_lt g1
    have lt1 : T1.length < sizeLine := Nat.lt_of_lt_of_le (by omega) (sz 3000 (by omega))
    have lt0 : T0.length < sizeLine := Nat.lt_of_lt_of_le (by omega) (sz 3000 (by omega))
    have gL1 : ∀ o : MO, (m'.set d1 o)[L]? = some (.lst [.ref d0, .ref d1, .ref le]) := fun o => by rw [List.getElem?_set_ne (Ne.symm n2)]; exact gL
    have gL2 : ∀ o o' : MO, ((m'.set d1 o).set d0 o')[L]? = some (.lst [.ref d0, .ref d1, .ref le]) := fun o o' => by rw [List.getElem?_set_ne (Ne.symm n1)]; exact gL1 o
    have p00 : ∀ o : MO, nOf (m'.set d1 o) (.ref d0) = some (d0, T0) := fun o => by rw [nOf_ne n3]; exact g0
    have q0 : ∀ (o : MO) (T : List (MV × MV)), nOf ((m'.set d1 o).set d0 (.dN T)) (.ref d0) = some (d0, T) := fun o T => nOf_set (by simp; exact d0l)
    have q1 : ∀ (T : List (MV × MV)) (o : MO), nOf ((m'.set d1 (.dN T)).set d0 o) (.ref d1) = some (d1, T) := fun T o => by rw [nOf_ne (Ne.symm n3)]; exact nOf_set d1l
    have kk : ∀ o o' : MO, Kp [d0, d1] m ((m'.set d1 o).set d0 o') := fun o o' => g4.trans ((Kp.wr (by simp)).trans (Kp.wr (by simp)))
    have A1 := qt1_step ok nd hj g3
    have se : srcN C.num (C.ps.getD j "") = .tup [.int C.num, .tup [.str "name", .str (C.ps.getD j "")]] := rfl
    rw [se] at A1
    unfold lfQ1
    simp only [W_seq]
    simp [-nOf_ref, -List.getD_eq_getElem?_getD, sz 2 (by omega), gp, gk]
    have tkP' := tkP
    have tkS' := tkS
    rw [g1, tkS']
    refine ⟨lt1, ?_⟩
    simp [-nOf_ref, -List.getD_eq_getElem?_getD, sz 2 (by omega), gL1, b0, p00, tkP, lt0]
    by_cases hk : C.kinds.getD j ("n" : Str) = ("n" : Str)
    · rw [if_pos hk]
      simp only [gL2, b0, q0]
      have ev : valOf (C.par j) = .tup [.str "none"] := by
        unfold valOf Ctx.par
        rw [if_pos hk]
      refine ⟨sz 1 (by omega), Nat.lt_of_le_of_lt putN_len (Nat.lt_of_lt_of_le (by omega) (sz 3000 (by omega))), ?_⟩
      rw [List.set_set]
      exact ⟨_, q0 _ _, _, q1 _ _, qt0_step g2 (fun v => by rw [getN_two tkP, ev]) (putN_put tkP (by omega)), A1, kk _ _⟩
    · rw [if_neg hk]
      have ev : valOf (C.par j) = .tup [.str "object", .tup [.int C.num, .tup [.str "name", .str (C.ps.getD j "")]]] := by
        unfold valOf Ctx.par
        rw [if_neg hk]
        rfl
      exact ⟨_, q0 _ _, _, q1 _ _, qt0_step g2 (fun v => by rw [getN_put tkP, ev]) (Nat.le_trans putN_len (by omega)), A1, kk _ _⟩
  · rintro ρ m' ⟨⟨y, y16, rfl⟩, T0, T1, g0, g1, g2, g3, g4⟩
    exact q y y16 m' T0 T1 g0 g1 g2 g3 g4
end
end K51
set_option maxHeartbeats 4000000
namespace K51
open PySem L2 MI
section
variable {M : Mach} {num st n b L d0 d1 le aA tT vT : Nat} {held : List (MV × Str)} {c : List Str × List Str} {t : MV} {E TL VL : List MV} {m : Mem} {k : Nat} {Q : Fl → Mem → Prop} {Ex : Exn → Mem → Prop}
theorem lfS_ok (co : (ctxAt M num held c).Ok) (mo : M.Ok) {T0 T1 : List (MV × MV)} (R : LawT (ctxAt M num held c) b L d0 d1 le aA E.length E T0 T1 m) (hE : E.length ≤ c.2.length) {d : MV} (hd : EndIs held.length M.ps.length M.cnt (evsOf (ctxAt M num held c) E.length) d) (hT : m[tT]? = some (.lst TL)) (hV : m[vT]? = some (.lst VL)) (l1 : TL.length ≤ 100) (l2 : VL.length ≤ 100) (nT : tT ≠ vT) (zT : tT ∉ [L, d0, d1, le, aA]) (zV : vT ∉ [L, d0, d1, le, aA])
    {x0 x1 x2 x3 x5 x6 x9 x10 x11 x13 x15 x16 x17 : Option MV}
    (q : ∀ o st' hold y15 y17 aH' m' VL', d = .tup [.str "end", o, .int ((st' : Nat) : Int), .tup hold] → m'[tT]? = some (.lst (TL ++ [.tup [.ref le, outV (ctxAt M num held c) o]])) → m'[vT]? = some (.lst VL') → VL'.length = VL.length + 1 → m'[aH']? = some (.lst ((hold.map (ctxAt M num held c).ob).map valOf)) → m.length ≤ aH' → (∀ v ∈ hold, At (ctxAt M num held c) E.length v) → Kp [tT, vT] m m' →
      Q (.nx [x0, x1, x2, some (.int st'), some (.tup (stsV M.cnt M.tr)), some (.ref aH'), x6, some (.ref tT), some (.ref vT), x9, x10, x11, some (.ref L), x13, some d, y15, x16, y17]) m') :
    MI.W (lfS (Tab (k + 1)) [x0, x1, x2, x3, some (.tup (stsV M.cnt M.tr)), x5, x6, some (.ref tT), some (.ref vT), x9, x10, x11, some (.ref L), x13, some d, x15, x16, x17] m) Q Ex := by
  unfold lfS
  have al := co.al
  have sz : ∀ n, n ≤ 3000 → n ≤ sizeLine := fun n h => szl h
  obtain ⟨ov, st', hold, rfl, h1, h2, h3, h4⟩ := hd.ex
  have hh : hold.length ≤ 8 := by
    rw [h2, List.getD_eq_getElem?_getD, List.getElem?_eq_getElem h1]
    exact mo.cnts _ (List.getElem_mem h1)
  have atv : ∀ v ∈ hold, At (ctxAt M num held c) E.length v := fun v hv => at_of (C := ctxAt M num held c) hE (h3 v hv)
  have hc1 : M.cnt[st']? = some (M.cnt[st']'h1) := List.getElem?_eq_getElem h1
  have ht1 : M.tr[st']? = some (M.tr[st']'(by rw [mo.len]; exact h1)) := List.getElem?_eq_getElem _
  have sa := sts_at hc1 ht1
  have zT' := zT
  have zV' := zV
  simp only [List.mem_cons, List.mem_nil_iff, or_false, not_or] at zT' zV'
  have b2 : atM [MV.ref d0, MV.ref d1, MV.ref le] 2 = some (.ref le) := rfl
  have a1 : ∀ x : MV, atM [MV.str "end", x, MV.int ((st' : Nat) : Int), MV.tup hold] 1 = some x := fun x => rfl
  have a2 : ∀ x : MV, atM [MV.str "end", x, MV.int ((st' : Nat) : Int), MV.tup hold] 2 = some (MV.int ((st' : Nat) : Int)) := fun x => rfl
  have a3 : ∀ x : MV, atM [MV.str "end", x, MV.int ((st' : Nat) : Int), MV.tup hold] 3 = some (MV.tup hold) := fun x => rfl
  -- from the told list on
  have last : MI.W (lfT (Tab (k + 1)) [x0, x1, x2, x3, some (.tup (stsV M.cnt M.tr)), x5, x6, some (.ref tT), some (.ref vT), x9, x10, x11, some (.ref L), x13, some (.tup [.str "end", ov, .int ((st' : Nat) : Int), .tup hold]), some (outV (ctxAt M num held c) ov), x16, x17] m) Q Ex := by
    unfold lfT
    have gL2 : ∀ o : MO, (m.set tT o)[L]? = some (.lst [.ref d0, .ref d1, .ref le]) := fun o => by rw [List.getElem?_set_ne zT'.1]; exact R.A.ls
    have kT : ∀ o : MO, Kp [tT, vT] m (m.set tT o) := fun o => Kp.wr (by simp)
    have A2 : ∀ o : MO, LawAt (ctxAt M num held c) L d0 d1 le E.length E (m.set tT o) := fun o => by
      obtain ⟨T0', g1, g2, g3⟩ := R.A.t0
      obtain ⟨T1', g4, g5, g6⟩ := R.A.t1
      refine ⟨gL2 o, ?_, R.A.nd, ⟨T0', ?_, g2, g3⟩, ⟨T1', ?_, g5, g6⟩⟩
      · rw [List.getElem?_set_ne zT'.2.2.2.1]; exact R.A.ev
      · rw [nOf_ne (Ne.symm zT'.2.1)]; exact g1
      · rw [nOf_ne (Ne.symm zT'.2.2.1)]; exact g4
    simp only [W_seq]
    simp [-nOf_ref, R.A.ls, b2, hT, sz 2 (by omega), a3]
    have lT : TL.length < sizeLine := Nat.lt_of_lt_of_le (by omega) (sz 3000 (by omega))
    refine ⟨lT, ?_⟩
    have eL : (m.set tT (.lst (TL ++ [.tup [.ref le, outV (ctxAt M num held c) ov]]))).length = m.length := by simp
    have gT : (m.set tT (.lst (TL ++ [.tup [.ref le, outV (ctxAt M num held c) ov]])))[tT]? = some (.lst (TL ++ [.tup [.ref le, outV (ctxAt M num held c) ov]])) := by simp [(List.getElem?_eq_some_iff.mp hT).1]
    have gV : (m.set tT (.lst (TL ++ [.tup [.ref le, outV (ctxAt M num held c) ov]])))[vT]? = some (.lst VL) := by rw [List.getElem?_set_ne nT]; exact hV
    have kT := kT (.lst (TL ++ [.tup [.ref le, outV (ctxAt M num held c) ov]]))
    have A2 := A2 (.lst (TL ++ [.tup [.ref le, outV (ctxAt M num held c) ov]]))
    generalize (m.set tT (.lst (TL ++ [.tup [.ref le, outV (ctxAt M num held c) ov]]))) = m1 at eL gT gV kT A2
    refine W_pureN (fun v => valOf ((ctxAt M num held c).ob v)) (fun _ => true) trivial (fun v hv => ⟨rfl, fun _ => W_eq ?_⟩) (by omega) (fun l hl => ?_)
    · simp [wipeM]
      rw [← (val_at (atv v hv)).1]
      exact vin_ok (k := k) A2 (.inr (atv v hv))
    · rw [filter_all] at hl
      have gV2 : ∀ o : MO, (m1 ++ [o])[vT]? = some (.lst VL) := fun o => (Kp.app (S := [])).get gV (by simp)
      have lV : VL.length < sizeLine := Nat.lt_of_lt_of_le (by omega) (sz 3000 (by omega))
      simp [a2, sa, gV2]
      refine ⟨lV, ?_⟩
      have lm := eL
      have lvm : vT < m1.length := (List.getElem?_eq_some_iff.mp gV).1
      have ltm : tT < m1.length := (List.getElem?_eq_some_iff.mp gT).1
      subst hl
      refine q ov st' hold _ _ m1.length _ (VL ++ [.int (M.cnt[st']'h1)]) rfl ?_ ?_ (by simp) ?_ (by omega) atv ?_
      · rw [List.getElem?_set_ne (Ne.symm nT), List.getElem?_append_left ltm]; exact gT
      · exact List.getElem?_set_self (by rw [List.length_append]; exact Nat.lt_of_lt_of_le lvm (Nat.le_add_right _ _))
      · rw [List.getElem?_set_ne (by omega), List.getElem?_append_right (by omega)]
        simp
      · exact (kT.trans Kp.app).trans (Kp.wr (by simp))
  rcases h4 with ⟨v, rfl, hv⟩ | ⟨j, rfl, hj⟩
  · have eo : outV (ctxAt M num held c) (.tup [.str "value", v]) = .tup [.str "value", (ctxAt M num held c).val v] := by
      show (if ("value" : Str) = "value" then MV.tup [.str "value", (ctxAt M num held c).val v] else .tup [.str "value", v]) = _
      rw [if_pos rfl]
    rw [eo] at last
    rw [W_seq]
    simp [a1]
    refine (vin_ok (k := k) R.A (opv_of (C := ctxAt M num held c) hE hv)).mono ?_ (fun x m' h => h.elim)
    rintro d m' ⟨rfl, rfl⟩
    refine ⟨sz 2 (by omega), ?_⟩
    simpa using last
  · have ne : ¬ (("failed" : Str) = "value") := by decide
    have eo : outV (ctxAt M num held c) (.tup [.str "failed", .int j]) = .tup [.str "failed", .int j] := by
      show (if ("failed" : Str) = "value" then MV.tup [.str "value", (ctxAt M num held c).val (.int j)] else .tup [.str "failed", .int j]) = _
      rw [if_neg ne]
    rw [eo] at last
    rw [W_seq]
    simp [a1, ne]
    simpa using last
end
end K51
set_option maxHeartbeats 4000000
namespace K51
open PySem L2 MI
theorem qt0_tab {C : Ctx} {T : List (MV × MV)} (h : QT0 C C.ps.length T) : Tab0 C 0 T := by
  refine ⟨fun v hv => ?_, h.cn⟩
  cases hv with
  | @pl i hi => rw [ob_pl]; exact h.pl i hi
  | @pa i hi => rw [ob_pa]; exact h.pa i hi
  | ev hi _ => exact absurd hi (by omega)
theorem qt1_tab {C : Ctx} {b : Nat} {T : List (MV × MV)} (h : QT1 C b C.ps.length T) : Tab1 C 0 T := by
  refine ⟨fun v hv hk => ?_⟩
  cases hv with
  | @pl i hi =>
    rw [ob_pl] at hk ⊢
    exact h.hd _ (getD_mem hi) hk
  | @pa i hi => rw [ob_pa]; exact h.pa i hi
  | ev hi _ => exact absurd hi (by omega)
section
variable {M : Mach} {num st n b d1 aA aH tT vT h1 : Nat} {held : List (MV × Str)} {c : List Str × List Str} {t : MV} {E TL VL HL : List MV} {m : Mem} {k : Nat} {Q : Fl → Mem → Prop} {Ex : Exn → Mem → Prop}
theorem lfB_ok (co : (ctxAt M num held c).Ok) (mo : M.Ok) (nd : M.ps.Nodup) {c0 : Nat} (hs : M.cnt[st]? = some c0) (ht : M.tr[st]? = some t) {r : Option MV} (hn : n ≤ 40) (hr : Runs (ctxAt M num held c) M.cnt n [] t E r) (hH : m[h1]? = some (.lst HL)) (hc : atM HL ((num : Nat) : Int) = some (callV c aA)) (hA : m[aA]? = some (.lst (c.2.map .str))) (hE : m[aH]? = some (.lst (held.map valOf))) {T1 : List (MV × MV)} (t1 : nOf m (.ref d1) = some (d1, T1)) (p1 : ∀ p ∈ held, p.2 ≠ ("n" : Str) → getN T1 p.1 = some (.str p.2)) (p2 : T1.length ≤ b) (hb : b ≤ 800) (hT : m[tT]? = some (.lst TL)) (hV : m[vT]? = some (.lst VL)) (l1 : TL.length ≤ 100) (l2 : VL.length ≤ 100) (nT : tT ≠ vT) (nd1 : d1 ∉ [aA, aH, tT, vT, h1]) (nA : aA ≠ tT ∧ aA ≠ vT)
    {x0 x10 x11 x12 x13 x14 x15 x16 x17 : Option MV}
    (q1 : ∀ le aN m', r = none → m'[aN]? = some (.lst (TL ++ [.tup [.ref le, wantV]])) → m'[le]? = some (.lst E) → m.length ≤ le → m.length ≤ aN → le ≠ aN → Kp [d1, tT, vT] m m' → Q (.rt (.tup [.ref aN, .ref vT])) m')
    (q2 : ∀ le o st' hold aH' m' VL' T1' y10 y11 y12 y13 y14 y15 y16 y17, r = some (.tup [.str "end", o, .int ((st' : Nat) : Int), .tup hold]) → m'[tT]? = some (.lst (TL ++ [.tup [.ref le, outV (ctxAt M num held c) o]])) → m'[le]? = some (.lst E) → m.length ≤ le → m'[vT]? = some (.lst VL') → VL'.length = VL.length + 1 → m'[aH']? = some (.lst ((hold.map (ctxAt M num held c).ob).map valOf)) → m.length ≤ aH' → nOf m' (.ref d1) = some (d1, T1') → (∀ p ∈ hold.map (ctxAt M num held c).ob, p.2 ≠ ("n" : Str) → getN T1' p.1 = some (.str p.2)) → T1'.length ≤ b + 12 → Kp [d1, tT, vT] m m' →
      Q (.nx [x0, some (.ref h1), some (.tup (M.ps.map .str)), some (.int st'), some (.tup (stsV M.cnt M.tr)), some (.ref aH'), some (.ref d1), some (.ref tT), some (.ref vT), some (.int num), y10, y11, y12, y13, y14, y15, y16, y17]) m') :
    MI.W (lfB (Tab (k + 3)) [x0, some (.ref h1), some (.tup (M.ps.map .str)), some (.int st), some (.tup (stsV M.cnt M.tr)), some (.ref aH), some (.ref d1), some (.ref tT), some (.ref vT), some (.int num), x10, x11, x12, x13, x14, x15, x16, x17] m) Q Ex := by
  unfold lfB
  have al := co.al
  have pl := co.pl
  have sz : ∀ n, n ≤ 3000 → n ≤ sizeLine := fun n h => szl h
  have sa := sts_at hs ht
  simp only [List.mem_cons, List.mem_nil_iff, or_false, not_or] at nd1
  have ll : ∀ {i : Nat} {o : MO}, m[i]? = some o → i < m.length := fun h => (List.getElem?_eq_some_iff.mp h).1
  have lA := ll hA
  have lH := ll hE
  have lT := ll hT
  have lV := ll hV
  have lh := ll hH
  have ld1 := nOf_lt t1
  have callE : callV c aA = .tup [.tup (c.1.map .str), .ref aA] := rfl
  rw [callE] at hc
  simp only [W_seq]
  simp [-nOf_ref, hH, hc, W_asgT, nCons, nName, nNil, sz 3 (by omega), sz 0 (by omega)]
  have gL : (m ++ [MO.dct [], .lst [], .lst [.ref m.length, .ref d1, .ref (m.length + 1)]])[m.length + 1 + 1]? = some (.lst [.ref m.length, .ref d1, .ref (m.length + 1)]) := at_app (i := 2)
  have gle : (m ++ [MO.dct [], .lst [], .lst [.ref m.length, .ref d1, .ref (m.length + 1)]])[m.length + 1]? = some (.lst []) := at_app (i := 1)
  have gd0 : nOf (m ++ [MO.dct [], .lst [], .lst [.ref m.length, .ref d1, .ref (m.length + 1)]]) (.ref m.length) = some (m.length, []) := by
    rw [nOf_ref, show (m ++ [MO.dct [], .lst [], .lst [.ref m.length, .ref d1, .ref (m.length + 1)]])[m.length]? = some (.dct []) from at_app (i := 0)]
  have k0 : Kp [] m (m ++ [MO.dct [], .lst [], .lst [.ref m.length, .ref d1, .ref (m.length + 1)]]) := Kp.app
  have e0 : (m ++ [MO.dct [], .lst [], .lst [.ref m.length, .ref d1, .ref (m.length + 1)]]).length = m.length + 3 := by simp
  generalize (m ++ [MO.dct [], .lst [], .lst [.ref m.length, .ref d1, .ref (m.length + 1)]]) = m1 at gL gle gd0 k0 e0 ⊢
  refine lfP_ok co gL gd0 (k0.get hE (by simp)) (by omega) (by omega) fun y m2 T0 a1 a2 a3 => ?_
  have nk : ∀ {S : List Nat} {m m' : Mem} {d : Nat} {T : List (MV × MV)}, Kp S m m' → d ∉ S → nOf m (.ref d) = some (d, T) → nOf m' (.ref d) = some (d, T) := fun {S m m' d T} k hd h => by
    have h' := h
    simp only [nOf_ref] at h' ⊢
    cases e : m[d]? with
    | none => rw [e] at h'; cases h'
    | some o => rw [k.get e hd]; rw [e] at h'; exact h'
  have k2 : Kp [m.length] m m2 := (kp_le k0).trans a3
  show MI.W (mSeq lfQ (lfR (Tab (k + 3))) _ m2) Q Ex
  rw [W_seq]
  refine lfQ_ok (b := b) (C := ctxAt M num held c) co nd (by omega) (a3.get gL (by rw [List.mem_singleton]; omega)) a1 (nk k2 (by rw [List.mem_singleton]; omega) t1) a2 p1 p2 (by omega) (by omega) (by omega) fun y13 y16 m3 T0' T1' b0 b1 c0' c1' k3 => ?_
  have k3' : Kp [m.length, d1] m m3 := (k2.mono (by simp)).trans k3
  have gL3 := k3.get (a3.get gL (by rw [List.mem_singleton]; omega)) (by simp; omega)
  have gle3 := k3.get (a3.get gle (by rw [List.mem_singleton]; omega)) (by simp; omega)
  have ln0 := c0'.ln
  have ln1 := c1'.ln
  have hl := co.hl
  have pl' : (ctxAt M num held c).ps.length ≤ 2 := pl
  have R : LawT (ctxAt M num held c) (b + 2) (m.length + 1 + 1) m.length d1 (m.length + 1) aA 0 [] T0' T1' m3 := by
    refine ⟨⟨gL3, gle3, ⟨by omega, by omega, by omega, by omega, by omega, by omega⟩, ⟨T0', b0, qt0_tab c0', by omega⟩, ⟨T1', b1, qt1_tab c1', by omega⟩⟩, b0, b1, by omega, by omega, qt0_tab c0', qt1_tab c1', by omega, k3'.get hA ?_, by omega, ?_, by omega⟩
    · simp; omega
    · intro z; exact nd1.1 z.symm
  show MI.W (lfR (Tab (k + 3)) _ m3) Q Ex
  unfold lfR
  simp only [W_seq]
  simp [-nOf_ref, sa]
  refine (te_ok (k := k) co hr (by omega) R).mono ?_ (fun x m' h => h.elim)
  rintro d m4 ⟨rfl, TA, k4⟩
  have len3 : m.length + 3 ≤ m3.length := by have := a3.1; have := k3.1; omega
  have k5 : Kp [d1] m m4 := by
    refine ⟨Nat.le_trans k3'.1 k4.1, fun i hi hn => ?_⟩
    rw [List.mem_singleton] at hn
    have h3 := k3'.2 i hi (by simp only [List.mem_cons, List.mem_nil_iff, or_false, not_or]; omega)
    exact (k4.2 i (Nat.lt_of_lt_of_le hi k3'.1) (by simp only [List.mem_cons, List.mem_nil_iff, or_false, not_or]; omega)).trans h3
  have gT := k5.get hT (by simp; omega)
  have gV := k5.get hV (by simp; omega)
  have len4 : m3.length ≤ m4.length := k4.1
  cases r with
  | none =>
    simp [TA.ls]
    have gT2 : ∀ o : MO, (m4 ++ [o])[tT]? = some (.lst TL) := fun o => (Kp.app (S := [])).get gT (by simp)
    refine ⟨sz 1 (by omega), sz 2 (by omega), sz 1 (by omega), ?_⟩
    rw [W_add_l (gT2 _) (show (m4 ++ [MO.lst [MV.tup [MV.ref (m.length + 1), MV.tup [MV.str "wanting"]]]])[m4.length]? = some (.lst [MV.tup [MV.ref (m.length + 1), MV.tup [MV.str "wanting"]]]) by simp)]
    have h100 : TL.length + 1 ≤ sizeLine := Nat.le_trans (by omega) (sz 3000 (by omega))
    refine ⟨h100, sz 2 (by omega), ?_⟩
    have k6 : Kp [d1, tT, vT] m ((m4 ++ [MO.lst [MV.tup [MV.ref (m.length + 1), MV.tup [MV.str "wanting"]]]]) ++ [MO.lst (TL ++ [MV.tup [MV.ref (m.length + 1), MV.tup [MV.str "wanting"]]])]) := ((k5.mono (by simp)).trans Kp.app).trans Kp.app
    refine q1 (m.length + 1) _ _ rfl ?_ ?_ (by omega) ?_ ?_ k6
    · simp
      rfl
    · exact (Kp.app (S := [])).get ((Kp.app (S := [])).get TA.ev (by simp)) (by simp)
    · simp; omega
    · simp; omega
  | some d =>
    obtain ⟨hE2, hd⟩ := runs_end hr rfl
    obtain ⟨T0f, T1f, RF⟩ := TA.go (by simp)
    obtain ⟨ov, st2, hold2, ed, _⟩ := hd.ex
    have nn : ¬ (d = .non) := by rw [ed]; intro h; cases h
    simp
    refine lfS_ok (k := k + 2) co mo RF hE2 hd gT gV l1 l2 nT (by simp only [List.mem_cons, List.mem_nil_iff, or_false, not_or]; omega) (by simp only [List.mem_cons, List.mem_nil_iff, or_false, not_or]; omega) fun o st' hold y15 y17 aH' m5 VL' e5 f1 f2 f3 f4 f5 f6 k6 => ?_
    have k7 : Kp [d1, tT, vT] m m5 := (k5.mono (by simp)).trans (k6.mono (by simp))
    refine q2 (m.length + 1) o st' hold aH' m5 VL' T1f _ _ _ _ _ _ _ _ (by rw [e5]) f1 (k6.get TA.ev (by simp only [List.mem_cons, List.mem_nil_iff, or_false, not_or]; omega)) (by omega) f2 f3 f4 (by omega) (nk k6 (by simp only [List.mem_cons, List.mem_nil_iff, or_false, not_or]; omega) RF.t1) ?_ ?_ k7
    · intro p hp hk
      obtain ⟨v, hv, rfl⟩ := List.mem_map.mp hp
      exact RF.h1.at_ v (f6 v hv) hk
    · have := RF.l1
      have : E.length ≤ c.2.length := hE2
      have : c.2.length ≤ 10 := al
      omega
end
end K51
set_option maxHeartbeats 4000000
namespace K51
open PySem L2 MI
theorem ToldAt.kp2 {m m' : Mem} {b aT : Nat} {L : List MV} {told : List (List MV × MV)} {les S : List Nat} (h : ToldAt m b aT L told les) (k : Kp S m m') (hS : ∀ x ∈ S, x < b) : ToldAt m' b aT L told les :=
  ⟨h.l1, h.l2, fun i E o l h1 h2 => by
    obtain ⟨z1, z2⟩ := h.at_ i E o l h1 h2
    exact ⟨z1, k.get z2 (fun z => by
      have := hS _ z
      have := (h.lo l (List.mem_of_getElem? h2)).1
      omega)⟩, h.nd, fun l hl => by
    obtain ⟨z1, z2, z3⟩ := h.lo l hl
    exact ⟨z1, z2, Nat.lt_of_lt_of_le z3 k.1⟩⟩
theorem ToldAt.other {m : Mem} {b aT aT' : Nat} {L : List MV} {told : List (List MV × MV)} {les : List Nat} (h : ToldAt m b aT L told les) (h1 : ∀ l, l < m.length → b ≤ l → l ≠ aT') : ToldAt m b aT' L told les :=
  ⟨h.l1, h.l2, h.at_, h.nd, fun l hl => by
    obtain ⟨z1, z2, z3⟩ := h.lo l hl
    exact ⟨z1, h1 l z3 z1, z3⟩⟩
theorem ToldAt.snoc2 {m m' : Mem} {b aT aT' le : Nat} {L : List MV} {told : List (List MV × MV)} {les S : List Nat} {E : List MV} {o : MV} (h : ToldAt m b aT L told les) (k : Kp S m m') (hS : ∀ x ∈ S, x < b) (he : m'[le]? = some (.lst E)) (hle : m.length ≤ le) (hb : b ≤ m.length) (h1 : ∀ l, l < m.length → b ≤ l → l ≠ aT') (h2 : le ≠ aT') : ToldAt m' b aT' (L ++ [.tup [.ref le, o]]) (told ++ [(E, o)]) (les ++ [le]) := by
  have h' := (h.other h1).kp2 k hS
  refine ⟨by simp [h.l1], by simp [h.l2], fun i E' o' l h1 h2 => ?_, ?_, fun l hl => ?_⟩
  · by_cases hi : i < told.length
    · rw [List.getElem?_append_left hi] at h1
      rw [List.getElem?_append_left (by rw [h.l2]; exact hi)] at h2
      rw [List.getElem?_append_left (by rw [h.l1]; exact hi)]
      exact h'.at_ i E' o' l h1 h2
    · rw [List.getElem?_append_right (by omega)] at h1
      rw [List.getElem?_append_right (by rw [h.l2]; omega)] at h2
      rw [List.getElem?_append_right (by rw [h.l1]; omega)]
      rw [h.l2] at h2
      rw [h.l1]
      cases hj : i - told.length with
      | zero =>
        rw [hj] at h1 h2
        simp at h1 h2
        obtain ⟨rfl, rfl⟩ := h1
        subst h2
        exact ⟨rfl, he⟩
      | succ j => rw [hj] at h1; simp at h1
  · refine List.nodup_append.mpr ⟨h.nd, by simp, fun x hx y hy => ?_⟩
    simp at hy
    subst hy
    have := (h.lo x hx).2.2
    omega
  · rcases List.mem_append.mp hl with hl | hl
    · exact h'.lo l hl
    · simp at hl
      subst hl
      exact ⟨by omega, h2, (List.getElem?_eq_some_iff.mp he).1⟩
def numsV : Nat → Nat → List MV
  | _, 0 => []
  | n, k + 1 => .int ((n : Nat) : Int) :: numsV (n + 1) k
theorem numsV_eq : ∀ (n k : Nat), numsV n k = (List.range k).map fun i => MV.int ((n + i : Nat) : Int)
  | n, 0 => rfl
  | n, k + 1 => by
    rw [List.range_succ_eq_map]
    show _ :: numsV (n + 1) k = _
    rw [numsV_eq (n + 1) k, List.map_cons, List.map_map]
    congr 1
    refine List.map_congr_left fun i _ => ?_
    show MV.int _ = MV.int _
    congr 2
    omega
theorem rng_nums {n : Nat} : rngL 0 n = numsV 0 n := by
  rw [numsV_eq]
  unfold rngL
  refine List.map_congr_left fun i _ => ?_
  simp
theorem fl_loop {M : Mach} (mo : M.Ok) (nd : M.ps.Nodup) {b0 d1 tT vT h1 k : Nat} (dis : d1 ≠ tT ∧ d1 ≠ vT ∧ d1 ≠ h1 ∧ tT ≠ vT) (lo : d1 < b0 ∧ tT < b0 ∧ vT < b0) {HL : List MV} {num st : Nat} {held : List (MV × Str)} {hist : List (List Str × List Str)} {told : List (List MV × MV)} (h : Play M num st held hist told) :
    ∀ (as : List Nat) (TL VL : List MV) (told0 : List (List MV × MV)) (les0 : List Nat) (m : Mem) (aH b : Nat) (T1 : List (MV × MV)) (x0 x9 x10 x11 x12 x13 x14 x15 x16 x17 : Option MV), M.cnt[st]? ≠ none → as.length = hist.length → m[h1]? = some (.lst HL) → (h1 ≠ tT ∧ h1 ≠ vT) → (∀ (i : Nat) c a, hist[i]? = some c → as[i]? = some a → atM HL ((num + i : Nat) : Int) = some (callV c a) ∧ m[a]? = some (.lst (c.2.map .str)) ∧ a ∉ [d1, tT, vT]) → m[aH]? = some (.lst (held.map valOf)) → aH ≠ d1 → m[tT]? = some (.lst TL) → m[vT]? = some (.lst VL) → nOf m (.ref d1) = some (d1, T1) → (∀ p ∈ held, p.2 ≠ ("n" : Str) → getN T1 p.1 = some (.str p.2)) → T1.length ≤ b → b + 12 * hist.length ≤ 800 → ToldAt m b0 tT TL told0 les0 → b0 ≤ m.length → told0.length + hist.length ≤ 50 → VL.length + hist.length ≤ 60 →
    MI.W (loopM (fun _ => True) (nName 9) (lfB (Tab (k + 3))) (numsV num hist.length) [x0, some (.ref h1), some (.tup (M.ps.map .str)), some (.int st), some (.tup (stsV M.cnt M.tr)), some (.ref aH), some (.ref d1), some (.ref tT), some (.ref vT), x9, x10, x11, x12, x13, x14, x15, x16, x17] m)
      (fun fl m' => (∃ aN L' les', ((∃ y0 y1 y2 y3 y4 y5 y6 y9 y10 y11 y12 y13 y14 y15 y16 y17, aN = tT ∧ fl = .nx [y0, y1, y2, y3, y4, y5, y6, some (.ref tT), some (.ref vT), y9, y10, y11, y12, y13, y14, y15, y16, y17]) ∨ fl = .rt (.tup [.ref aN, .ref vT])) ∧ (aN = tT ∨ b0 ≤ aN) ∧ m'[aN]? = some (.lst L') ∧ ToldAt m' b0 aN L' (told0 ++ told) (les0 ++ les')) ∧ Kp [d1, tT, vT] m m') E0 := by
  induction h with
  | @nil num st held =>
    intro as TL VL told0 les0 m aH b T1 x0 x9 x10 x11 x12 x13 x14 x15 x16 x17 hst hl hh nh hA hH nH hT hV t1 p1 p2 hb A b1 hn hv
    show MI.W (loopM _ _ _ [] _ _) _ _
    refine W_lp_nil trivial ⟨⟨tT, TL, [], .inl ⟨_, _, _, _, _, _, _, _, _, _, _, _, _, _, _, _, rfl, rfl⟩, .inl rfl, hT, by simpa using A⟩, Kp.refl⟩
  | @want num st n held c rest t E co ht hn' hr =>
    intro as TL VL told0 les0 m aH b T1 x0 x9 x10 x11 x12 x13 x14 x15 x16 x17 hst hl hh nh hA hH nH hT hV t1 p1 p2 hb A b1 hn hv
    cases as with
    | nil => simp at hl
    | cons a as =>
      obtain ⟨hA0, hA1, hA2⟩ := hA 0 c a rfl rfl
      obtain ⟨c0, hs⟩ := Option.ne_none_iff_exists'.mp hst
      simp only [List.mem_cons, List.mem_nil_iff, or_false, not_or] at hA2
      simp only [List.length_cons] at hn hv hb
      have lTL := A.l1
      have lm : ∀ {i : Nat} {o : MO}, m[i]? = some o → i < m.length := fun h => (List.getElem?_eq_some_iff.mp h).1
      show MI.W (loopM _ _ _ (.int num :: numsV (num + 1) rest.length) _ _) _ _
      refine W_lp_cons (ρ1 := [x0, some (.ref h1), some (.tup (M.ps.map .str)), some (.int st), some (.tup (stsV M.cnt M.tr)), some (.ref aH), some (.ref d1), some (.ref tT), some (.ref vT), some (.int num), x10, x11, x12, x13, x14, x15, x16, x17]) trivial rfl ?_
      refine lfB_ok (k := k) (b := b) co mo nd hs ht hn' hr hh hA0 hA1 hH t1 p1 p2 (by omega) hT hV (by omega) (by omega) dis.2.2.2 (by simp only [List.mem_cons, List.mem_nil_iff, or_false, not_or]; omega) ⟨by omega, by omega⟩ ?_ ?_
      · intro le aN m' _ g1 g2 g3 g4 g5 g6
        exact ⟨⟨aN, _, [le], .inr rfl, .inr (by omega), g1, A.snoc2 g6 (by simp; omega) g2 g3 b1 (fun l z1 z2 => by omega) g5⟩, g6⟩
      · intro le o st' hold aH' m' VL' T1' y10 y11 y12 y13 y14 y15 y16 y17 e
        cases e
  | @go num st n held c rest t E o st' hold told co ht hn' hr hE hd hp ih =>
    intro as TL VL told0 les0 m aH b T1 x0 x9 x10 x11 x12 x13 x14 x15 x16 x17 hst hl hh nh hA hH nH hT hV t1 p1 p2 hb A b1 hn hv
    cases as with
    | nil => simp at hl
    | cons a as =>
      obtain ⟨hA0, hA1, hA2⟩ := hA 0 c a rfl rfl
      obtain ⟨c0, hs⟩ := Option.ne_none_iff_exists'.mp hst
      simp only [List.mem_cons, List.mem_nil_iff, or_false, not_or] at hA2
      simp only [List.length_cons] at hn hv hb
      have lTL := A.l1
      have lm : ∀ {i : Nat} {o : MO}, m[i]? = some o → i < m.length := fun h => (List.getElem?_eq_some_iff.mp h).1
      show MI.W (loopM _ _ _ (.int num :: numsV (num + 1) rest.length) _ _) _ _
      refine W_lp_cons (ρ1 := [x0, some (.ref h1), some (.tup (M.ps.map .str)), some (.int st), some (.tup (stsV M.cnt M.tr)), some (.ref aH), some (.ref d1), some (.ref tT), some (.ref vT), some (.int num), x10, x11, x12, x13, x14, x15, x16, x17]) trivial rfl ?_
      refine lfB_ok (k := k) (b := b) co mo nd hs ht hn' hr hh hA0 hA1 hH t1 p1 p2 (by omega) hT hV (by omega) (by omega) dis.2.2.2 (by simp only [List.mem_cons, List.mem_nil_iff, or_false, not_or]; omega) ⟨by omega, by omega⟩ ?_ ?_
      · intro le aN m' e
        cases e
      · intro le o2 st2 hold2 aH' m' VL' T1' y10 y11 y12 y13 y14 y15 y16 y17 e g1 g2 g3 g4 g5 g6 g7 g8 g9 g10 g11
        simp at e
        obtain ⟨rfl, e2, rfl⟩ := e
        have e2 : st' = st2 := by omega
        subst e2
        have B := A.snoc2 (aT' := tT) (o := outV (ctxAt M num held c) o) g11 (by simp; omega) g2 g3 b1 (fun l z1 z2 => by omega) (by omega)
        have hst' : M.cnt[st']? ≠ none := by
          obtain ⟨_, st3, _, e3, h3, _⟩ := hd.ex
          simp at e3
          have e3 : st' = st3 := by omega
          subst e3
          rw [List.getElem?_eq_getElem h3]
          simp
        refine (ih as _ VL' (told0 ++ [(E, outV (ctxAt M num held c) o)]) (les0 ++ [le]) m' aH' (b + 12) T1' x0 _ _ _ _ _ _ _ _ _ hst' (by simpa using hl) (g11.get hh (by simp only [List.mem_cons, List.mem_nil_iff, or_false, not_or]; omega)) nh (fun i c' a' z1 z2 => ?_) g6 ?_ g1 g4 g8 g9 g10 (by omega) B (Nat.le_trans b1 g11.1) (by simp; omega) (by omega)).mono ?_
        · obtain ⟨w1, w2, w3⟩ := hA (i + 1) c' a' (by simpa using z1) (by simpa using z2)
          refine ⟨?_, g11.get w2 w3, w3⟩
          rw [← w1]
          congr 2
          omega
        · have := nOf_lt t1
          omega
        · rintro fl m2 ⟨⟨aN, L', les', q1, q2, q3, q4⟩, q5⟩
          refine ⟨⟨aN, L', [le] ++ les', q1, q2, q3, ?_⟩, g11.trans q5⟩
          rw [List.append_assoc, List.append_assoc] at q4
          exact q4
end K51
set_option maxHeartbeats 4000000
namespace K51
open PySem L2 MI
theorem par_nodup {ps : List Str} (h : parB (ps.map .str) = some true) : ps.Nodup := by
  match ps with
  | [] => simp
  | [a] => simp
  | [a, b] =>
    have h : (if nameB (.str b) = true then some (nameB (.str a) && !decide (a = b)) else some false) = some true := h
    split at h
    · simp at h
      simp [h.2]
    · cases h
  | a :: b :: c :: d => simp [parB] at h
theorem Mach.Ok.nd {M : Mach} (h : M.Ok) : M.ps.Nodup := par_nodup h.ps
/-- what _law_follow gives -/
def FolQ (m : Mem) (told : List (List MV × MV)) (d : MV) (m' : Mem) : Prop := ∃ aT v L les, d = .tup [.ref aT, v] ∧ m.length ≤ aT ∧ m'[aT]? = some (.lst L) ∧ ToldAt m' m.length aT L told les ∧ Kp [] m m'
/-- _law_follow -/
theorem follow_ok {M : Mach} (mo : M.Ok) (z : M.cnt.getD M.bg 1 = 0) {h : Nat} {hist : List (List Str × List Str)} {as : List Nat} {m : Mem} {k : Nat} (H : HistAt m h hist as) (hl : hist.length ≤ 50) {told : List (List MV × MV)} (hp : Play M 0 M.bg [] hist told) :
    MI.W ((Tab (k + 4)).f .l_follow [M.v, .ref h] m) (FolQ m told) E0 := by
  have e1 : (Tab (k + 4)).f .l_follow = f_l_follow (Tab (k + 3)) := rfl
  rw [e1]
  unfold f_l_follow
  rw [b_lf, W_end]
  have hv : M.v = .tup [.tup (M.ps.map .str), .int M.bg, .tup (stsV M.cnt M.tr)] := rfl
  have sz : ∀ n, n ≤ 3000 → n ≤ sizeLine := fun n h => szl h
  have hc : M.cnt[M.bg]? = some 0 := by
    rw [List.getD_eq_getElem?_getD, List.getElem?_eq_getElem mo.bg] at z
    rw [List.getElem?_eq_getElem mo.bg]
    simp at z
    rw [z]
  have ht : M.tr[M.bg]? = some (M.tr[M.bg]'(by rw [mo.len]; exact mo.bg)) := List.getElem?_eq_getElem _
  have sa := sts_at hc ht
  have lh := (List.getElem?_eq_some_iff.mp H.ls).1
  have hls : ∀ r : List MO, (m ++ r)[h]? = some (.lst (List.zipWith callV hist as)) := fun r => (Kp.app (S := [])).get H.ls (by simp)
  have zl : (List.zipWith callV hist as).length = hist.length := by simp [H.len]
  rw [hv]
  simp only [W_seq]
  simp [-nOf_ref, startM, W_asgT, nCons, nName, nNil, sa, hls, H.len, sz 1 (by omega), sz 0 (by omega)]
  refine ⟨by omega, ?_⟩
  rw [rng_nums]
  have n0 : nOf (m ++ [.lst [], .dct [], .lst [], .lst [.int 0]]) (.ref (m.length + 1)) = some (m.length + 1, []) := by
    rw [nOf_ref, show (m ++ [MO.lst [], .dct [], .lst [], .lst [.int 0]])[m.length + 1]? = some (.dct []) from at_app (i := 1)]
  have lm : ∀ {i : Nat} {o : MO}, m[i]? = some o → i < m.length := fun h => (List.getElem?_eq_some_iff.mp h).1
  refine (fl_loop (k := k) (b0 := m.length + 4) (d1 := m.length + 1) (tT := m.length + 1 + 1) (vT := m.length + 1 + 1 + 1) (h1 := h) mo mo.nd ⟨by omega, by omega, by omega, by omega⟩ ⟨by omega, by omega, by omega⟩ (HL := List.zipWith callV hist as) hp as [] [.int 0] [] [] (m ++ [.lst [], .dct [], .lst [], .lst [.int 0]]) m.length 0 [] _ _ _ _ _ _ _ _ _ _ (by rw [hc]; simp) H.len (hls _) ⟨by omega, by omega⟩ (fun i c a z1 z2 => ?_) (at_app (i := 0)) (by omega) (at_app (i := 2)) (at_app (i := 3)) n0 (fun p hp => absurd hp (by simp)) (by simp) (by omega) ?_ (by simp) (by simp; omega) (by simp; omega)).mono ?_ (fun x m' h => h.elim)
  · refine ⟨?_, (Kp.app (S := [])).get (H.at_ i c a z1 z2) (by simp), ?_⟩
    · refine atM_nat ?_
      rw [Nat.zero_add, List.getElem?_zipWith, z1, z2]
    · have := lm (H.at_ i c a z1 z2)
      simp only [List.mem_cons, List.mem_nil_iff, or_false, not_or]; omega
  · exact ⟨rfl, rfl, fun i E o l h => absurd h (by simp), List.nodup_nil, fun l h => absurd h (by simp)⟩
  · rintro fl m' ⟨⟨aN, L', les', q1, q2, q3, q4⟩, q5⟩
    have k5 : Kp [] m m' := ⟨Nat.le_trans (by simp) q5.1, fun i hi hn => (q5.2 i (by simp; omega) (by simp only [List.mem_cons, List.mem_nil_iff, or_false, not_or]; omega)).trans (List.getElem?_append_left hi)⟩
    have q4 : ToldAt m' m.length aN L' told les' := by
      have q4 : ToldAt m' (m.length + 4) aN L' told les' := q4
      exact ⟨q4.l1, q4.l2, q4.at_, q4.nd, fun l hl => by obtain ⟨w1, w2, w3⟩ := q4.lo l hl; exact ⟨by omega, w2, w3⟩⟩
    rcases q1 with ⟨y0, y1, y2, y3, y4, y5, y6, y9, y10, y11, y12, y13, y14, y15, y16, y17, rfl, rfl⟩ | rfl
    · show MI.W (mRet _ _ m') _ _
      simp
      exact ⟨sz 2 (by omega), _, _, L', les', rfl, by omega, q3, q4, k5⟩
    · exact ⟨aN, _, L', les', rfl, by omega, q3, q4, k5⟩
end K51
set_option maxHeartbeats 4000000
namespace K51
open PySem L2 MI
theorem geo (m : Mem) (a b c : MO) (p : m.length + 1 + 1 < (m ++ [a, b, c]).length) : (m ++ [a, b, c])[m.length + 1 + 1]'p = c := by
  have h : (m ++ [a, b, c])[m.length + 1 + 1]? = some c := at_app (i := 2)
  rw [List.getElem?_eq_getElem p] at h
  exact Option.some.inj h
theorem word_good {k : Nat} {v h : MV} {m : Mem} (r : MI.W ((Tab k).f .run_machine [v, h] m) (fun _ m' => Kp [] m m') E0) : MI.W ((Tab (k + 1)).f .l_word [v, h] m) (fun d m' => d = .str "good" ∧ Kp [] m m') E0 := by
  have e1 : (Tab (k + 1)).f .l_word = f_l_word (Tab k) := rfl
  rw [e1]
  unfold f_l_word b_l_word
  have sz : ∀ n, n ≤ 3000 → n ≤ sizeLine := fun n h => szl h
  simp [startM]
  refine r.mono ?_ (fun x m' h => h.elim)
  intro d m' k'
  simp [isxV, exnOf, sz 2 (by omega), sz 4 (by omega)]
  exact k'.trans Kp.app
theorem word_mach {k : Nat} {v h : MV} {m : Mem} (r : MI.W ((Tab k).f .run_machine [v, h] m) (fun _ _ => False) (fun x m' => x = ⟨"InvalidMachine"⟩ ∧ Kp [] m m')) : MI.W ((Tab (k + 1)).f .l_word [v, h] m) (fun d m' => d = .str "machine" ∧ Kp [] m m') E0 := by
  have e1 : (Tab (k + 1)).f .l_word = f_l_word (Tab k) := rfl
  rw [e1]
  unfold f_l_word b_l_word
  have sz : ∀ n, n ≤ 3000 → n ≤ sizeLine := fun n h => szl h
  simp [startM]
  refine r.mono (fun d m' h => h.elim) ?_
  rintro x m' ⟨rfl, k'⟩
  have g : ∀ a b c : MO, (m' ++ [a, b, c])[m'.length + 1 + 1]? = some c := fun a b c => at_app (i := 2)
  have g1 : ∀ (a : MO) (r : List MO), (m' ++ a :: r)[m'.length]? = some a := fun a r => at_app (i := 0)
  have g2 : ∀ (a b : MO) (r : List MO), (m' ++ a :: b :: r)[m'.length + 1]? = some b := fun a b r => at_app (i := 1)
  simp
  rw [show p_OperandError "InvalidMachine" = some true by decide]
  simp [-List.getElem?_eq_getElem, -getElem?_pos, g, g1, g2, isxV, exnOf, show p_InvalidHistory "InvalidMachine" = some false by decide, show p_InvalidMachine "InvalidMachine" = some true by decide, sz 2 (by omega), sz 4 (by omega)]
  simp only [geo]
  exact ⟨rfl, k'.trans Kp.app⟩
theorem word_hist {k : Nat} {v h : MV} {m : Mem} (r : MI.W ((Tab k).f .run_machine [v, h] m) (fun _ _ => False) (fun x m' => x = ⟨"InvalidHistory"⟩ ∧ Kp [] m m')) : MI.W ((Tab (k + 1)).f .l_word [v, h] m) (fun d m' => d = .str "history" ∧ Kp [] m m') E0 := by
  have e1 : (Tab (k + 1)).f .l_word = f_l_word (Tab k) := rfl
  rw [e1]
  unfold f_l_word b_l_word
  have sz : ∀ n, n ≤ 3000 → n ≤ sizeLine := fun n h => szl h
  simp [startM]
  refine r.mono (fun d m' h => h.elim) ?_
  rintro x m' ⟨rfl, k'⟩
  have g : ∀ a b c : MO, (m' ++ [a, b, c])[m'.length + 1 + 1]? = some c := fun a b c => at_app (i := 2)
  have g1 : ∀ (a : MO) (r : List MO), (m' ++ a :: r)[m'.length]? = some a := fun a r => at_app (i := 0)
  have g2 : ∀ (a b : MO) (r : List MO), (m' ++ a :: b :: r)[m'.length + 1]? = some b := fun a b r => at_app (i := 1)
  simp
  rw [show p_OperandError "InvalidHistory" = some true by decide]
  simp [-List.getElem?_eq_getElem, -getElem?_pos, g, g1, g2, isxV, exnOf, show p_InvalidHistory "InvalidHistory" = some true by decide, show p_InvalidMachine "InvalidHistory" = some false by decide, sz 2 (by omega), sz 4 (by omega)]
  simp only [geo]
  exact ⟨rfl, k'.trans Kp.app⟩
/-- run_machine of a wrong machine -/
theorem run_wrongM {k : Nat} {m : Mem} {v h : MV} (chk : MI.W ((Tab (k + 48)).f .check_machine [v] m) (QOk false m) (QEx false m)) : MI.W ((Tab (k + 49)).f .run_machine [v, h] m) (fun _ _ => False) (fun x m' => x = ⟨"InvalidMachine"⟩ ∧ Kp [] m m') := by
  have e1 : (Tab (k + 49)).f .run_machine = f_run_machine (Tab (k + 48)) (Hk (k + 48)) (k + 48) := rfl
  rw [e1]
  unfold f_run_machine
  rw [b_rm]
  simp [startM]
  refine chk.mono ?_ ?_
  · rintro d m1 h
    obtain ⟨_, h2, _⟩ := h
    cases h2
  · rintro x m1 h
    obtain ⟨h1, h2, h3⟩ := h
    exact ⟨h1, h3⟩
/-- run_machine of a good machine, a wrong history -/
theorem run_wrongH {M : Mach} (mo : M.Ok) (z : M.cnt.getD M.bg 1 = 0) {k : Nat} {m : Mem} {h : MV} (ih : ∀ m1, Kp [] m m1 → MI.W ((Tab (k + 47)).f .is_history [M.v, h] m1) (fun d m' => d = .bl false ∧ Kp [] m1 m') E0) : MI.W ((Tab (k + 49)).f .run_machine [M.v, h] m) (fun _ _ => False) (fun x m' => x = ⟨"InvalidHistory"⟩ ∧ Kp [] m m') := by
  have e1 : (Tab (k + 49)).f .run_machine = f_run_machine (Tab (k + 48)) (Hk (k + 48)) (k + 48) := rfl
  rw [e1]
  unfold f_run_machine
  rw [b_rm]
  have chk := Mach.check mo (k := k) (m := m)
  rw [decide_eq_true z] at chk
  have ch2 : ∀ m1, Kp [] m m1 → MI.W ((Tab (k + 48)).f .check_history [M.v, h] m1) (fun _ _ => False) (fun x m' => x = ⟨"InvalidHistory"⟩ ∧ Kp [] m1 m') := fun m1 k1 => by
    have e2 : (Tab (k + 48)).f .check_history = f_check_history (Tab (k + 47)) := rfl
    rw [e2]
    unfold f_check_history b_check_history
    simp [startM]
    refine (ih m1 k1).mono ?_ (fun x m' h => h.elim)
    rintro d m' ⟨rfl, k'⟩
    simp
    exact k'
  simp [startM]
  refine chk.mono ?_ ?_
  · rintro d m1 ⟨_, _, k1⟩
    refine (ch2 m1 k1).mono (fun d m' h => h.elim) ?_
    rintro x m2 ⟨rfl, k2⟩
    exact ⟨rfl, k1.trans k2⟩
  · rintro x m1 h
    obtain ⟨_, h2, _⟩ := h
    cases h2
end K51
set_option maxHeartbeats 4000000
namespace K51
open PySem L2 MI
theorem lc_bls {i : Nat} {ρ : MI.Env} {e : ME} {chk : Mem → Prop} {bs : List Bool} {m : Mem} {l : List MV} {Q : List MV → Mem → Prop} {E : Exn → Mem → Prop} (hc : ∀ m', Kp [] m m' → chk m') (hb : bs.length = l.length)
    (h : ∀ (j : Nat) d b, l[j]? = some d → bs[j]? = some b → ∀ m', Kp [] m m' → MI.W (e (ρ.set i (some d)) m') (fun y m2 => y = .bl b ∧ Kp [] m' m2) E0) (hl : l.length ≤ 3000)
    (q : ∀ m', Kp [] m m' → Q (bs.map .bl) m') : MI.W (lcM chk (ngName i) mYes e ρ l [] m) Q E := by
  refine W_lcs (fun r acc m' => ∃ j, j ≤ l.length ∧ r = l.drop j ∧ acc = (bs.take j).map .bl ∧ Kp [] m m') _ _ _ ⟨0, by omega, by simp, by simp, Kp.refl⟩ (fun r acc m' ⟨p, _, _, _, k⟩ => hc m' k) ?_ ?_
  · rintro d r acc m1 ⟨j, hj, e1, e2, k1⟩
    refine ⟨[(i, d)], rfl, ?_⟩
    simp only [setE]
    simp [mYes]
    have hj2 : j < l.length := by
      rcases Nat.lt_or_ge j l.length with h | h
      · exact h
      · rw [List.drop_eq_nil_of_le h] at e1; cases e1
    rw [List.drop_eq_getElem_cons hj2] at e1
    obtain ⟨rfl, rfl⟩ := List.cons.inj e1
    have hb2 : bs[j]? = some (bs[j]'(by omega)) := List.getElem?_eq_getElem _
    refine (h j _ _ (List.getElem?_eq_getElem hj2) hb2 m1 k1).mono ?_
    rintro y m2 ⟨rfl, k2⟩
    refine ⟨Nat.lt_of_lt_of_le (by rw [e2]; simp; omega) (szl (n := 3000) (Nat.le_refl _)), j + 1, by omega, rfl, ?_, k1.trans k2⟩
    rw [e2, List.take_add_one, List.getElem?_map, hb2, List.map_take]
    rfl
  · rintro acc m1 ⟨j, hj, e1, e2, k1⟩
    have : j = l.length := by
      have := congrArg List.length e1
      simp at this
      omega
    subst this
    rw [e2, List.take_of_length_le (by omega)]
    exact q m1 k1
/-- a call that is none -/
def BadC (v d : MV) (m : Mem) : Prop := ∀ k m', Kp [] m m' → MI.W ((Tab (k + 1)).f .is_call [d, v] m') (fun y m2 => y = .bl false ∧ Kp [] m' m2) E0
theorem ish_bad {M : Mach} (mo : M.Ok) {h : Nat} {hist : List (List Str × List Str)} {as : List Nat} {m : Mem} {k : Nat} {d : MV} (len : as.length = hist.length) (at_ : ∀ (i : Nat) c a, hist[i]? = some c → as[i]? = some a → m[a]? = some (.lst (c.2.map .str))) (hh : m[h]? = some (.lst (List.zipWith callV hist as ++ [d]))) (hc : ∀ c ∈ hist, CallOk M c) (hl : hist.length ≤ 50) (bad : BadC M.v d m) :
    MI.W ((Tab (k + 2)).f .is_history [M.v, .ref h] m) (fun d m' => d = .bl false ∧ Kp [] m m') E0 := by
  have e1 : (Tab (k + 2)).f .is_history = f_is_history (Tab (k + 1)) := rfl
  rw [e1]
  unfold f_is_history b_is_history
  have zl : (List.zipWith callV hist as).length = hist.length := by simp [len]
  have hv : M.v = .tup [.tup (M.ps.map .str), .int M.bg, .tup (stsV M.cnt M.tr)] := rfl
  simp [startM, ty_list hh, kit_lls, hh]
  refine lc_bls (bs := List.replicate hist.length true ++ [false]) (fun m' k' => by rw [k'.get hh (by simp)]) (by simp [len]) (fun j x b h1 h2 m' k' => ?_) (by simp; omega) (fun m1 k1 => ?_)
  · simp [wipeM]
    by_cases hj : j < hist.length
    · rw [List.getElem?_append_left (by omega)] at h1
      rw [List.getElem?_append_left (by simp; omega), List.getElem?_replicate, if_pos hj] at h2
      cases h2
      obtain ⟨i, c, a, g1, g2, rfl⟩ := zw_mem (List.mem_of_getElem? h1)
      rw [hv]
      exact isc_ok (k := k) (hc c (List.mem_of_getElem? g1)) mo (k'.get (at_ i c a g1 g2) (by simp))
    · rw [List.getElem?_append_right (by omega)] at h1
      rw [List.getElem?_append_right (by simp; omega)] at h2
      rw [zl] at h1
      simp only [List.length_replicate] at h2
      cases hi : j - hist.length with
      | zero =>
        rw [hi] at h1 h2
        cases h1
        cases h2
        exact bad k m' k'
      | succ n => rw [hi] at h1; cases h1
  · rw [W_all (bs := List.replicate hist.length true ++ [false]) (by simp)]
    exact ⟨congrArg MV.bl (by simp), k1.trans Kp.app⟩
/-- what is no list is no history -/
theorem ish_non {M : Mach} {m : Mem} {k : Nat} {d : MV} (hd : d = .non ∨ d = .tup []) : MI.W ((Tab (k + 2)).f .is_history [M.v, d] m) (fun d m' => d = .bl false ∧ Kp [] m m') E0 := by
  have e1 : (Tab (k + 2)).f .is_history = f_is_history (Tab (k + 1)) := rfl
  rw [e1]
  unfold f_is_history b_is_history
  rcases hd with rfl | rfl
  · simp [startM, show tyM m .non = some "NoneType" from rfl, show kitB "NoneType" "list" = some false from rfl]
    exact Kp.refl
  · simp [startM, show tyM m (.tup []) = some "tuple" from rfl, show kitB "tuple" "list" = some false from rfl]
    exact Kp.refl
theorem bad_non {v : MV} {m : Mem} : BadC v .non m := by
  intro k m' _
  have e1 : (Tab (k + 1)).f .is_call = f_is_call (Tab k) := rfl
  rw [e1]
  unfold f_is_call b_is_call
  simp [startM, show tyM m' .non = some "NoneType" from rfl, show kitB "NoneType" "tuple" = some false from rfl]
  exact Kp.refl
end K51
set_option maxHeartbeats 4000000
namespace K51
open PySem L2 MI
theorem kit_ntt : kitB "NoneType" "list" = some false := rfl
theorem bad_len {M : Mach} {m : Mem} {ts : List MV} {x : MV} (h : ts.length ≠ M.ps.length) : BadC M.v (.tup [.tup ts, x]) m := by
  intro k m' _
  have e1 : (Tab (k + 1)).f .is_call = f_is_call (Tab k) := rfl
  rw [e1]
  unfold f_is_call b_is_call
  have hv : M.v = .tup [.tup (M.ps.map .str), .int M.bg, .tup (stsV M.cnt M.tr)] := rfl
  have h' : ¬ ((ts.length : Int) = M.ps.length) := by omega
  rw [hv]
  simp [startM, kit_tt, W_asgT, nCons, nName, nNil, h']
  exact Kp.refl
theorem bad_lst {M : Mach} {m : Mem} {ts : List MV} (h : ts.length = M.ps.length) : BadC M.v (.tup [.tup ts, .non]) m := by
  intro k m' _
  have e1 : (Tab (k + 1)).f .is_call = f_is_call (Tab k) := rfl
  rw [e1]
  unfold f_is_call b_is_call
  have hv : M.v = .tup [.tup (M.ps.map .str), .int M.bg, .tup (stsV M.cnt M.tr)] := rfl
  rw [hv]
  simp [startM, kit_tt, W_asgT, nCons, nName, nNil, h, kit_ntt, show tyM m' .non = some "NoneType" from rfl]
  exact Kp.refl
/-- the kinds are wrong -/
theorem bad_kind {M : Mach} {m : Mem} {ks : List Str} {a : Nat} {l : List MV} (mo : M.Ok) (h : ks.length = M.ps.length) (hx : ∃ s ∈ ks, s ∉ tfn) (hA : m[a]? = some (.lst l)) : BadC M.v (.tup [.tup (ks.map .str), .ref a]) m := by
  intro k m' k0
  have hA := k0.get hA (by simp)
  have e1 : (Tab (k + 1)).f .is_call = f_is_call (Tab k) := rfl
  rw [e1]
  unfold f_is_call b_is_call
  have p2 := mo.p2
  have hv : M.v = .tup [.tup (M.ps.map .str), .int M.bg, .tup (stsV M.cnt M.tr)] := rfl
  rw [hv]
  have kl' : (ks.length : Int) = M.ps.length := by omega
  simp [startM, kit_tt, W_asgT, nCons, nName, nNil, kl', ty_list hA, kit_lls]
  refine lc_bl (φ := inL tfn) (fun _ _ => trivial) (fun d hd m' k' => ?_) (by simp; omega) (fun m1 k1 => ?_)
  · obtain ⟨s, hs, rfl⟩ := List.mem_map.mp hd
    simp [wipeM]
    erw [W_in_strs (l := tfn)]
    exact ⟨rfl, Kp.refl⟩
  · have t1 : ((ks.map MV.str).map (inL tfn)).all id = false := by
      obtain ⟨s, hs, hn⟩ := hx
      rw [List.map_map, List.all_map, List.all_eq_false]
      exact ⟨s, hs, by simp only [id, Function.comp, inL]; rw [decide_eq_false hn]; simp⟩
    rw [W_all (bs := (ks.map MV.str).map (inL tfn)) (by simp), t1]
    simp
    exact k1.trans Kp.app
/-- the answers are wrong -/
theorem bad_ans {M : Mach} {m : Mem} {ks : List Str} {a : Nat} {x : MV} (mo : M.Ok) (h : ks.length = M.ps.length) (hk : ∀ s ∈ ks, s ∈ tfn) (hA : m[a]? = some (.lst [x])) (hx : ∀ m', Kp [] m m' → MI.W (gInB false x c_ANSWERS m') (fun y m2 => y = .bl false ∧ Kp [] m' m2) E0) : BadC M.v (.tup [.tup (ks.map .str), .ref a]) m := by
  intro k m' k0
  have hA := k0.get hA (by simp)
  have e1 : (Tab (k + 1)).f .is_call = f_is_call (Tab k) := rfl
  rw [e1]
  unfold f_is_call b_is_call
  have p2 := mo.p2
  have hv : M.v = .tup [.tup (M.ps.map .str), .int M.bg, .tup (stsV M.cnt M.tr)] := rfl
  rw [hv]
  have kl' : (ks.length : Int) = M.ps.length := by omega
  simp [startM, kit_tt, W_asgT, nCons, nName, nNil, kl', ty_list hA, kit_lls]
  refine lc_bl (φ := inL tfn) (fun _ _ => trivial) (fun d hd m' k' => ?_) (by simp; omega) (fun m1 k1 => ?_)
  · obtain ⟨s, hs, rfl⟩ := List.mem_map.mp hd
    simp [wipeM]
    erw [W_in_strs (l := tfn)]
    exact ⟨rfl, Kp.refl⟩
  · have t1 : ((ks.map MV.str).map (inL tfn)).all id = true := by
      rw [List.map_map, List.all_map, List.all_eq_true]
      intro s hs
      exact decide_eq_true (hk s hs)
    rw [W_all (bs := (ks.map MV.str).map (inL tfn)) (by simp), t1]
    have hA1 : (m1 ++ [MO.lst (((ks.map MV.str).map (inL tfn)).map .bl)])[a]? = some (.lst [x]) := (k1.trans Kp.app).get hA (by simp)
    have k2 : Kp [] m' (m1 ++ [MO.lst (((ks.map MV.str).map (inL tfn)).map .bl)]) := k1.trans Kp.app
    generalize (m1 ++ [MO.lst (((ks.map MV.str).map (inL tfn)).map .bl)]) = m2 at hA1 k2
    simp [lstOf, hA1]
    refine lc_bl (φ := fun _ => false) (fun m' k' => by rw [k'.get hA1 (by simp)]) (fun d hd m3 k3 => ?_) (by simp) (fun m3 k3 => ?_)
    · rw [List.mem_singleton] at hd
      subst hd
      simp [wipeM]
      exact hx m3 ((k0.trans k2).trans k3)
    · rw [W_all (bs := [false]) (by simp)]
      exact ⟨rfl, (k2.trans k3).trans Kp.app⟩
end K51
set_option maxHeartbeats 4000000
namespace K51
open PySem L2 MI
theorem in_y {m : Mem} {s : Str} (h : s ∉ tfnx) : MI.W (gInB false (.str s) c_ANSWERS m) (fun y m2 => y = .bl false ∧ Kp [] m m2) E0 := by
  have key : ∀ (Q : MV → Mem → Prop) (E : Exn → Mem → Prop), MI.W (gInA false (.str s) c_ANSWERS m) Q E = Q (.bl (decide (s ∈ tfnx))) m := fun Q E => W_in_strs (l := tfnx) (neg := false)
  rw [gInB_s, key, decide_eq_false h]
  exact ⟨rfl, Kp.refl⟩
theorem in_non {m : Mem} : MI.W (gInB false .non c_ANSWERS m) (fun y m2 => y = .bl false ∧ Kp [] m m2) E0 := by
  have key : ∀ (Q : MV → Mem → Prop) (E : Exn → Mem → Prop), MI.W (gInB false .non c_ANSWERS m) Q E = Q (.bl false) m := fun Q E => W_in_flat (l := tfnx) (.inl rfl)
  rw [key]
  exact ⟨rfl, Kp.refl⟩
theorem in_lst {m : Mem} {n : Nat} (hn : m[n]? = some (.lst [.str "t"])) : MI.W (gInB false (.ref n) c_ANSWERS m) (fun y m2 => y = .bl false ∧ Kp [] m m2) E0 :=
  W_inB_ref (ss := tfnx) hn ⟨by decide +kernel, by decide +kernel, by decide +kernel⟩ ⟨by decide +kernel, by decide +kernel, by decide +kernel⟩ ⟨rfl, Kp.refl⟩
theorem BadC.kp {v d : MV} {m m1 : Mem} (h : BadC v d m) (k : Kp [] m m1) : BadC v d m1 := fun j m' k' => h j m' (k.trans k')
theorem word_bad {M : Mach} (mo : M.Ok) (z : M.cnt.getD M.bg 1 = 0) {h : Nat} {hist : List (List Str × List Str)} {as : List Nat} {m : Mem} {k : Nat} {d : MV} (len : as.length = hist.length) (at_ : ∀ (i : Nat) c a, hist[i]? = some c → as[i]? = some a → m[a]? = some (.lst (c.2.map .str))) (hh : m[h]? = some (.lst (List.zipWith callV hist as ++ [d]))) (hc : ∀ c ∈ hist, CallOk M c) (hl : hist.length ≤ 50) (bad : BadC M.v d m) :
    MI.W ((Tab (k + 50)).f .l_word [M.v, .ref h] m) (fun d m' => d = .str "history" ∧ Kp [] m m') E0 :=
  word_hist (run_wrongH mo z fun m1 k1 => ish_bad (k := k + 45) mo len (fun i c a h1 h2 => k1.get (at_ i c a h1 h2) (by simp)) (k1.get hh (by simp)) hc hl (bad.kp k1))
theorem word_one {M : Mach} (mo : M.Ok) (z : M.cnt.getD M.bg 1 = 0) {h : Nat} {m : Mem} {k : Nat} {d : MV} (hh : m[h]? = some (.lst [d])) (bad : BadC M.v d m) :
    MI.W ((Tab (k + 50)).f .l_word [M.v, .ref h] m) (fun d m' => d = .str "history" ∧ Kp [] m m') E0 :=
  word_bad mo z (hist := []) (as := []) rfl (fun i c a h1 => by simp at h1) hh (by simp) (by simp) bad
theorem word_non {M : Mach} (mo : M.Ok) (z : M.cnt.getD M.bg 1 = 0) {m : Mem} {k : Nat} {d : MV} (hd : d = .non ∨ d = .tup []) :
    MI.W ((Tab (k + 50)).f .l_word [M.v, d] m) (fun d m' => d = .str "history" ∧ Kp [] m m') E0 :=
  word_hist (run_wrongH mo z fun m1 k1 => ish_non (k := k + 45) hd)
/-- the word of a good machine with no call, of one that begins with places -/
theorem word_bg {M : Mach} (mo : M.Ok) {bg : Nat} (hb : bg < M.cnt.length) {h : Nat} {m : Mem} {k : Nat} (hh : m[h]? = some (.lst [])) :
    MI.W ((Tab (k + 50)).f .l_word [.tup [.tup (M.ps.map .str), .int bg, .tup (stsV M.cnt M.tr)], .ref h] m) (fun d m' => d = .str (if M.cnt.getD bg 1 = 0 then "good" else "machine") ∧ Kp [] m m') E0 := by
  let M' : Mach := ⟨M.ps, bg, M.cnt, M.tr⟩
  have mo' : M'.Ok := ⟨mo.ps, mo.p2, mo.len, mo.n1, mo.n2, mo.cnts, hb, mo.tree⟩
  show MI.W ((Tab (k + 50)).f .l_word [M'.v, .ref h] m) _ _
  by_cases z : M.cnt.getD bg 1 = 0
  · rw [if_pos z]
    refine word_good ((run_good (k := k) mo' z (hist := []) (as := []) ⟨hh, rfl, fun i c a h1 => by simp at h1⟩ (by simp) (by simp) .nil).mono ?_)
    rintro d m' ⟨_, _, _, _, _, _, _, k'⟩
    exact k'
  · rw [if_neg z]
    have chk := Mach.check mo' (k := k) (m := m)
    rw [show decide (M'.cnt.getD M'.bg 1 = 0) = false from decide_eq_false z] at chk
    exact word_mach (run_wrongM chk)
end K51
set_option maxHeartbeats 4000000
namespace K51
open PySem L2 MI
@[irreducible] noncomputable def lwH (ck : Tabl) : MS := (mFor (mRng (mCons (mCall (ck.f .l_draw) (mCons (mVar 1) (mCons (mC (.int 5)) mNil))) mNil)) (nName 6)
    (mSeq (mAsg (mCall gTuple (mCons (mLc (mAnyI (mBin gItem (mVar 3) (mC (.int 0)))) (ngName 16) mYes (mCall (ck.f .l_pick) (mCons (mVar 1) (mCons (mVar 4) mNil))) [16]) mNil)) (nName 13))
    (mSeq (mAsg (mCall (ck.f .l_pick) (mCons (mVar 1) (mCons (mLst (mCons (mC (.int 4)) (mCons (mC (.int 4)) (mCons (mC (.int 4)) (mCons (mC (.int 1)) (mCons (mC (.int 0)) mNil)))))) mNil))) (nName 14))
    (mDrop (mBM gAppend (mVar 5) (mCons (mTup (mCons (mVar 13) (mCons (mLc (mRng (mCons (mVar 14) mNil)) (ngName 17) mYes (mCall (ck.f .l_pick) (mCons (mVar 1) (mCons (mBin gAdd (mVar 4) (mLst (mCons (mC (.str "x")) (mCons (mC (.str "t")) mNil)))) mNil))) [17]) mNil))) mNil))))))
@[irreducible] noncomputable def lwK (ck : Tabl) : MS := (mFor (mRng (mCons (mCall gLen (mCons (mBin gItem (mVar 3) (mC (.int 2))) mNil)) mNil)) (nName 6)
    (mSeq (mAsg (mBin gItem (mLst (mCons (mC (.str "good")) (mCons (mC (.str "machine")) mNil))) (mCall gInt (mCons (mBin gGt (mBin gItem (mBin gItem (mBin gItem (mVar 3) (mC (.int 2))) (mVar 6)) (mC (.int 0))) (mC (.int 0))) mNil))) (nName 9))
    (mIfS (mB (mBin (gEqA true) (mCall (ck.f .l_word) (mCons (mTup (mCons (mBin gItem (mVar 3) (mC (.int 0))) (mCons (mVar 6) (mCons (mBin gItem (mVar 3) (mC (.int 2))) mNil)))) (mCons (mLst mNil) mNil))) (mVar 9)))
    (mRet (mC (.bl false)))
    mSkip)))
@[irreducible] noncomputable def lwF (ck : Tabl) : MS := (mFor (mAnyI (mLst (mCons (mC .non) (mCons (mTup mNil) (mCons (mLst (mCons (mC .non) mNil)) (mCons (mLst (mCons (mTup (mCons (mBin gAdd (mVar 11) (mTup (mCons (mC (.str "t")) mNil))) (mCons (mLst mNil) mNil))) mNil)) (mCons (mLst (mCons (mTup (mCons (mVar 11) (mCons (mC .non) mNil))) mNil)) (mCons (mLst (mCons (mTup (mCons (mVar 11) (mCons (mLst (mCons (mC (.str "y")) mNil)) mNil))) mNil)) (mCons (mLst (mCons (mTup (mCons (mVar 11) (mCons (mLst (mCons (mC .non) mNil)) mNil))) mNil)) mNil))))))))) (nName 12)
    (mIfS (mOrT (mB (mBin (gEqA true) (mCall (ck.f .l_word) (mCons (mVar 3) (mCons (mVar 12) mNil))) (mC (.str "history")))) (mB (mBin (gEqA true) (mCall (ck.f .l_word) (mCons (mVar 3) (mCons (mBin gAdd (mVar 5) (mLst (mCons (mTup (mCons (mVar 11) (mCons (mLst (mCons (mLst (mCons (mC (.str "t")) mNil)) mNil)) mNil))) mNil))) mNil))) (mC (.str "history")))))
    (mRet (mC (.bl false)))
    mSkip))
@[irreducible] noncomputable def lwW (ck : Tabl) : MS := (mSeq (mAsg (mBin gMulB (mTup (mCons (mC (.str "t")) mNil)) (mCall gLen (mCons (mBin gItem (mVar 3) (mC (.int 0))) mNil))) (nName 11))
    (mSeq (lwF ck)
    (mIfS (mAndT (mB (mBin (gEqA true) (mVar 11) (mTup mNil))) (mB (mBin (gEqA true) (mCall (ck.f .l_word) (mCons (mVar 3) (mCons (mLst (mCons (mTup (mCons (mBin gAdd (mTup (mCons (mC (.str "x")) mNil)) (mSl (mVar 11) (mEnd (mC (.int 1))) mNo)) (mCons (mLst mNil) mNil))) mNil)) mNil))) (mC (.str "history")))))
    (mRet (mC (.bl false)))
    mSkip)))
@[irreducible] noncomputable def lwA (ck : Tabl) : MS := (mSeq (mFor (mAnyI (mVar 8)) (nName 10)
    (mDrop (mBM gAppend (mBin gItem (mVar 10) (mC (.int 0))) (mCons (mC (.str "q")) mNil))))
    (mSeq (mIfS (mB (mBin (gEqA true) (mLc (mAnyI (mVar 8)) (ngName 10) mYes (mCall gLen (mCons (mBin gItem (mVar 10) (mC (.int 0))) mNil)) [10]) (mLc (mAnyI (mVar 9)) (ngName 10) mYes (mBin gAdd (mC (.int 1)) (mCall gLen (mCons (mBin gItem (mVar 10) (mC (.int 0))) mNil))) [10])))
    (mRet (mC (.bl false)))
    mSkip)
    (mSeq (lwK ck)
    (lwW ck))))
@[irreducible] noncomputable def lwC (ck : Tabl) : MS := (mSeq (mAsg (mLc (mAnyI (mVar 5)) (ngName 15) mYes (mTup (mCons (mBin gItem (mVar 15) (mC (.int 0))) (mCons (mCall gListA (mCons (mBin gItem (mVar 15) (mC (.int 1))) mNil)) mNil))) [15]) (nName 7))
    (mSeq (mAsg (mCall (ck.f .run_machine) (mCons (mVar 3) (mCons (mVar 7) mNil))) (nName 8))
    (mSeq (mAsg (mBin gItem (mCall (ck.f .l_follow) (mCons (mVar 3) (mCons (mVar 5) mNil))) (mC (.int 0))) (nName 9))
    (mSeq (mIfS (mOrT (mB (mBin (gEqA true) (mVar 8) (mVar 9))) (mB (mBin (gEqA true) (mVar 7) (mVar 5))))
    (mRet (mC (.bl false)))
    mSkip)
    (lwA ck)))))
@[irreducible] noncomputable def lwB (ck : Tabl) : MS := (mSeq (mAsg (mCall (ck.f .l_machine) (mCons (mVar 1) mNil)) (nName 3))
    (mSeq (mAsg (mLst (mCons (mC (.str "t")) (mCons (mC (.str "f")) (mCons (mC (.str "n")) mNil)))) (nName 4))
    (mSeq (mAsg (mLst mNil) (nName 5))
    (mSeq (lwH ck)
    (lwC ck)))))
theorem b_lw (ck : Tabl) : b_law ck = (mSeq (mAsg (mCall (ck.f .l_source) (mCons (mVar 0) mNil)) (nName 1))
    (mSeq (mIfS (mNotT (mTru (mCall (ck.f .l_bounds) mNil)))
    (mRet (mC (.bl false)))
    mSkip)
    (mSeq (mFor (mRng (mCons (mC (.int 20)) mNil)) (nName 2)
    (lwB ck))
    (mRet (mC (.bl true)))))) := by
  unfold lwB lwC lwA lwW lwF lwK lwH
  rfl
end K51
set_option maxHeartbeats 4000000
namespace K51
open PySem L2 MI
/-- each state as the beginning -/
theorem lwK_ok {M : Mach} (mo : M.Ok) {k : Nat} {m : Mem} {x0 x1 x2 x4 x5 x6 x7 x8 x9 x10 x11 x12 x13 x14 x15 x16 x17 : Option MV} {Q : Fl → Mem → Prop} {Ex : Exn → Mem → Prop}
    (q : ∀ y6 y9 m', Kp [] m m' → Q (.nx [x0, x1, x2, some M.v, x4, x5, y6, x7, x8, y9, x10, x11, x12, x13, x14, x15, x16, x17]) m') :
    MI.W (lwK (Tab (k + 50)) [x0, x1, x2, some M.v, x4, x5, x6, x7, x8, x9, x10, x11, x12, x13, x14, x15, x16, x17] m) Q Ex := by
  unfold lwK
  have sz : ∀ n, n ≤ 3000 → n ≤ sizeLine := fun n h => szl h
  have hv : M.v = .tup [.tup (M.ps.map .str), .int M.bg, .tup (stsV M.cnt M.tr)] := rfl
  have sl := stsV_len (cnt := M.cnt) mo.len
  have n2 := mo.n2
  rw [hv] at q ⊢
  simp [sl]
  refine ⟨by omega, ?_⟩
  refine W_range (fun j ρ m' => (∃ y6 y9, ρ = [x0, x1, x2, some (.tup [.tup (M.ps.map .str), .int M.bg, .tup (stsV M.cnt M.tr)]), x4, x5, y6, x7, x8, y9, x10, x11, x12, x13, x14, x15, x16, x17]) ∧ Kp [] m m') ⟨⟨_, _, rfl⟩, Kp.refl⟩ ?_ ?_
  · rintro j ρ m' hj ⟨⟨y6, y9, rfl⟩, k'⟩
    have hc : M.cnt[j]? = some (M.cnt[j]'hj) := List.getElem?_eq_getElem hj
    have ht : M.tr[j]? = some (M.tr[j]'(by rw [mo.len]; exact hj)) := List.getElem?_eq_getElem _
    have sa := sts_at hc ht
    have gc : M.cnt.getD j 1 = M.cnt[j]'hj := by rw [List.getD_eq_getElem?_getD, hc]; rfl
    have wb := word_bg (k := k) mo hj (h := m'.length + 1) (m := (m' ++ [.lst [.str "good", .str "machine"]]) ++ [.lst []]) (by simp)
    rw [gc] at wb
    simp [sa, sz 2 (by omega), sz 3 (by omega), sz 0 (by omega)]
    by_cases h0 : M.cnt[j]'hj = 0
    · rw [if_pos h0] at wb
      simp [h0]
      simp at wb
      refine wb.mono ?_ (fun x m' h => h.elim)
      rintro d m2 ⟨rfl, k2⟩
      simp
      exact (k'.trans Kp.app).trans k2
    · rw [if_neg h0] at wb
      have hp : 0 < M.cnt[j]'hj := by omega
      simp [hp]
      simp at wb
      refine wb.mono ?_ (fun x m' h => h.elim)
      rintro d m2 ⟨rfl, k2⟩
      simp
      exact (k'.trans Kp.app).trans k2
  · rintro ρ m' ⟨⟨y6, y9, rfl⟩, k'⟩
    exact q y6 y9 m' k'
end K51
set_option maxHeartbeats 4000000
namespace K51
open PySem L2 MI
@[irreducible] noncomputable def lwG (ck : Tabl) : MS := (mIfS (mOrT (mB (mBin (gEqA true) (mCall (ck.f .l_word) (mCons (mVar 3) (mCons (mVar 12) mNil))) (mC (.str "history")))) (mB (mBin (gEqA true) (mCall (ck.f .l_word) (mCons (mVar 3) (mCons (mBin gAdd (mVar 5) (mLst (mCons (mTup (mCons (mVar 11) (mCons (mLst (mCons (mLst (mCons (mC (.str "t")) mNil)) mNil)) mNil))) mNil))) mNil))) (mC (.str "history")))))
    (mRet (mC (.bl false)))
    mSkip)
theorem b_lwF (ck : Tabl) : lwF ck = (mFor (mAnyI (mLst (mCons (mC .non) (mCons (mTup mNil) (mCons (mLst (mCons (mC .non) mNil)) (mCons (mLst (mCons (mTup (mCons (mBin gAdd (mVar 11) (mTup (mCons (mC (.str "t")) mNil))) (mCons (mLst mNil) mNil))) mNil)) (mCons (mLst (mCons (mTup (mCons (mVar 11) (mCons (mC .non) mNil))) mNil)) (mCons (mLst (mCons (mTup (mCons (mVar 11) (mCons (mLst (mCons (mC (.str "y")) mNil)) mNil))) mNil)) (mCons (mLst (mCons (mTup (mCons (mVar 11) (mCons (mLst (mCons (mC .non) mNil)) mNil))) mNil)) mNil))))))))) (nName 12) (lwG ck)) := by
  unfold lwF lwG
  rfl
section
variable {M : Mach} {k hx : Nat} {m : Mem} {ks : List Str} {hist : List (List Str × List Str)} {as : List Nat} {x0 x1 x2 x4 x6 x7 x8 x9 x10 x12 x13 x14 x15 x16 x17 : Option MV} {Q : Fl → Mem → Prop} {Ex : Exn → Mem → Prop}
theorem lwG_ok (mo : M.Ok) (z : M.cnt.getD M.bg 1 = 0) (H : HistAt m hx hist as) (hc : ∀ c ∈ hist, CallOk M c) (hl : hist.length ≤ 40) (hk : ks.length = M.ps.length) (ht : ∀ s ∈ ks, s ∈ tfn) {d : MV} (hd : MI.W ((Tab (k + 50)).f .l_word [M.v, d] m) (fun d m' => d = .str "history" ∧ Kp [] m m') E0)
    (q : ∀ m', Kp [] m m' → Q (.nx [x0, x1, x2, some M.v, x4, some (.ref hx), x6, x7, x8, x9, x10, some (.tup (ks.map .str)), some d, x13, x14, x15, x16, x17]) m') :
    MI.W (lwG (Tab (k + 50)) [x0, x1, x2, some M.v, x4, some (.ref hx), x6, x7, x8, x9, x10, some (.tup (ks.map .str)), some d, x13, x14, x15, x16, x17] m) Q Ex := by
  unfold lwG
  have sz : ∀ n, n ≤ 3000 → n ≤ sizeLine := fun n h => szl h
  simp
  refine hd.mono ?_ (fun x m' h => h.elim)
  rintro d1 m1 ⟨rfl, k1⟩
  simp [sz 1 (by omega), sz 2 (by omega)]
  have H1 := H.kp k1
  have zl : (List.zipWith callV hist as).length = hist.length := by simp [H.len]
  have kk : ∀ r : List MO, Kp [] m1 (m1 ++ r) := fun r => Kp.app
  rw [W_add_l ((kk _).get H1.ls (by simp)) (at_app (i := 2))]
  have ls : (List.zipWith callV hist as).length + 1 ≤ sizeLine := Nat.le_trans (by omega) (sz 3000 (by omega))
  refine ⟨ls, ?_⟩
  have k2 : Kp [] m1 ((m1 ++ [.lst [.str "t"], .lst [.ref m1.length], .lst [.tup [.tup (ks.map .str), .ref (m1.length + 1)]]]) ++ [.lst (List.zipWith callV hist as ++ [.tup [.tup (ks.map .str), .ref (m1.length + 1)]])]) := (kk _).trans Kp.app
  have g0 : ((m1 ++ [MO.lst [.str "t"], .lst [.ref m1.length], .lst [.tup [.tup (ks.map .str), .ref (m1.length + 1)]]]) ++ [.lst (List.zipWith callV hist as ++ [.tup [.tup (ks.map .str), .ref (m1.length + 1)]])])[m1.length]? = some (.lst [.str "t"]) := by rw [List.append_assoc]; exact at_app (i := 0)
  have g1 : ((m1 ++ [MO.lst [.str "t"], .lst [.ref m1.length], .lst [.tup [.tup (ks.map .str), .ref (m1.length + 1)]]]) ++ [.lst (List.zipWith callV hist as ++ [.tup [.tup (ks.map .str), .ref (m1.length + 1)]])])[m1.length + 1]? = some (.lst [.ref m1.length]) := by rw [List.append_assoc]; exact at_app (i := 1)
  have g3 : ((m1 ++ [MO.lst [.str "t"], .lst [.ref m1.length], .lst [.tup [.tup (ks.map .str), .ref (m1.length + 1)]]]) ++ [.lst (List.zipWith callV hist as ++ [.tup [.tup (ks.map .str), .ref (m1.length + 1)]])])[(m1 ++ [MO.lst [.str "t"], .lst [.ref m1.length], .lst [.tup [.tup (ks.map .str), .ref (m1.length + 1)]]]).length]? = some (.lst (List.zipWith callV hist as ++ [.tup [.tup (ks.map .str), .ref (m1.length + 1)]])) := by simp
  have b := word_bad (k := k) mo z H1.len (fun i c a h1 h2 => k2.get (H1.at_ i c a h1 h2) (by simp)) g3 hc (by omega) (bad_ans mo hk ht g1 fun m' k' => in_lst (k'.get g0 (by simp)))
  refine b.mono ?_ (fun x m' h => h.elim)
  rintro d2 m3 ⟨rfl, k3⟩
  simp
  exact q m3 ((k1.trans k2).trans k3)
end
end K51
set_option maxHeartbeats 4000000
namespace K51
open PySem L2 MI
section
variable {M : Mach} {k hx : Nat} {m : Mem} {ks : List Str} {hist : List (List Str × List Str)} {as : List Nat} {x0 x1 x2 x4 x6 x7 x8 x9 x10 x11 x12 x13 x14 x15 x16 x17 : Option MV} {Q : Fl → Mem → Prop} {Ex : Exn → Mem → Prop}
theorem lwF_loop (mo : M.Ok) (z : M.cnt.getD M.bg 1 = 0) (H : HistAt m hx hist as) (hc : ∀ c ∈ hist, CallOk M c) (hl : hist.length ≤ 40) (hk : ks.length = M.ps.length) (ht : ∀ s ∈ ks, s ∈ tfn) {chk : Mem → Prop} {items : List MV} (ck : ∀ m', Kp [] m m' → chk m') (hP : ∀ d ∈ items, ∀ m', Kp [] m m' → MI.W ((Tab (k + 50)).f .l_word [M.v, d] m') (fun d m2 => d = .str "history" ∧ Kp [] m' m2) E0)
    (q : ∀ y12 m', Kp [] m m' → Q (.nx [x0, x1, x2, some M.v, x4, some (.ref hx), x6, x7, x8, x9, x10, some (.tup (ks.map .str)), y12, x13, x14, x15, x16, x17]) m') :
    MI.W (loopM chk (nName 12) (lwG (Tab (k + 50))) items [x0, x1, x2, some M.v, x4, some (.ref hx), x6, x7, x8, x9, x10, some (.tup (ks.map .str)), x12, x13, x14, x15, x16, x17] m) Q Ex := by
  refine W_loop (fun l ρ m' => (∀ d ∈ l, d ∈ items) ∧ (∃ y, ρ = [x0, x1, x2, some M.v, x4, some (.ref hx), x6, x7, x8, x9, x10, some (.tup (ks.map .str)), y, x13, x14, x15, x16, x17]) ∧ Kp [] m m') items _ m ⟨fun d h => h, ⟨_, rfl⟩, Kp.refl⟩ (fun l ρ m' h => ck m' h.2.2) ?_ ?_
  · rintro d l ρ m' ⟨h1, ⟨y, rfl⟩, k'⟩
    refine lwG_ok (k := k) mo z (H.kp k') hc hl hk ht (hP d (h1 d List.mem_cons_self) m' k') fun m2 k2 => ?_
    exact ⟨fun d h => h1 d (List.mem_cons_of_mem _ h), ⟨_, rfl⟩, k'.trans k2⟩
  · rintro ρ m' ⟨_, ⟨y, rfl⟩, k'⟩
    exact q y m' k'
theorem lwF_ok (mo : M.Ok) (z : M.cnt.getD M.bg 1 = 0) (H : HistAt m hx hist as) (hc : ∀ c ∈ hist, CallOk M c) (hl : hist.length ≤ 40) (hk : ks.length = M.ps.length) (ht : ∀ s ∈ ks, s ∈ tfn)
    (q : ∀ y12 m', Kp [] m m' → Q (.nx [x0, x1, x2, some M.v, x4, some (.ref hx), x6, x7, x8, x9, x10, some (.tup (ks.map .str)), y12, x13, x14, x15, x16, x17]) m') :
    MI.W (lwF (Tab (k + 50)) [x0, x1, x2, some M.v, x4, some (.ref hx), x6, x7, x8, x9, x10, some (.tup (ks.map .str)), x12, x13, x14, x15, x16, x17] m) Q Ex := by
  rw [b_lwF]
  have p2 := mo.p2
  have sz : ∀ n, n ≤ 3000 → n ≤ sizeLine := fun n h => szl h
  have s1 : ks.length + 1 ≤ sizeLine := Nat.le_trans (by omega) (sz 3000 (by omega))
  simp [sz 7 (by omega), sz 1 (by omega), sz 2 (by omega), sz 0 (by omega), s1]
  have G : ∀ (r : List MO) (i : Nat), (m ++ r)[m.length + i]? = r[i]? := fun r i => at_app
  refine lwF_loop (k := k) mo z (H.kp Kp.app) hc hl hk ht (fun m' k' => ?_) (fun d hd m' k' => ?_) (fun y12 m' k' => q y12 m' (Kp.app.trans k'))
  · rw [k'.get (G _ 8) (by simp)]
  · simp only [List.mem_cons, List.mem_nil_iff, or_false] at hd
    rcases hd with rfl | rfl | rfl | rfl | rfl | rfl | rfl
    · exact word_non mo z (.inl rfl)
    · exact word_non mo z (.inr rfl)
    · exact word_one mo z (k'.get (G _ 0) (by simp)) bad_non
    · exact word_one mo z (k'.get (G _ 2) (by simp)) (bad_len (by simp [hk]))
    · exact word_one mo z (k'.get (G _ 3) (by simp)) (bad_lst (by simp [hk]))
    · exact word_one mo z (k'.get (G _ 5) (by simp)) (bad_ans mo hk ht (k'.get (G _ 4) (by simp)) fun m2 _ => in_y (by decide))
    · exact word_one mo z (k'.get (G _ 7) (by simp)) (bad_ans mo hk ht (k'.get (G _ 6) (by simp)) fun m2 _ => in_non)
/-- the wrong histories -/
theorem lwW_ok (mo : M.Ok) (ps : M.ps = [] ∨ M.ps = [("p" : Str)] ∨ M.ps = [("p" : Str), ("q" : Str)]) (z : M.cnt.getD M.bg 1 = 0) (H : HistAt m hx hist as) (hc : ∀ c ∈ hist, CallOk M c) (hl : hist.length ≤ 40)
    (q : ∀ y11 y12 m', Kp [] m m' → Q (.nx [x0, x1, x2, some M.v, x4, some (.ref hx), x6, x7, x8, x9, x10, y11, y12, x13, x14, x15, x16, x17]) m') :
    MI.W (lwW (Tab (k + 50)) [x0, x1, x2, some M.v, x4, some (.ref hx), x6, x7, x8, x9, x10, x11, x12, x13, x14, x15, x16, x17] m) Q Ex := by
  unfold lwW
  have sz : ∀ n, n ≤ 3000 → n ≤ sizeLine := fun n h => szl h
  have hv : M.v = .tup [.tup (M.ps.map .str), .int M.bg, .tup (stsV M.cnt M.tr)] := rfl
  -- what the goods are
  have key : ∀ ks : List Str, ks.length = M.ps.length → (ks = [] ∨ ks = [("t" : Str)] ∨ ks = [("t" : Str), ("t" : Str)]) → MI.W (mSeq (lwF (Tab (k + 50))) (mIfS (mAndT (mB (mBin (gEqA true) (mVar 11) (mTup mNil))) (mB (mBin (gEqA true) (mCall ((Tab (k + 50)).f .l_word) (mCons (mVar 3) (mCons (mLst (mCons (mTup (mCons (mBin gAdd (mTup (mCons (mC (.str "x")) mNil)) (mSl (mVar 11) (mEnd (mC (.int 1))) mNo)) (mCons (mLst mNil) mNil))) mNil)) mNil))) (mC (.str "history")))))
    (mRet (mC (.bl false)))
    mSkip) [x0, x1, x2, some M.v, x4, some (.ref hx), x6, x7, x8, x9, x10, some (.tup (ks.map .str)), x12, x13, x14, x15, x16, x17] m) Q Ex := by
    intro ks hk hks
    have ht2 : ∀ s ∈ ks, s ∈ tfn := by rcases hks with rfl | rfl | rfl <;> decide
    rw [W_seq]
    refine lwF_ok (k := k) mo z H hc hl hk ht2 fun y12 m1 k1 => ?_
    have da0 : Da (.tup []) := ⟨by decide +kernel, by decide +kernel, by decide +kernel⟩
    have da1 : Da (.tup [.str "t"]) := ⟨by decide +kernel, by decide +kernel, by decide +kernel⟩
    have da2 : Da (.tup [.str "t", .str "t"]) := ⟨by decide +kernel, by decide +kernel, by decide +kernel⟩
    have G : ∀ (r : List MO) (i : Nat), (m1 ++ r)[m1.length + i]? = r[i]? := fun r i => at_app
    show MI.W (mIfS _ _ _ _ m1) Q Ex
    rcases hks with rfl | rfl | rfl
    · simp [sz 2 (by omega), sz 1 (by omega), sz 0 (by omega)]
      refine W_eqD da0 da0 fun b hb => ?_
      rw [hb.mpr rfl]
      exact q _ _ _ k1
    · have c1 : cutM [MV.str "t"] (some 1) none = [] := by decide +kernel
      simp [sz 2 (by omega), sz 1 (by omega), sz 0 (by omega), c1]
      refine W_eqD da1 da0 fun b hb => ?_
      have hb : b = false := by
        cases b with
        | false => rfl
        | true => exact absurd (hb.mp rfl) (by intro h; cases h)
      subst hb
      have bk : BadC M.v (.tup [.tup ((["x"] : List Str).map .str), .ref m1.length]) (m1 ++ [MO.lst [], .lst [.tup [.tup [.str "x"], .ref m1.length]]]) := bad_kind (l := []) mo (by simpa using hk) ⟨"x", by simp, by decide⟩ (G _ 0)
      refine (word_one (k := k) mo z (G _ 1) bk).mono ?_ (fun x m' h => h.elim)
      rintro d m2 ⟨rfl, k2⟩
      simp
      exact q _ _ _ ((k1.trans Kp.app).trans k2)
    · have c1 : cutM [MV.str "t", .str "t"] (some 1) none = [.str "t"] := by rfl
      simp [sz 2 (by omega), sz 1 (by omega), sz 0 (by omega), c1]
      refine W_eqD da2 da0 fun b hb => ?_
      have hb : b = false := by
        cases b with
        | false => rfl
        | true => exact absurd (hb.mp rfl) (by intro h; cases h)
      subst hb
      have bk : BadC M.v (.tup [.tup ((["x", "t"] : List Str).map .str), .ref m1.length]) (m1 ++ [MO.lst [], .lst [.tup [.tup [.str "x", .str "t"], .ref m1.length]]]) := bad_kind (l := []) mo (by simpa using hk) ⟨"x", by simp, by decide⟩ (G _ 0)
      refine (word_one (k := k) mo z (G _ 1) bk).mono ?_ (fun x m' h => h.elim)
      rintro d m2 ⟨rfl, k2⟩
      simp
      exact q _ _ _ ((k1.trans Kp.app).trans k2)
  rcases ps with e | e | e
  · have := key [] (by simp [e]) (.inl rfl)
    rw [hv, e, W_seq] at this
    simp [hv, e, sz 1 (by omega)]
    exact this
  · have := key ["t"] (by simp [e]) (.inr (.inl rfl))
    rw [hv, e, W_seq] at this
    simp [hv, e, sz 1 (by omega)]
    exact this
  · have := key ["t", "t"] (by simp [e]) (.inr (.inr rfl))
    rw [hv, e, W_seq] at this
    simp [hv, e, sz 1 (by omega)]
    rw [W_mulB_n (by omega) (by omega) (by decide)]
    exact this
end
end K51
set_option maxHeartbeats 4000000
namespace K51
open PySem L2 MI
theorem runs_len {C : Ctx} {cnt : List Nat} {n : Nat} {E E' : List MV} {t : MV} {r : Option MV} (h : Runs C cnt n E t E' r) : E'.length ≤ C.ans.length + 1 := by
  induction h with
  | fin h1 h2 => omega
  | test _ _ _ ih => exact ih
  | want h _ _ => simp; omega
  | go _ _ _ _ ih => exact ih
theorem play_len {M : Mach} {num st : Nat} {held : List (MV × Str)} {hist : List (List Str × List Str)} {told : List (List MV × MV)} (h : Play M num st held hist told) (hc : ∀ c ∈ hist, CallOk M c) : told.length ≤ hist.length ∧ ∀ p ∈ told, p.1.length ≤ 11 := by
  induction h with
  | nil => simp
  | @want num st n held c rest t E co ht hn hr =>
    have h1 := runs_len hr
    have h2 := (hc c List.mem_cons_self).al
    refine ⟨by simp, fun p hp => ?_⟩
    rw [List.mem_singleton] at hp
    subst hp
    exact Nat.le_trans h1 (Nat.succ_le_succ h2)
  | @go num st n held c rest t E o st' hold told co ht hn hr hE hd hp ih =>
    have h2 := (hc c List.mem_cons_self).al
    obtain ⟨i1, i2⟩ := ih fun c' h' => hc c' (List.mem_cons_of_mem _ h')
    refine ⟨by simp; omega, fun p hp => ?_⟩
    rcases List.mem_cons.mp hp with rfl | hp
    · exact Nat.le_trans hE (by omega)
    · exact i2 p hp
def qd (p : List MV × MV) : List MV × MV := (p.1 ++ [.str "q"], p.2)
def mix (j : Nat) (told : List (List MV × MV)) : List (List MV × MV) := (told.take j).map qd ++ told.drop j
theorem mix_len {j : Nat} {told : List (List MV × MV)} : (mix j told).length = told.length := by
  unfold mix
  simp
  omega
theorem mix_get {j i : Nat} {told : List (List MV × MV)} (hj : j ≤ told.length) : (mix j told)[i]? = if i < j then (told[i]?).map qd else told[i]? := by
  unfold mix
  by_cases h : i < j
  · rw [if_pos h, List.getElem?_append_left (by simp; omega), List.getElem?_map, List.getElem?_take_of_lt h]
  · rw [if_neg h, List.getElem?_append_right (by simp; omega), List.getElem?_drop]
    congr 1
    simp
    omega
theorem q_loop {b aT : Nat} {L : List MV} {told : List (List MV × MV)} {les : List Nat} {m : Mem} {chk : Mem → Prop} {x0 x1 x2 x3 x4 x5 x6 x7 x8 x9 x10 x11 x12 x13 x14 x15 x16 x17 : Option MV} {Q : Fl → Mem → Prop} {Ex : Exn → Mem → Prop} (A : ToldAt m b aT L told les) (hl : ∀ p ∈ told, p.1.length ≤ 11) (hc : ∀ m', Kp les m m' → chk m')
    (q : ∀ y m', ToldAt m' b aT L (told.map qd) les → Kp les m m' → Q (.nx [x0, x1, x2, x3, x4, x5, x6, x7, x8, x9, y, x11, x12, x13, x14, x15, x16, x17]) m') :
    MI.W (loopM chk (nName 10) (mDrop (mBM gAppend (mBin gItem (mVar 10) (mC (.int 0))) (mCons (mC (.str "q")) mNil))) L [x0, x1, x2, x3, x4, x5, x6, x7, x8, x9, x10, x11, x12, x13, x14, x15, x16, x17] m) Q Ex := by
  refine W_loop (fun l ρ m' => ∃ j, j ≤ told.length ∧ l = L.drop j ∧ (∃ y, ρ = [x0, x1, x2, x3, x4, x5, x6, x7, x8, x9, y, x11, x12, x13, x14, x15, x16, x17]) ∧ ToldAt m' b aT L (mix j told) les ∧ Kp les m m') L _ m ⟨0, by omega, rfl, ⟨_, rfl⟩, by unfold mix; simpa using A, Kp.refl⟩ (fun l ρ m' ⟨_, _, _, _, _, k'⟩ => hc m' k') ?_ ?_
  · rintro d l ρ m' ⟨j, hj, hL, ⟨y, rfl⟩, B, k'⟩
    have hj2 : j < L.length := by
      rcases Nat.lt_or_ge j L.length with h | h
      · exact h
      · rw [List.drop_eq_nil_of_le h] at hL; cases hL
    have hj3 : j < told.length := by rw [← A.l1]; exact hj2
    have hj4 : j < les.length := by rw [A.l2]; exact hj3
    rw [List.drop_eq_getElem_cons hj2] at hL
    obtain ⟨hd, hl2⟩ := List.cons.inj hL
    have ht : told[j]? = some told[j] := List.getElem?_eq_getElem hj3
    have hle : les[j]? = some les[j] := List.getElem?_eq_getElem hj4
    have hm : (mix j told)[j]? = some (told[j].1, told[j].2) := by rw [mix_get hj, if_neg (by omega), ht]
    obtain ⟨g1, g2⟩ := B.at_ j _ _ _ hm hle
    have g3 : d = .tup [.ref les[j], told[j].2] := by
      rw [List.getElem?_eq_getElem hj2] at g1
      rw [hd]
      exact Option.some.inj g1
    subst g3
    have a0 : ∀ x y : MV, atM [x, y] 0 = some x := fun x y => rfl
    have tl := hl told[j] (List.getElem_mem hj3)
    simp [g2, a0]
    refine ⟨Nat.lt_of_lt_of_le (by omega) (szl (n := 3000) (Nat.le_refl _)), j + 1, hj3, hl2, ?_, k'.trans (Kp.wr (List.getElem_mem hj4))⟩
    have ll := (List.getElem?_eq_some_iff.mp g2).1
    refine ⟨by rw [A.l1, mix_len], by rw [A.l2, mix_len], fun i E o l h1 h2 => ?_, A.nd, fun l h => by
      obtain ⟨z1, z2, z3⟩ := B.lo l h
      exact ⟨z1, z2, by simpa using z3⟩⟩
    by_cases e : i = j
    · subst e
      rw [mix_get hj3, if_pos (by omega), ht] at h1
      rw [hle] at h2
      cases h2
      have h1 := Option.some.inj h1
      unfold qd at h1
      cases h1
      exact ⟨g1, by simp [ll]⟩
    · have hne : l ≠ les[j] := by
        obtain ⟨hi, rfl⟩ := List.getElem?_eq_some_iff.mp h2
        intro z
        rcases Nat.lt_or_gt_of_ne e with h | h
        · exact List.pairwise_iff_getElem.mp A.nd i j hi hj4 h z
        · exact List.pairwise_iff_getElem.mp A.nd j i hj4 hi h z.symm
      have h3 : (mix j told)[i]? = some (E, o) := by
        rw [mix_get hj3] at h1
        rw [mix_get hj]
        by_cases h : i < j
        · rw [if_pos h]; rw [if_pos (by omega)] at h1; exact h1
        · rw [if_neg h]; rw [if_neg (by omega)] at h1; exact h1
      obtain ⟨w1, w2⟩ := B.at_ i E o l h3 h2
      exact ⟨w1, by rw [List.getElem?_set_ne (Ne.symm hne)]; exact w2⟩
  · rintro ρ m' ⟨j, hj, hL, ⟨y, rfl⟩, B, k'⟩
    have : j = told.length := by
      have := congrArg List.length hL
      simp at this
      have := A.l1
      omega
    subst this
    have e : mix told.length told = told.map qd := by unfold mix; simp
    rw [e] at B
    exact q y m' B k'
end K51
set_option maxHeartbeats 4000000
namespace K51
open PySem L2 MI
theorem das_ints : ∀ (l : List Int), pus (l.map .int) = true ∧ fls (l.map .int) ≤ l.length ∧ dps (l.map .int) = 0
  | [] => ⟨rfl, by simp [fls], rfl⟩
  | i :: l => by
    obtain ⟨h1, h2, h3⟩ := das_ints l
    refine ⟨?_, ?_, ?_⟩
    · show (pu (.int i) && pus (l.map .int)) = true
      rw [h1]; rfl
    · show 1 + max (fl (.int i)) (fls (l.map .int)) ≤ l.length + 1
      have : fl (.int i) = 0 := rfl
      omega
    · show max (dp (.int i)) (dps (l.map .int)) = 0
      rw [h3]; rfl
theorem das_int {l : List Int} (h : l.length ≤ 1900) : Das (l.map .int) := by
  obtain ⟨h1, h2, h3⟩ := das_ints l
  exact ⟨h1, by omega, by omega⟩
def lenAt (m : Mem) : MV → Int
  | .tup [.ref l, _] => match m[l]? with
    | some (.lst E) => E.length
    | _ => 0
  | _ => 0
theorem told_item {m : Mem} {b aT : Nat} {L : List MV} {told : List (List MV × MV)} {les : List Nat} (A : ToldAt m b aT L told les) {i : Nat} {d : MV} (h : L[i]? = some d) : ∃ E o l, told[i]? = some (E, o) ∧ les[i]? = some l ∧ d = .tup [.ref l, o] ∧ m[l]? = some (.lst E) := by
  have hi := (List.getElem?_eq_some_iff.mp h).1
  have h1 : told[i]? = some (told[i]'(by rw [← A.l1]; exact hi)) := List.getElem?_eq_getElem _
  have h2 : les[i]? = some (les[i]'(by rw [A.l2, ← A.l1]; exact hi)) := List.getElem?_eq_getElem _
  obtain ⟨g1, g2⟩ := A.at_ i _ _ _ h1 h2
  rw [h] at g1
  exact ⟨_, _, _, h1, h2, Option.some.inj g1, g2⟩
theorem told_lens {m : Mem} {b aT : Nat} {L : List MV} {told : List (List MV × MV)} {les : List Nat} (A : ToldAt m b aT L told les) : L.map (lenAt m) = told.map fun p => (p.1.length : Int) := by
  refine List.ext_getElem? fun i => ?_
  rw [List.getElem?_map, List.getElem?_map]
  cases h : L[i]? with
  | none =>
    have : told[i]? = none := by
      rw [List.getElem?_eq_none_iff] at h ⊢
      rw [← A.l1]; exact h
    rw [this]
    rfl
  | some d =>
    obtain ⟨E, o, l, h1, h2, rfl, h3⟩ := told_item A h
    rw [h1]
    simp [lenAt, h3]
@[irreducible] noncomputable def lwL : MS := (mIfS (mB (mBin (gEqA true) (mLc (mAnyI (mVar 8)) (ngName 10) mYes (mCall gLen (mCons (mBin gItem (mVar 10) (mC (.int 0))) mNil)) [10]) (mLc (mAnyI (mVar 9)) (ngName 10) mYes (mBin gAdd (mC (.int 1)) (mCall gLen (mCons (mBin gItem (mVar 10) (mC (.int 0))) mNil))) [10])))
    (mRet (mC (.bl false)))
    mSkip)
theorem b_lwA (ck : Tabl) : lwA ck = (mSeq (mFor (mAnyI (mVar 8)) (nName 10)
    (mDrop (mBM gAppend (mBin gItem (mVar 10) (mC (.int 0))) (mCons (mC (.str "q")) mNil))))
    (mSeq lwL (mSeq (lwK ck) (lwW ck)))) := by
  unfold lwA lwL
  rfl
theorem lwL_ok {m : Mem} {x0 x1 x2 x3 x4 x5 x6 x7 x10 x11 x12 x13 x14 x15 x16 x17 : Option MV} {Q : Fl → Mem → Prop} {Ex : Exn → Mem → Prop} {aT bT : Nat} {L LB : List MV} {K1 K2 : List Int} (hT : m[aT]? = some (.lst L)) (hB : m[bT]? = some (.lst LB))
    (e1 : ∀ d ∈ L, ∃ E o l, d = .tup [.ref l, o] ∧ m[l]? = some (.lst E)) (e2 : ∀ d ∈ LB, ∃ E o l, d = .tup [.ref l, o] ∧ m[l]? = some (.lst E)) (v1 : L.map (lenAt m) = K1) (v2 : (LB.map (lenAt m)).map (fun i => 1 + i) = K1) (n1 : L.length ≤ 100) (n2 : LB.length ≤ 100)
    (q : ∀ m', Kp [] m m' → Q (.nx [x0, x1, x2, x3, x4, x5, x6, x7, some (.ref aT), some (.ref bT), x10, x11, x12, x13, x14, x15, x16, x17]) m') :
    MI.W (lwL [x0, x1, x2, x3, x4, x5, x6, x7, some (.ref aT), some (.ref bT), x10, x11, x12, x13, x14, x15, x16, x17] m) Q Ex := by
  unfold lwL
  have a0 : ∀ x y : MV, atM [x, y] 0 = some x := fun x y => rfl
  have l1 : K1.length = L.length := by rw [← v1]; simp
  simp [hT]
  refine W_pureN (fun d => .int (lenAt m d)) (fun _ => true) (by rw [hT]) (fun d hd => ⟨rfl, fun _ => W_eq ?_⟩) (by omega) (fun k1 h1 => ?_)
  · obtain ⟨E, o, l, rfl, g⟩ := e1 d hd
    simp [wipeM, a0, g, lenAt]
  rw [filter_all] at h1
  have k2 : Kp [] m (m ++ [MO.lst k1]) := Kp.app
  have hB2 := k2.get hB (by simp)
  have g1 : (m ++ [MO.lst k1])[m.length]? = some (.lst k1) := by simp
  have e2' : ∀ d ∈ LB, ∃ E o l, d = .tup [.ref l, o] ∧ m[l]? = some (.lst E) ∧ (m ++ [MO.lst k1])[l]? = some (.lst E) := fun d hd => by
    obtain ⟨E, o, l, h1, h2⟩ := e2 d hd
    exact ⟨E, o, l, h1, h2, k2.get h2 (by simp)⟩
  generalize (m ++ [MO.lst k1]) = m2 at k2 hB2 g1 e2' ⊢
  simp [hB2]
  refine W_pureN (fun d => .int (1 + lenAt m d)) (fun _ => true) (by rw [hB2]) (fun d hd => ⟨rfl, fun _ => W_eq ?_⟩) (by omega) (fun k3 h3 => ?_)
  · obtain ⟨E, o, l, rfl, g, g'⟩ := e2' d hd
    simp [wipeM, a0, g', g, lenAt]
  rw [filter_all] at h3
  have k4 : Kp [] m2 (m2 ++ [MO.lst k3]) := Kp.app
  have g2 : (m2 ++ [MO.lst k3])[m2.length]? = some (.lst k3) := by simp
  have w1 : k1 = K1.map .int := by rw [h1, ← v1, List.map_map]; rfl
  have w3 : k3 = K1.map .int := by rw [h3, ← v2, List.map_map, List.map_map]; rfl
  refine W_eqL (k4.get g1 (by simp)) g2 (by rw [w1]; exact das_int (by omega)) (by rw [w3]; exact das_int (by omega)) fun zz hz => ?_
  rw [hz.mpr (by rw [w1, w3])]
  simp
  exact q _ (k2.trans k4)
end K51
set_option maxHeartbeats 4000000
namespace K51
open PySem L2 MI
section
variable {M : Mach} {k hx : Nat} {m : Mem} {hist : List (List Str × List Str)} {as : List Nat} {x0 x1 x2 x4 x6 x7 x9 x10 x11 x12 x13 x14 x15 x16 x17 : Option MV} {Q : Fl → Mem → Prop} {Ex : Exn → Mem → Prop}
theorem lwA_ok (mo : M.Ok) (ps : M.ps = [] ∨ M.ps = [("p" : Str)] ∨ M.ps = [("p" : Str), ("q" : Str)]) (z : M.cnt.getD M.bg 1 = 0) (H : HistAt m hx hist as) (hc : ∀ c ∈ hist, CallOk M c) (hl : hist.length ≤ 40)
    {b aT b2 bT : Nat} {L LB : List MV} {told : List (List MV × MV)} {les lesB : List Nat} (A : ToldAt m b aT L told les) (B : ToldAt m b2 bT LB told lesB) (hT : m[aT]? = some (.lst L)) (hB : m[bT]? = some (.lst LB)) (tl : told.length ≤ 100) (te : ∀ p ∈ told, p.1.length ≤ 11) (dis : ∀ l ∈ les, l ∉ lesB ∧ l ≠ bT ∧ l ≠ hx ∧ l ∉ as)
    (q : ∀ y6 y9 y10 y11 y12 m', Kp les m m' → Q (.nx [x0, x1, x2, some M.v, x4, some (.ref hx), y6, x7, some (.ref aT), y9, y10, y11, y12, x13, x14, x15, x16, x17]) m') :
    MI.W (lwA (Tab (k + 50)) [x0, x1, x2, some M.v, x4, some (.ref hx), x6, x7, some (.ref aT), some (.ref bT), x10, x11, x12, x13, x14, x15, x16, x17] m) Q Ex := by
  rw [b_lwA]
  have nT : aT ∉ les := fun h => (A.lo aT h).2.1 rfl
  rw [W_seq]
  simp [hT]
  refine q_loop A te (fun m' k' => by rw [k'.get hT nT]) fun y m1 A1 k1 => ?_
  have hT1 := k1.get hT nT
  have nB : bT ∉ les := fun h => (dis bT h).2.1 rfl
  have hB1 := k1.get hB nB
  have B1 : ToldAt m1 b2 bT LB told lesB := ⟨B.l1, B.l2, fun i E o l h1 h2 => by
    obtain ⟨z1, z2⟩ := B.at_ i E o l h1 h2
    exact ⟨z1, k1.get z2 (fun h => (dis l h).1 (List.mem_of_getElem? h2))⟩, B.nd, fun l h => by
    obtain ⟨z1, z2, z3⟩ := B.lo l h
    exact ⟨z1, z2, Nat.lt_of_lt_of_le z3 k1.1⟩⟩
  have H1 : HistAt m1 hx hist as := ⟨k1.get H.ls (fun h => (dis hx h).2.2.1 rfl), H.len, fun i c a h1 h2 => k1.get (H.at_ i c a h1 h2) (fun h => (dis a h).2.2.2 (List.mem_of_getElem? h2))⟩
  have lA := A.l1
  have lB := B.l1
  have v1 := told_lens A1
  have v2 := told_lens B1
  show MI.W (mSeq lwL (mSeq (lwK (Tab (k + 50))) (lwW (Tab (k + 50)))) _ m1) Q Ex
  rw [W_seq]
  refine lwL_ok (K2 := []) hT1 hB1 (fun d hd => ?_) (fun d hd => ?_) v1 ?_ (by omega) (by omega) fun m4 k4 => ?_
  · obtain ⟨i, hi⟩ := List.mem_iff_getElem?.mp hd
    obtain ⟨E, o, l, _, _, e, g⟩ := told_item A1 hi
    exact ⟨E, o, l, e, g⟩
  · obtain ⟨i, hi⟩ := List.mem_iff_getElem?.mp hd
    obtain ⟨E, o, l, _, _, e, g⟩ := told_item B1 hi
    exact ⟨E, o, l, e, g⟩
  · rw [v2, List.map_map, List.map_map]
    refine List.map_congr_left fun p _ => ?_
    show (1 + (p.1.length : Int)) = (((p.1 ++ [MV.str "q"]).length : Nat) : Int)
    rw [List.length_append, List.length_singleton]
    omega
  · show MI.W (mSeq (lwK (Tab (k + 50))) (lwW (Tab (k + 50))) _ m4) Q Ex
    rw [W_seq]
    refine lwK_ok (k := k) mo fun y6 y9 m5 k5 => ?_
    show MI.W (lwW (Tab (k + 50)) _ m5) Q Ex
    exact lwW_ok (k := k) mo ps z ((H1.kp k4).kp k5) hc hl fun y11 y12 m6 k6 => q _ _ _ _ _ m6 (((k1.trans (kps k4)).trans (kps k5)).trans (kps k6))
end
end K51
set_option maxHeartbeats 4000000
namespace K51
open PySem L2 MI
theorem drop_rng {lo : Int} {n i : Nat} (h : i < n) : (rngL lo n).drop i = .int (lo + i) :: (rngL lo n).drop (i + 1) := by
  rw [List.drop_eq_getElem_cons (by rw [rngL_length]; exact h)]
  simp [rngL]
theorem ixN_nat {n i : Nat} (h : i < n) : ixN n (i : Int) = some i := by
  unfold ixN
  rw [if_pos (by omega), if_pos (by omega)]
  simp
theorem at_set {m : Mem} {n : Nat} {o o' : MO} (h : m[n]? = some o) : (m.set n o')[n]? = some o' := List.getElem?_set_self (List.getElem?_eq_some_iff.mp h).1
structure SoI (m : Mem) (e0 : MV) (rem : List MV) (ρ : MI.Env) (m' : Mem) : Prop where
  ex : ∃ (i c N : Nat) (cs : List Int) (x2 : Option MV), rem = (rngL 0 N).drop i ∧ ρ = [some e0, some (.ref c), x2] ∧ m'[c]? = some (.lst (cs.map .int)) ∧ cs.length = N ∧ m.length ≤ c ∧ Kp [] m m'
theorem source_ok {k : Nat} {m : Mem} {ns : List Int} : MI.W ((Tab (k + 1)).f .l_source [.kl (ns.map .int)] m) (fun d m' => ∃ s c, d = .ref s ∧ Src m' s c 0 ∧ m.length ≤ s ∧ m.length ≤ c ∧ Kp [] m m') E0 := by
  show MI.W (f_l_source (Tab k) [.kl (ns.map .int)] m) _ _
  unfold f_l_source b_l_source
  simp [startM]
  have hcut : ∃ cs : List Int, cutM (ns.map MV.int) none (some 63) = cs.map .int ∧ cs.length ≤ 63 := ⟨cutM ns none (some 63), by unfold cutM; simp [List.map_take, List.map_drop], by unfold cutM HT.sIx; simp; omega⟩
  obtain ⟨cs, e1, e2⟩ := hcut
  rw [e1]
  simp
  refine ⟨by omega, ?_⟩
  refine W_loop (SoI m (.kl (ns.map .int))) _ _ _ ⟨0, _, _, cs, none, rfl, rfl, List.getElem?_concat_length, by simp, Nat.le_refl _, Kp.push⟩ (fun _ _ _ _ => trivial) ?_ ?_
  · rintro d rem ρ m1 ⟨i, c, N, cs, x2, q1, rfl, q3, q4, q5, q6⟩
    by_cases hi : i < N
    · rw [drop_rng hi] at q1
      cases q1
      have ea : atM (cs.map MV.int) (i : Nat) = some (.int cs[i]) := atM_nat (by simp [q4, hi])
      have pw1 : CPowW 10 18 := by decide
      have pw2 : CPowW 10 60 := by decide
      have pw3 : CPowW 1000000000000000000000000000000000000000000000000000000000000 20 := by decide
      have st : ∀ v : Int, SoI m (.kl (ns.map .int)) ((rngL 0 N).drop (i + 1)) [some (.kl (ns.map .int)), some (.ref c), some (.int (i : Nat))] (m1.set c (.lst ((cs.map MV.int).set i (.int v)))) := fun v =>
        ⟨i + 1, c, N, cs.set i v, _, rfl, rfl, by rw [at_set q3, List.map_set], by simpa using q4, q5, q6.wrNew q5⟩
      have nx : SoI m (.kl (ns.map .int)) ((rngL 0 N).drop (i + 1)) [some (.kl (ns.map .int)), some (.ref c), some (.int (i : Nat))] m1 := ⟨i + 1, c, N, cs, _, rfl, rfl, q3, q4, q5, q6⟩
      simp [q3, ea, pw1, pw2, pw3, ixN_nat, q4, hi]
      split
      · split
        · exact st _
        · exact nx
      · split
        · exact st _
        · exact nx
    · rw [List.drop_of_length_le (by rw [rngL_length]; omega)] at q1
      cases q1
  · rintro ρ m1 ⟨i, c, N, cs, x2, q1, rfl, q3, q4, q5, q6⟩
    simp
    have lc : c < m1.length := (List.getElem?_eq_some_iff.mp q3).1
    have q3' : (m1 ++ [MO.lst []])[c]? = some (.lst (cs.map .int)) := (Kp.push (S := [])).get q3 (by simp)
    rw [q3']
    simp
    have lm := q6.1
    split
    · refine ⟨szl (by decide), szl (by decide), m1.length + 1, ⟨⟨[0], by simp, ?_, ?_⟩, by omega, by omega⟩, by omega, by omega, q6.trans Kp.app⟩
      · rw [show m1.length + 1 + 1 = m1.length + 2 by omega, at_app]; rfl
      · rw [at_app]; rfl
    · refine ⟨szl (by decide), c, ⟨⟨cs, by assumption, ?_, ?_⟩, by omega, by omega⟩, by omega, by omega, q6.trans Kp.app⟩
      · rw [at_app]; rfl
      · exact (Kp.app (S := [])).get q3 (by simp)
end K51
set_option maxHeartbeats 4000000
namespace K51
open PySem L2 MI
theorem lc_picks {i : Nat} {ρ : MI.Env} {e : ME} {chk : Mem → Prop} {ss : List Str} {s c n : Nat} {m : Mem} {l : List MV} {Q : List MV → Mem → Prop} {E : Exn → Mem → Prop} (hc : ∀ m', Kp [s, c] m m' → chk m') (B : Bud m s c (n + l.length))
    (h : ∀ d ∈ l, ∀ m' j, Kp [s, c] m m' → Bud m' s c (j + 1) → MI.W (e (ρ.set i (some d)) m') (fun y m2 => (∃ x ∈ ss, y = .str x) ∧ Bud m2 s c j ∧ Kp [s, c] m' m2) E0) (hl : l.length ≤ 3000)
    (q : ∀ (xs : List Str) m', xs.length = l.length → (∀ x ∈ xs, x ∈ ss) → Bud m' s c n → Kp [s, c] m m' → Q (xs.map .str) m') : MI.W (lcM chk (ngName i) mYes e ρ l [] m) Q E := by
  refine W_lcs (fun r acc m' => ∃ (p : List MV) (xs : List Str), l = p ++ r ∧ xs.length = p.length ∧ acc = xs.map .str ∧ (∀ x ∈ xs, x ∈ ss) ∧ Bud m' s c (n + r.length) ∧ Kp [s, c] m m') _ _ _ ⟨[], [], rfl, rfl, rfl, by simp, B, Kp.refl⟩ (fun r acc m' ⟨p, xs, _, _, _, _, _, k⟩ => hc m' k) ?_ ?_
  · rintro d r acc m1 ⟨p, xs, e1, e2, e3, e4, b1, k1⟩
    refine ⟨[(i, d)], rfl, ?_⟩
    simp only [setE]
    simp [mYes]
    have hm : d ∈ l := by rw [e1]; simp
    have lp : p.length + (r.length + 1) = l.length := by rw [e1]; simp
    refine (h d hm m1 (n + r.length) k1 (b1.less (by simp; omega))).mono ?_
    rintro y m2 ⟨⟨x, hx, rfl⟩, b2, k2⟩
    refine ⟨Nat.lt_of_lt_of_le (by rw [e3]; simp; omega) (szl (n := 3000) (Nat.le_refl _)), p ++ [d], by rw [e1]; simp, xs ++ [x], by simp [e2], by rw [e3]; simp, ?_, b2, k1.trans k2⟩
    intro w hw
    rcases List.mem_append.mp hw with hw | hw
    · exact e4 w hw
    · rw [List.mem_singleton] at hw; rw [hw]; exact hx
  · rintro acc m1 ⟨p, xs, e1, e2, e3, e4, b1, k1⟩
    rw [List.append_nil] at e1
    subst e1
    rw [e3]
    exact q xs m1 e2 e4 b1 k1
end K51
set_option maxHeartbeats 4000000
namespace K51
open PySem L2 MI
@[irreducible] noncomputable def lwH1 (ck : Tabl) : MS := (mSeq (mAsg (mCall gTuple (mCons (mLc (mAnyI (mBin gItem (mVar 3) (mC (.int 0)))) (ngName 16) mYes (mCall (ck.f .l_pick) (mCons (mVar 1) (mCons (mVar 4) mNil))) [16]) mNil)) (nName 13))
    (mSeq (mAsg (mCall (ck.f .l_pick) (mCons (mVar 1) (mCons (mLst (mCons (mC (.int 4)) (mCons (mC (.int 4)) (mCons (mC (.int 4)) (mCons (mC (.int 1)) (mCons (mC (.int 0)) mNil)))))) mNil))) (nName 14))
    (mDrop (mBM gAppend (mVar 5) (mCons (mTup (mCons (mVar 13) (mCons (mLc (mRng (mCons (mVar 14) mNil)) (ngName 17) mYes (mCall (ck.f .l_pick) (mCons (mVar 1) (mCons (mBin gAdd (mVar 4) (mLst (mCons (mC (.str "x")) (mCons (mC (.str "t")) mNil)))) mNil))) [17]) mNil))) mNil)))))
theorem b_lwH (ck : Tabl) : lwH ck = (mFor (mRng (mCons (mCall (ck.f .l_draw) (mCons (mVar 1) (mCons (mC (.int 5)) mNil))) mNil)) (nName 6) (lwH1 ck)) := by
  unfold lwH lwH1
  rfl
theorem lwH1_ok {M : Mach} (mo : M.Ok) {k s c n kx hx : Nat} {m : Mem} {hist : List (List Str × List Str)} {as : List Nat} {x0 x2 x6 x7 x8 x9 x10 x11 x12 x13 x14 x15 x16 x17 : Option MV} {Q : Fl → Mem → Prop} {Ex : Exn → Mem → Prop} (B : Bud m s c (n + 7)) (hk : m[kx]? = some (.lst [.str "t", .str "f", .str "n"])) (H : HistAt m hx hist as) (hl : hist.length ≤ 40) (dk : kx ∉ [s, c, hx]) (dh : hx ∉ [s, c]) (da : ∀ a ∈ as, a ∉ [s, c, hx])
    (q : ∀ y13 y14 y16 y17 m' cc a, CallOk M cc → HistAt m' hx (hist ++ [cc]) (as ++ [a]) → a ∉ [s, c, hx] → m.length ≤ a → Bud m' s c n → Kp [s, c, hx] m m' → Q (.nx [x0, some (.ref s), x2, some M.v, some (.ref kx), some (.ref hx), x6, x7, x8, x9, x10, x11, x12, y13, y14, x15, y16, y17]) m') :
    MI.W (lwH1 (Tab (k + 2)) [x0, some (.ref s), x2, some M.v, some (.ref kx), some (.ref hx), x6, x7, x8, x9, x10, x11, x12, x13, x14, x15, x16, x17] m) Q Ex := by
  unfold lwH1
  have sz : ∀ n, n ≤ 3000 → n ≤ sizeLine := fun n h => szl h
  have hv : M.v = .tup [.tup (M.ps.map .str), .int M.bg, .tup (stsV M.cnt M.tr)] := rfl
  have p2 := mo.p2
  simp only [List.mem_cons, List.mem_nil_iff, or_false, not_or] at dk dh
  have hT : ([MV.str "t", .str "f", .str "n"] : List MV) = tfn.map .str := rfl
  rw [hv] at q ⊢
  rw [W_seq]
  simp
  refine lc_picks (ss := tfn) (n := n + 5) (fun _ _ => trivial) (B.less (by simp; omega)) (fun d hd m' j k' B' => ?_) (by simp; omega) (fun xs m1 e1 e2 B1 k1 => ?_)
  · simp [wipeM]
    refine (pick_ok (k := k) B' (k'.get hk (by simp; omega)) (by simp; omega) (by simp) (by simp)).mono ?_
    rintro y m2 ⟨h1, h2, h3⟩
    exact ⟨by simpa using h1, h2, h3⟩
  · have k2 : Kp [] m1 (m1 ++ [MO.lst (xs.map .str), MO.lst [.int 4, .int 4, .int 4, .int 1, .int 0]]) := Kp.app
    have g5 : (m1 ++ [MO.lst (xs.map .str), MO.lst [.int 4, .int 4, .int 4, .int 1, .int 0]])[m1.length + 1]? = some (.lst [.int 4, .int 4, .int 4, .int 1, .int 0]) := at_app (i := 1)
    have B2 := B1.any k2
    have lt1 := B1.lt
    refine ⟨sz 5 (by omega), (pick_ok (k := k) (n := n + 4) B2 g5 (by simp; omega) (by simp) (by simp)).mono ?_ (fun x m' h => h.elim)⟩
    rintro d m3 ⟨hd, B3, k3⟩
    have hd : ∃ v : Nat, v ≤ 4 ∧ d = .int ((v : Nat) : Int) := by
      simp only [List.mem_cons, List.mem_nil_iff, or_false] at hd
      rcases hd with rfl | rfl | rfl | rfl | rfl
      · exact ⟨4, by omega, rfl⟩
      · exact ⟨4, by omega, rfl⟩
      · exact ⟨4, by omega, rfl⟩
      · exact ⟨1, by omega, rfl⟩
      · exact ⟨0, by omega, rfl⟩
    obtain ⟨v, hv4, rfl⟩ := hd
    have k4 : Kp [s, c] m m3 := (k1.trans (kps k2)).trans k3
    have hk3 := k4.get hk (by simp; omega)
    have hH3 := k4.get H.ls (by simp; omega)
    simp [hH3]
    refine ⟨by omega, ?_⟩
    refine lc_picks (ss := ["t", "f", "n", "x", "t"]) (n := n) (fun _ _ => trivial) (B3.less (by rw [rng_len]; omega)) (fun d hd m' j k' B' => ?_) (by rw [rng_len]; omega) (fun ys m4 e3 e4 B4 k5 => ?_)
    · have hk' := k'.get hk3 (by simp; omega)
      have lk := (List.getElem?_eq_some_iff.mp hk').1
      simp [wipeM, sz 2 (by omega)]
      rw [W_add_l ((Kp.app (S := [])).get hk' (by simp)) (show (m' ++ [MO.lst [MV.str "x", MV.str "t"]])[m'.length]? = some (.lst [.str "x", .str "t"]) by simp)]
      refine ⟨sz 5 (by omega), ?_⟩
      have k6 : Kp [] m' ((m' ++ [MO.lst [MV.str "x", MV.str "t"]]) ++ [.lst ([.str "t", .str "f", .str "n"] ++ [.str "x", .str "t"])]) := Kp.app.trans Kp.app
      have lt2 := B'.lt
      refine (pick_ok (k := k) (B'.any k6) (show ((m' ++ [MO.lst [MV.str "x", MV.str "t"]]) ++ [.lst ([.str "t", .str "f", .str "n"] ++ [.str "x", .str "t"])])[(m' ++ [MO.lst [MV.str "x", MV.str "t"]]).length]? = some (.lst ([.str "t", .str "f", .str "n"] ++ [.str "x", .str "t"])) by simp) (by simp; omega) (by simp) (by simp)).mono ?_
      rintro y m2 ⟨h1, h2, h3⟩
      exact ⟨by simpa using h1, h2, (kps k6).trans h3⟩
    · have k7 : Kp [s, c] m (m4 ++ [MO.lst (ys.map .str)]) := (k4.trans k5).trans (kps Kp.app)
      have hH4 := k7.get H.ls (by simp; omega)
      have zl : (List.zipWith callV hist as).length = hist.length := by simp [H.len]
      have l4 : m.length ≤ m4.length := (k4.trans k5).1
      have lt0 := B.lt
      have lh := (List.getElem?_eq_some_iff.mp H.ls).1
      have ga : (m4 ++ [MO.lst (ys.map .str)])[m4.length]? = some (.lst (ys.map .str)) := by simp
      rw [hH4]
      refine ⟨sz 2 (by omega), Nat.lt_of_lt_of_le (by rw [zl]; omega) (sz 3000 (by omega)), ?_⟩
      refine q _ _ _ _ _ (xs, ys) m4.length ⟨by simpa using e1, e2, fun a ha => ?_, by rw [e3, rng_len]; omega⟩ ⟨?_, by simp [H.len], fun i c' a' z1 z2 => ?_⟩ (by simp; omega) l4 ((B4.any Kp.app).kp (S := [hx]) (Kp.wr (by simp)) (by simp; omega) (by simp; omega)) ((k7.mono (by simp)).trans (Kp.wr (by simp)))
      · have := e4 a ha
        simp only [List.mem_cons, List.mem_nil_iff, or_false] at this ⊢
        rcases this with h | h | h | h | h <;> simp [h]
      · rw [List.zipWith_append (by rw [H.len])]
        exact List.getElem?_set_self (List.getElem?_eq_some_iff.mp hH4).1
      · by_cases hi : i < hist.length
        · rw [List.getElem?_append_left hi] at z1
          rw [List.getElem?_append_left (by rw [H.len]; exact hi)] at z2
          have hn := da a' (List.mem_of_getElem? z2)
          simp only [List.mem_cons, List.mem_nil_iff, or_false, not_or] at hn
          rw [List.getElem?_set_ne (by omega)]
          exact k7.get (H.at_ i c' a' z1 z2) (by simp; omega)
        · rw [List.getElem?_append_right (by omega)] at z1
          rw [List.getElem?_append_right (by rw [H.len]; omega), H.len] at z2
          cases hj : i - hist.length with
          | zero =>
            rw [hj] at z1 z2
            cases z1
            cases z2
            rw [List.getElem?_set_ne (by omega)]
            exact ga
          | succ j => rw [hj] at z1; cases z1
end K51
set_option maxHeartbeats 4000000
namespace K51
open PySem L2 MI
theorem lwH_ok {M : Mach} (mo : M.Ok) {k s c n kx hx : Nat} {m : Mem} {x0 x2 x6 x7 x8 x9 x10 x11 x12 x13 x14 x15 x16 x17 : Option MV} {Q : Fl → Mem → Prop} {Ex : Exn → Mem → Prop} (B : Bud m s c (n + 29)) (hk : m[kx]? = some (.lst [.str "t", .str "f", .str "n"])) (hh : m[hx]? = some (.lst [])) (dk : kx ∉ [s, c, hx]) (dh : hx ∉ [s, c])
    (q : ∀ y6 y13 y14 y16 y17 m' hist as, hist.length ≤ 4 → (∀ c ∈ hist, CallOk M c) → HistAt m' hx hist as → (∀ a ∈ as, a ∉ [s, c, hx]) → Bud m' s c n → Kp [s, c, hx] m m' → Q (.nx [x0, some (.ref s), x2, some M.v, some (.ref kx), some (.ref hx), y6, x7, x8, x9, x10, x11, x12, y13, y14, x15, y16, y17]) m') :
    MI.W (lwH (Tab (k + 2)) [x0, some (.ref s), x2, some M.v, some (.ref kx), some (.ref hx), x6, x7, x8, x9, x10, x11, x12, x13, x14, x15, x16, x17] m) Q Ex := by
  rw [b_lwH]
  simp only [List.mem_cons, List.mem_nil_iff, or_false, not_or] at dk dh
  simp
  refine (dr_ok (k := k + 1) (n := n + 28) B (by omega) (by omega)).mono ?_ (fun x m' h => h.elim)
  rintro d m1 ⟨v, rfl, v0, v1, B1, k1⟩
  obtain ⟨w, rfl⟩ : ∃ w : Nat, v = w := ⟨v.toNat, by omega⟩
  simp
  refine ⟨by omega, ?_⟩
  refine W_range (fun j ρ m' => ∃ y6 y13 y14 y16 y17 hist as, ρ = [x0, some (.ref s), x2, some M.v, some (.ref kx), some (.ref hx), y6, x7, x8, x9, x10, x11, x12, y13, y14, x15, y16, y17] ∧ hist.length = j ∧ (∀ c ∈ hist, CallOk M c) ∧ HistAt m' hx hist as ∧ (∀ a ∈ as, a ∉ [s, c, hx]) ∧ Bud m' s c (n + 7 * (4 - j)) ∧ Kp [s, c, hx] m m') ?_ ?_ ?_
  · exact ⟨_, _, _, _, _, [], [], rfl, rfl, by simp, ⟨k1.get hh (by simp; omega), rfl, fun i c a h => by simp at h⟩, by simp, B1, k1.mono (by simp)⟩
  · rintro j ρ m' hj ⟨y6, y13, y14, y16, y17, hist, as, rfl, e1, e2, e3, e4, e5, e6⟩
    refine lwH1_ok (k := k) (n := n + 7 * (4 - (j + 1))) mo (e5.less (by omega)) (e6.get hk (by simp; omega)) e3 (by omega) (by simp; omega) (by simp; omega) e4 fun z13 z14 z16 z17 m2 cc a f1 f2 f3 f4 f5 f6 => ?_
    refine ⟨_, _, _, _, _, hist ++ [cc], as ++ [a], rfl, by simp [e1], ?_, f2, ?_, f5, e6.trans f6⟩
    · intro c' hc
      rcases List.mem_append.mp hc with hc | hc
      · exact e2 c' hc
      · rw [List.mem_singleton] at hc; rw [hc]; exact f1
    · intro a' ha
      rcases List.mem_append.mp ha with ha | ha
      · exact e4 a' ha
      · rw [List.mem_singleton] at ha; rw [ha]; exact f3
  · rintro ρ m' ⟨y6, y13, y14, y16, y17, hist, as, rfl, e1, e2, e3, e4, e5, e6⟩
    exact q _ _ _ _ _ m' hist as (by omega) e2 e3 e4 (e5.less (by omega)) e6
end K51
set_option maxHeartbeats 4000000
namespace K51
open PySem L2 MI
structure Sm (f p : Nat) (d : MV) : Prop where
  pu : MI.pu d = true
  fl : MI.fl d ≤ f
  dp : MI.dp d ≤ p
theorem Sm.mono {f f' p p' : Nat} {d : MV} (h : Sm f p d) (h1 : f ≤ f') (h2 : p ≤ p') : Sm f' p' d := ⟨h.pu, by have := h.fl; omega, by have := h.dp; omega⟩
theorem sms {f p : Nat} : ∀ {l : List MV}, (∀ d ∈ l, Sm f p d) → pus l = true ∧ fls l ≤ l.length + f ∧ dps l ≤ p
  | [], _ => ⟨rfl, Nat.zero_le _, Nat.zero_le _⟩
  | d :: l, h => by
    obtain ⟨h1, h2, h3⟩ := sms fun x hx => h x (List.mem_cons_of_mem _ hx)
    have hd := h d List.mem_cons_self
    refine ⟨?_, ?_, ?_⟩
    · show (MI.pu d && pus l) = true
      rw [hd.pu, h1]; rfl
    · show 1 + max (MI.fl d) (fls l) ≤ l.length + 1 + f
      have := hd.fl
      omega
    · show max (MI.dp d) (dps l) ≤ p
      have := hd.dp
      omega
theorem sm_tup {f p : Nat} {l : List MV} (h : ∀ d ∈ l, Sm f p d) : Sm (1 + l.length + f) (p + 1) (.tup l) := by
  obtain ⟨h1, h2, h3⟩ := sms h
  refine ⟨h1, ?_, ?_⟩
  · show 1 + fls l ≤ _
    omega
  · show dps l + 1 ≤ _
    omega
theorem sm_str {s : Str} (h : PyData.strOk s = true) : Sm 0 0 (.str s) := ⟨h, Nat.le_refl _, Nat.le_refl _⟩
theorem sm_int {i : Int} : Sm 0 0 (.int i) := ⟨rfl, Nat.le_refl _, Nat.le_refl _⟩
theorem sm_two {f p : Nat} {a b : MV} (ha : Sm f p a) (hb : Sm f p b) : Sm (3 + f) (p + 1) (.tup [a, b]) :=
  sm_tup (l := [a, b]) fun d hd => by
    simp only [List.mem_cons, List.mem_nil_iff, or_false] at hd
    rcases hd with rfl | rfl
    · exact ha
    · exact hb
theorem sm_one {f p : Nat} {a : MV} (ha : Sm f p a) : Sm (2 + f) (p + 1) (.tup [a]) :=
  sm_tup (l := [a]) fun d hd => by
    simp only [List.mem_cons, List.mem_nil_iff, or_false] at hd
    subst hd
    exact ha
theorem sm_srcN {num : Nat} {p : Str} (h : PyData.strOk p = true) : Sm 6 2 (srcN num p) :=
  sm_two (sm_int.mono (by omega) (by omega)) (sm_two (sm_str (by decide +kernel)) (sm_str h))
theorem sm_srcE {num i : Nat} : Sm 6 2 (srcE num i) :=
  sm_two (sm_int.mono (by omega) (by omega)) (sm_two (sm_str (by decide +kernel)) sm_int)
theorem sm_val {p : MV × Str} (h : Sm 6 2 p.1) : Sm 9 3 (valOf p) := by
  unfold valOf
  split
  · exact (sm_one (sm_str (by decide +kernel))).mono (by omega) (by omega)
  · exact sm_two ((sm_str (by decide +kernel)).mono (by omega) (by omega)) h
theorem sm_const {s : Str} (h : s ∈ consts) : Sm 9 3 (.tup [.str s]) := by
  have : ∀ s ∈ consts, PyData.strOk s = true := by decide +kernel
  exact (sm_one (sm_str (this s h))).mono (by omega) (by omega)
/-- all sources are small -/
structure Ctx.Sm (C : Ctx) : Prop where
  ps : ∀ p ∈ C.ps, PyData.strOk p = true
  hd : ∀ p ∈ C.held, K51.Sm 6 2 p.1
theorem Ctx.Sm.ob {C : Ctx} (S : C.Sm) {n : Nat} {v : MV} (h : At C n v) : K51.Sm 6 2 (C.ob v).1 := by
  cases h with
  | pl h => rw [ob_pl]; exact S.hd _ (getD_mem h)
  | pa h => rw [ob_pa]; exact sm_srcN (S.ps _ (getD_mem h))
  | ev h h2 => rw [ob_ev]; exact sm_srcE
theorem Ctx.Sm.val {C : Ctx} (S : C.Sm) {n : Nat} {v : MV} (h : Opv C n v) : K51.Sm 9 3 (C.val v) := by
  rcases h with ⟨s, hs, rfl⟩ | h
  · exact sm_const hs
  · rw [(val_at h).1]
    exact sm_val (S.ob h)
theorem sm_ev {C : Ctx} (S : C.Sm) {n : Nat} {w : Str} {ops : List MV} (hw : PyData.strOk w = true) (hl : ops.length ≤ 3) (h : ∀ o ∈ ops, Opv C n o) : Sm 16 5 (evV C w ops) := by
  have := sm_tup (f := 9) (p := 3) (l := ops.map C.val) fun d hd => by
    obtain ⟨o, ho, rfl⟩ := List.mem_map.mp hd
    exact S.val (h o ho)
  rw [List.length_map] at this
  exact (sm_two ((sm_str hw).mono (Nat.zero_le _) (Nat.zero_le _)) (this.mono (f' := 13) (p' := 4) (by omega) (by omega))).mono (by omega) (by omega)
theorem runs_sm {C : Ctx} (S : C.Sm) (hw : ∀ w n, WordN w n → PyData.strOk w = true) {cnt : List Nat} {n : Nat} {E E' : List MV} {t : MV} {r : Option MV} (h : Runs C cnt n E t E' r) : ∀ {pl many f : Nat} {evs : List Bool} {cs : List Nat}, Tr pl many cs f evs t → (∀ d ∈ E, Sm 16 5 d) → ∀ d ∈ E', Sm 16 5 d := by
  induction h with
  | fin _ _ => exact fun _ h => h
  | @test n E E' o x y z r _ _ _ ih =>
    intro pl many f evs cs ht hE
    have : ∃ f', Tr pl many cs f' evs (pick3 (C.ob o).2 x y z) := by
      cases ht with
      | fin h =>
        obtain ⟨_, _, _, e, _⟩ := h.ex
        cases e
      | test _ hx hy hz =>
        unfold pick3
        split
        · exact ⟨_, hx⟩
        · split
          · exact ⟨_, hy⟩
          · exact ⟨_, hz⟩
    obtain ⟨f', h'⟩ := this
    exact ih h' hE
  | @want E w ops x y _ hl ho =>
    intro pl many f evs cs ht hE d hd
    rcases List.mem_append.mp hd with hd | hd
    · exact hE d hd
    · rw [List.mem_singleton] at hd
      subst hd
      cases ht with
      | fin h =>
        obtain ⟨_, _, _, e, _⟩ := h.ex
        cases e
      | ask _ h1 _ _ _ => exact sm_ev S (hw _ _ h1) hl ho
  | @go n E E' w ops x y r _ hl ho _ ih =>
    intro pl many f evs cs ht hE
    cases ht with
    | fin h =>
      obtain ⟨_, _, _, e, _⟩ := h.ex
      cases e
    | ask _ h1 _ hx hy =>
      have hE2 : ∀ d ∈ E ++ [evV C w ops], Sm 16 5 d := fun d hd => by
        rcases List.mem_append.mp hd with hd | hd
        · exact hE d hd
        · rw [List.mem_singleton] at hd
          subst hd
          exact sm_ev S (hw _ _ h1) hl ho
      by_cases e : C.ans.getD E.length ("n" : Str) = ("x" : Str)
      · rw [if_pos e] at ih
        exact ih hy hE2
      · rw [if_neg e] at ih
        exact ih hx hE2
theorem nameB_ok {w : Str} (h : nameB (.str w) = true) : PyData.strOk w = true := by
  have h : IsName w := of_decide_eq_true h
  unfold PyData.strOk
  rw [Array.all_eq_true]
  intro i hi
  have := h.2.2.1 w.cps[i] (by simp)
  simp
  omega
theorem wordN_ok {w : Str} {n : Nat} (h : WordN w n) : PyData.strOk w = true := by
  rcases h with ⟨h, _⟩ | ⟨_, h, _⟩
  · exact nameB_ok h
  · have : ∀ w ∈ signs, PyData.strOk w = true := by decide +kernel
    exact this w h
theorem sm_out {C : Ctx} (S : C.Sm) {n : Nat} (hn : n ≤ C.ans.length) {o : MV} (h : OutIs C.held.length C.ps.length (evsOf C n) o) : Sm 16 5 (outV C o) := by
  rcases h with ⟨v, rfl, h⟩ | ⟨j, rfl, _⟩
  · exact (sm_two ((sm_str (by decide +kernel)).mono (Nat.zero_le _) (Nat.zero_le _)) (S.val (opv_of hn h))).mono (by omega) (by omega)
  · exact (sm_two (sm_str (by decide +kernel)) sm_int).mono (by omega) (by omega)
theorem play_sm {M : Mach} (mo : M.Ok) {num st : Nat} {held : List (MV × Str)} {hist : List (List Str × List Str)} {told : List (List MV × MV)} (h : Play M num st held hist told) (hp : ∀ p ∈ M.ps, PyData.strOk p = true) : (∀ p ∈ held, Sm 6 2 p.1) → ∀ p ∈ told, (∀ d ∈ p.1, Sm 16 5 d) ∧ Sm 16 5 p.2 := by
  have tr : ∀ {st : Nat} {t : MV}, M.tr[st]? = some t → ∃ c f, Tr c M.ps.length M.cnt f [] t := fun {st t} ht => by
    have hl := (List.getElem?_eq_some_iff.mp ht).1
    rw [mo.len] at hl
    obtain ⟨f, _, h⟩ := mo.tree st _ t (List.getElem?_eq_getElem hl) ht
    exact ⟨_, f, h⟩
  induction h with
  | nil => exact fun _ p hp => absurd hp (by simp)
  | @want num st n held c rest t E co ht hn hr =>
    intro hh p hp'
    rw [List.mem_singleton] at hp'
    subst hp'
    obtain ⟨c0, f, h⟩ := tr ht
    have S : (ctxAt M num held c).Sm := ⟨hp, hh⟩
    exact ⟨runs_sm S (fun _ _ => wordN_ok) hr h (by simp), (sm_one (sm_str (by decide +kernel))).mono (by omega) (by omega)⟩
  | @go num st n held c rest t E o st' hold told co ht hn hr hE hd hpl ih =>
    intro hh p hp'
    obtain ⟨c0, f, h⟩ := tr ht
    have S : (ctxAt M num held c).Sm := ⟨hp, hh⟩
    obtain ⟨ov, st2, hold2, e, h1, h2, h3, h4⟩ := hd.ex
    cases e
    rcases List.mem_cons.mp hp' with rfl | hp'
    · exact ⟨runs_sm S (fun _ _ => wordN_ok) hr h (by simp), sm_out S hE h4⟩
    · refine ih (fun p hp => ?_) p hp'
      obtain ⟨v, hv, rfl⟩ := List.mem_map.mp hp
      exact S.ob (at_of hE (h3 v hv))
end K51
set_option maxHeartbeats 4000000
namespace K51
open PySem L2 MI
theorem dats_of {m : Mem} {F : MV → PyData} {k : Nat} : ∀ {L : List MV}, (∀ d ∈ L, ∀ n, k ≤ n → dat m n d = some (F d)) → ∀ n, k + L.length ≤ n → dats m n L = some (L.map F)
  | [], _, n, _ => by unfold dats; rfl
  | d :: L, h, n, hn => by
    obtain ⟨n, rfl⟩ : ∃ j, n = j + 1 := ⟨n - 1, by simp at hn; omega⟩
    have h1 := h d List.mem_cons_self n (by simp at hn; omega)
    have h2 := dats_of (fun x hx => h x (List.mem_cons_of_mem _ hx)) n (by simp at hn; omega)
    unfold dats
    rw [h1, h2]
    rfl
theorem dat_pair {m : Mem} {a b : MV} {A B : PyData} {k n : Nat} (ha : ∀ n, k ≤ n → dat m n a = some A) (hb : ∀ n, k ≤ n → dat m n b = some B) (hn : k + 3 ≤ n) : dat m n (.tup [a, b]) = some (.tuple [A, B]) := by
  obtain ⟨n, rfl⟩ : ∃ j, n = j + 3 := ⟨n - 3, by omega⟩
  have e0 : dats m n [] = some [] := by unfold dats; rfl
  have e1 : dats m (n + 1) [b] = some [B] := by
    unfold dats
    rw [hb n (by omega), e0]
  have e2 : dats m (n + 2) [a, b] = some [A, B] := by
    show dats m (n + 1 + 1) _ = _
    unfold dats
    rw [ha (n + 1) (by omega), e1]
  show dat m (n + 2 + 1) _ = _
  unfold dat
  rw [e2]
  rfl
theorem dat_pus {m : Mem} {l : Nat} {E : List MV} {k n : Nat} (h : m[l]? = some (.lst E)) (hE : pus E = true) (hf : fls E ≤ k) (hn : k + 1 ≤ n) : dat m n (.ref l) = some (.list (pds E)) := by
  obtain ⟨n, rfl⟩ : ∃ j, n = j + 1 := ⟨n - 1, by omega⟩
  unfold dat
  rw [show lstOf m (.ref l) = some E by simp [h]]
  dsimp only
  rw [dats_pu m E n hE (by omega)]
  rfl
/-- what is told, as data -/
def tdD (p : List MV × MV) : PyData := .tuple [.list (pds p.1), pd p.2]
def lsAt (m : Mem) (l : Nat) : List MV := match m[l]? with
  | some (.lst E) => E
  | _ => []
def datI (m : Mem) : MV → PyData
  | .tup [.ref l, o] => .tuple [.list (pds (lsAt m l)), pd o]
  | .tup [.tup ks, .ref a] => .tuple [.tuple (pds ks), .list (pds (lsAt m a))]
  | _ => .none
theorem lays_all {α : Type} {F : α → PyData} : ∀ {l : List α}, (∀ x ∈ l, (F x).canLay0 = true) → PyData.canLayAll0 (l.map F) = true
  | [], _ => rfl
  | x :: l, h => by
    simp [PyData.canLayAll0, h x List.mem_cons_self, lays_all fun y hy => h y (List.mem_cons_of_mem _ hy)]
theorem dep_all {α : Type} {F : α → PyData} {k : Nat} : ∀ {l : List α}, (∀ x ∈ l, (F x).depth ≤ k) → PyData.depthAll (l.map F) ≤ k
  | [], _ => by simp [PyData.depthAll]
  | x :: l, h => by
    have h1 := h x List.mem_cons_self
    have h2 := dep_all fun y hy => h y (List.mem_cons_of_mem _ hy)
    simp [PyData.depthAll]
    omega
theorem eqv_all {α : Type} {F : α → PyData} : ∀ {l : List α}, (∀ x ∈ l, (F x).eqv (F x) = true) → PyData.eqvAll (l.map F) (l.map F) = true
  | [], _ => by simp [PyData.eqvAll]
  | x :: l, h => by
    simp [PyData.eqvAll, h x List.mem_cons_self, eqv_all fun y hy => h y (List.mem_cons_of_mem _ hy)]
theorem eqv_self {d : MV} (h : pu d = true) : PyData.eqv (pd d) (pd d) = true := (eqv_pu d d h h).mpr rfl
theorem eqvs_self {l : List MV} (h : pus l = true) : PyData.eqvAll (pds l) (pds l) = true := (eqvs_pu l l h h).mpr rfl
structure DatOk (D : PyData) : Prop where
  lay : D.canLay0 = true
  dep : D.depth ≤ 40
  eqv : D.eqv D = true
theorem W_eqX {m : Mem} {a b : Nat} {L LB : List MV} {F G : MV → PyData} {neg : Bool} {Q : MV → Mem → Prop} {Ex : Exn → Mem → Prop} (ha : m[a]? = some (.lst L)) (hb : m[b]? = some (.lst LB)) (fa : ∀ d ∈ L, ∀ n, 500 ≤ n → dat m n d = some (F d)) (fb : ∀ d ∈ LB, ∀ n, 500 ≤ n → dat m n d = some (G d)) (e : L.map F = LB.map G) (ok : ∀ d ∈ L, DatOk (F d)) (l1 : L.length ≤ 500)
    (q : Q (.bl (!neg)) m) : MI.W (gEqA neg (.ref a) (.ref b) m) Q Ex := by with_unfolding_all
  have l2 : LB.length = L.length := by with_unfolding_all
    have := congrArg List.length e
    simpa using this.symm
  have d1 : ∀ {c : Nat} {K : List MV} {H : MV → PyData}, m[c]? = some (.lst K) → (∀ d ∈ K, ∀ n, 500 ≤ n → dat m n d = some (H d)) → K.length ≤ 500 → dat m fuel (.ref c) = some (.list (K.map H)) := fun {c K H} hc hk hl => by with_unfolding_all
    show dat m (1999 + 1) (.ref c) = _
    unfold dat
    rw [(show lstOf m (.ref c) = some K by simp [hc])]
    dsimp only
    rw [dats_of hk 1999 (by omega)]
    rfl
  unfold gEqA
  show MI.W (gEq neg (.ref a) (.ref b) m) Q Ex
  unfold gEq
  rw [d1 ha fa l1, d1 hb fb (by omega), e]
  dsimp only
  have sh : SeqAt.shaped (.list (L.map F)) = true := by with_unfolding_all
    have h1 := lays_all fun d hd => (ok d hd).lay
    have h2 := dep_all fun d hd => (ok d hd).dep
    unfold SeqAt.shaped
    simp only [PyData.canLay0, PyData.depth, h1]
    simp
    omega
  have ev : PyData.eqv (.list (L.map F)) (.list (L.map F)) = true := by with_unfolding_all
    simp only [PyData.eqv]
    exact eqv_all fun d hd => (ok d hd).eqv
  rw [← e, if_pos ⟨sh, sh⟩, ev]
  show Q (.bl (if neg = true then !true else true)) m
  cases neg <;> exact q
theorem tup2_ok {a b : PyData} (ha : DatOk a) (hb : DatOk b) (h1 : a.depth ≤ 20) (h2 : b.depth ≤ 20) : DatOk (.tuple [a, b]) := by
  refine ⟨?_, ?_, ?_⟩
  · simp [PyData.canLay0, PyData.canLayAll0, ha.lay, hb.lay]
  · simp [PyData.depth, PyData.depthAll]
    omega
  · simp [PyData.eqv, PyData.eqvAll, ha.eqv, hb.eqv]
theorem pd_ok {d : MV} (h : pu d = true) (h2 : dp d ≤ 20) : DatOk (pd d) := ⟨lay_pu d h, by rw [depth_pu]; omega, eqv_self h⟩
theorem pdl_ok {l : List MV} (h : pus l = true) (h2 : dps l ≤ 19) : DatOk (.list (pds l)) ∧ (PyData.list (pds l)).depth ≤ 20 := by
  have e : (PyData.list (pds l)).depth = dps l + 1 := by simp [PyData.depth, depths_pu]
  refine ⟨⟨?_, by omega, ?_⟩, by omega⟩
  · simp [PyData.canLay0, lays_pu l h]
  · simp only [PyData.eqv]
    exact eqvs_self h
theorem pdt_ok {l : List MV} (h : pus l = true) (h2 : dps l ≤ 19) : DatOk (.tuple (pds l)) ∧ (PyData.tuple (pds l)).depth ≤ 20 := by
  have e : (PyData.tuple (pds l)).depth = dps l + 1 := by simp [PyData.depth, depths_pu]
  refine ⟨⟨?_, by omega, ?_⟩, by omega⟩
  · simp [PyData.canLay0, lays_pu l h]
  · simp only [PyData.eqv]
    exact eqvs_self h
/-- two lists that tell the same are equal -/
theorem W_eqTold {m : Mem} {b1 b2 aT bT : Nat} {L LB : List MV} {told : List (List MV × MV)} {les lesB : List Nat} {neg : Bool} {Q : MV → Mem → Prop} {Ex : Exn → Mem → Prop} (A : ToldAt m b1 aT L told les) (B : ToldAt m b2 bT LB told lesB) (hT : m[aT]? = some (.lst L)) (hB : m[bT]? = some (.lst LB)) (sm : ∀ p ∈ told, (∀ d ∈ p.1, Sm 16 5 d) ∧ Sm 16 5 p.2) (le : ∀ p ∈ told, p.1.length ≤ 100) (tl : told.length ≤ 400)
    (q : Q (.bl (!neg)) m) : MI.W (gEqA neg (.ref aT) (.ref bT) m) Q Ex := by
  have key : ∀ {b cT : Nat} {K : List MV} {ls : List Nat}, ToldAt m b cT K told ls → (∀ d ∈ K, ∀ n, 500 ≤ n → dat m n d = some (datI m d)) ∧ K.map (datI m) = told.map tdD ∧ ∀ d ∈ K, DatOk (datI m d) := by
    intro b cT K ls T
    have it : ∀ d ∈ K, ∃ p ∈ told, (∀ n, 500 ≤ n → dat m n d = some (tdD p)) ∧ datI m d = tdD p ∧ DatOk (tdD p) := by
      intro d hd
      obtain ⟨i, hi⟩ := List.mem_iff_getElem?.mp hd
      obtain ⟨E, o, l, h1, h2, rfl, h3⟩ := told_item T hi
      have hp := List.mem_of_getElem? h1
      obtain ⟨s1, s2⟩ := sm _ hp
      obtain ⟨p1, p2, p3⟩ := sms s1
      have := le _ hp
      have p1 : pus E = true := p1
      have p2 : fls E ≤ E.length + 16 := p2
      have p3 : dps E ≤ 5 := p3
      have this : E.length ≤ 100 := this
      refine ⟨(E, o), hp, fun n hn => ?_, ?_, ?_⟩
      · exact dat_pair (k := 300) (fun n hn => dat_pus (k := 200) h3 p1 (by omega) (by omega)) (fun n hn => dat_pu m o n s2.pu (by have := s2.fl; simp only at this; omega)) (by omega)
      · simp [datI, lsAt, h3, tdD]
      · have := s2.dp
        simp only at this
        exact tup2_ok (pdl_ok p1 (by omega)).1 (pd_ok s2.pu (by simp only; omega)) (pdl_ok p1 (by omega)).2 (by rw [depth_pu]; simp only; omega)
    refine ⟨fun d hd n hn => ?_, ?_, fun d hd => ?_⟩
    · obtain ⟨p, _, h1, h2, _⟩ := it d hd
      rw [h2]; exact h1 n hn
    · refine List.ext_getElem? fun i => ?_
      rw [List.getElem?_map, List.getElem?_map]
      cases h : K[i]? with
      | none =>
        have : told[i]? = none := by
          rw [List.getElem?_eq_none_iff] at h ⊢
          rw [← T.l1]; exact h
        rw [this]
        rfl
      | some d =>
        obtain ⟨E, o, l, h1, h2, rfl, h3⟩ := told_item T h
        rw [h1]
        simp [datI, lsAt, h3, tdD]
    · obtain ⟨p, _, _, h2, h3⟩ := it d hd
      rw [h2]; exact h3
  obtain ⟨a1, a2, a3⟩ := key A
  obtain ⟨b1, b2, b3⟩ := key B
  exact W_eqX hT hB a1 b1 (a2.trans b2.symm) a3 (by rw [A.l1]; omega) q
end K51
set_option maxHeartbeats 4000000
namespace K51
open PySem L2 MI
theorem strs_ok {l : List Str} (h : ∀ s ∈ l, PyData.strOk s = true) : ∀ d ∈ l.map MV.str, Sm 0 0 d := fun d hd => by
  obtain ⟨s, hs, rfl⟩ := List.mem_map.mp hd
  exact sm_str (h s hs)
theorem tfn_ok {l : List Str} (h : ∀ s ∈ l, s ∈ tfn) : ∀ s ∈ l, PyData.strOk s = true := fun s hs => by
  have : ∀ s ∈ tfn, PyData.strOk s = true := by decide +kernel
  exact this s (h s hs)
theorem tfnx_ok {l : List Str} (h : ∀ s ∈ l, s ∈ tfnx) : ∀ s ∈ l, PyData.strOk s = true := fun s hs => by
  have : ∀ s ∈ tfnx, PyData.strOk s = true := by decide +kernel
  exact this s (h s hs)
def callD (c : List Str × List Str) : PyData := .tuple [.tuple (pds (c.1.map .str)), .list (pds (c.2.map .str))]
/-- two histories that are the same are equal -/
theorem W_eqHist {M : Mach} {m : Mem} {h1 h2 : Nat} {hist : List (List Str × List Str)} {as as2 : List Nat} {neg : Bool} {Q : MV → Mem → Prop} {Ex : Exn → Mem → Prop} (mo : M.Ok) (A : HistAt m h1 hist as) (B : HistAt m h2 hist as2) (hc : ∀ c ∈ hist, CallOk M c) (hl : hist.length ≤ 400)
    (q : Q (.bl (!neg)) m) : MI.W (gEqA neg (.ref h1) (.ref h2) m) Q Ex := by
  have key : ∀ {h : Nat} {as : List Nat}, HistAt m h hist as → (∀ d ∈ List.zipWith callV hist as, ∀ n, 500 ≤ n → dat m n d = some (datI m d)) ∧ (List.zipWith callV hist as).map (datI m) = hist.map callD ∧ ∀ d ∈ List.zipWith callV hist as, DatOk (datI m d) := by
    intro h as T
    have di : ∀ (c : List Str × List Str) (a : Nat), m[a]? = some (.lst (c.2.map .str)) → datI m (callV c a) = callD c := fun c a h => by
      simp [callV, datI, lsAt, h, callD]
    have it : ∀ d ∈ List.zipWith callV hist as, ∃ c ∈ hist, (∀ n, 500 ≤ n → dat m n d = some (callD c)) ∧ datI m d = callD c ∧ DatOk (callD c) := by
      intro d hd
      obtain ⟨i, c, a, h1, h2, rfl⟩ := zw_mem hd
      have hm := List.mem_of_getElem? h1
      have ha := T.at_ i c a h1 h2
      have co := hc c hm
      obtain ⟨p1, p2, p3⟩ := sms (strs_ok (tfn_ok co.kd))
      obtain ⟨r1, r2, r3⟩ := sms (strs_ok (tfnx_ok co.an))
      have l1 := co.kl
      have l2 := co.al
      have l3 := mo.p2
      simp only [List.length_map] at p2 r2
      refine ⟨c, hm, fun n hn => ?_, di c a ha, ?_⟩
      · exact dat_pair (k := 300) (A := .tuple (pds (c.1.map .str))) (fun n hn => dat_pu m (.tup (c.1.map .str)) n p1 (by show 1 + fls (c.1.map .str) ≤ n; omega)) (fun n hn => dat_pus (k := 200) ha r1 (by omega) (by omega)) (by omega)
      · exact tup2_ok (pdt_ok p1 (by omega)).1 (pdl_ok r1 (by omega)).1 (pdt_ok p1 (by omega)).2 (pdl_ok r1 (by omega)).2
    refine ⟨fun d hd n hn => ?_, ?_, fun d hd => ?_⟩
    · obtain ⟨c, _, h1, h2, _⟩ := it d hd
      rw [h2]; exact h1 n hn
    · refine List.ext_getElem? fun i => ?_
      rw [List.getElem?_map, List.getElem?_map, List.getElem?_zipWith]
      cases h1 : hist[i]? with
      | none => rfl
      | some c =>
        have hi : i < as.length := by rw [T.len]; exact (List.getElem?_eq_some_iff.mp h1).1
        have h2 : as[i]? = some as[i] := List.getElem?_eq_getElem hi
        rw [h2]
        simp [di c _ (T.at_ i c _ h1 h2)]
    · obtain ⟨c, _, _, h2, h3⟩ := it d hd
      rw [h2]; exact h3
  obtain ⟨a1, a2, a3⟩ := key A
  obtain ⟨b1, b2, b3⟩ := key B
  have zl : (List.zipWith callV hist as).length = hist.length := by simp [A.len]
  exact W_eqX A.ls B.ls a1 b1 (a2.trans b2.symm) a3 (by omega) q
structure CpI (m : Mem) (hist : List (List Str × List Str)) (as : List Nat) (r acc : List MV) (m' : Mem) : Prop where
  ex : ∃ (j : Nat) (as2 : List Nat), j ≤ hist.length ∧ r = (List.zipWith callV hist as).drop j ∧ acc = List.zipWith callV (hist.take j) as2 ∧ as2.length = j ∧ (∀ (i : Nat) c a, hist[i]? = some c → as2[i]? = some a → m'[a]? = some (.lst (c.2.map .str))) ∧ Kp [] m m'
/-- copies of the calls, with lists of their own -/
theorem lc_cp {M : Mach} (mo : M.Ok) {m : Mem} {hx : Nat} {hist : List (List Str × List Str)} {as : List Nat} {e : ME} {ρ : MI.Env} {chk : Mem → Prop} {Q : List MV → Mem → Prop} {Ex : Exn → Mem → Prop} (ck : ∀ m', Kp [] m m' → chk m') (H : HistAt m hx hist as) (hl : hist.length ≤ 400) (hc : ∀ c ∈ hist, CallOk M c)
    (he : ∀ c a m', m'[a]? = some (.lst (c.2.map .str)) → ∀ P : MV → Mem → Prop, P (callV c m'.length) (m' ++ [.lst (c.2.map .str)]) → MI.W (e (ρ.set 15 (some (callV c a))) m') P E0)
    (q : ∀ as2 m', as2.length = hist.length → (∀ (i : Nat) c a, hist[i]? = some c → as2[i]? = some a → m'[a]? = some (.lst (c.2.map .str))) → Kp [] m m' → Q (List.zipWith callV hist as2) m') :
    MI.W (lcM chk (ngName 15) mYes e ρ (List.zipWith callV hist as) [] m) Q Ex := by
  have zl : (List.zipWith callV hist as).length = hist.length := by simp [H.len]
  refine W_lcs (CpI m hist as) _ _ _ ⟨0, [], Nat.zero_le _, rfl, by simp, rfl, fun i c a _ h => absurd h (by simp), Kp.refl⟩ (fun r acc m' ⟨_, _, _, _, _, _, _, k⟩ => ck m' k) ?_ ?_
  · rintro d r acc m1 ⟨j, as2, hj, e1, e2, e3, e4, k1⟩
    refine ⟨[(15, d)], rfl, ?_⟩
    simp only [setE]
    have hj2 : j < hist.length := by
      have := congrArg List.length e1
      simp at this
      have := H.len
      omega
    have hj3 : j < as.length := by rw [H.len]; exact hj2
    have h1 : hist[j]? = some hist[j] := List.getElem?_eq_getElem hj2
    have h2 : as[j]? = some as[j] := List.getElem?_eq_getElem hj3
    rw [List.drop_eq_getElem_cons (by rw [zl]; exact hj2)] at e1
    obtain ⟨rfl, rfl⟩ := List.cons.inj e1
    rw [List.getElem_zipWith]
    simp [mYes]
    refine he hist[j] as[j] m1 (k1.get (H.at_ j _ _ h1 h2) (by simp)) _ ?_
    have l2 : (List.zipWith callV (hist.take j) as2).length = j := by simp [e3]; omega
    refine ⟨Nat.lt_of_lt_of_le (by rw [e2, l2]; omega) (szl (n := 3000) (Nat.le_refl _)), ⟨j + 1, as2 ++ [m1.length], hj2, rfl, ?_, by simp [e3], ?_, k1.trans Kp.app⟩⟩
    · rw [e2, List.take_add_one, h1, List.zipWith_append (by simp [e3]; omega)]
      rfl
    · intro i c a z1 z2
      by_cases hi : i < j
      · rw [List.getElem?_append_left (by rw [e3]; exact hi)] at z2
        exact (Kp.app (S := [])).get (e4 i c a z1 z2) (by simp)
      · rw [List.getElem?_append_right (by omega), e3] at z2
        cases hz : i - j with
        | zero =>
          have : i = j := by omega
          subst this
          rw [hz] at z2
          rw [h1] at z1
          cases z1
          cases z2
          simp
        | succ j' => rw [hz] at z2; cases z2
  · rintro acc m1 ⟨j, as2, hj, e1, e2, e3, e4, k1⟩
    have : j = hist.length := by
      have := congrArg List.length e1
      simp at this
      have := H.len
      omega
    subst this
    rw [List.take_length] at e2
    subst e2
    exact q as2 m1 e3 e4 k1
section
variable {M : Mach} {k hx : Nat} {m : Mem} {hist : List (List Str × List Str)} {as : List Nat} {x0 x1 x2 x4 x6 x7 x8 x9 x10 x11 x12 x13 x14 x15 x16 x17 : Option MV} {Q : Fl → Mem → Prop} {Ex : Exn → Mem → Prop}
theorem lwC_ok (mo : M.Ok) (ps : M.ps = [] ∨ M.ps = [("p" : Str)] ∨ M.ps = [("p" : Str), ("q" : Str)]) (z : M.cnt.getD M.bg 1 = 0) (H : HistAt m hx hist as) (hc : ∀ c ∈ hist, CallOk M c) (hl : hist.length ≤ 40)
    (q : ∀ y6 y7 y8 y9 y10 y11 y12 y15 m', Kp [] m m' → Q (.nx [x0, x1, x2, some M.v, x4, some (.ref hx), y6, y7, y8, y9, y10, y11, y12, x13, x14, y15, x16, x17]) m') :
    MI.W (lwC (Tab (k + 50)) [x0, x1, x2, some M.v, x4, some (.ref hx), x6, x7, x8, x9, x10, x11, x12, x13, x14, x15, x16, x17] m) Q Ex := by
  unfold lwC
  have sz : ∀ n, n ≤ 3000 → n ≤ sizeLine := fun n h => szl h
  have hv : M.v = .tup [.tup (M.ps.map .str), .int M.bg, .tup (stsV M.cnt M.tr)] := rfl
  have hps : ∀ p ∈ M.ps, PyData.strOk p = true := by
    rcases ps with e | e | e <;> rw [e] <;> decide +kernel
  obtain ⟨told, hp⟩ := play_of mo hist 0 M.bg [] hc (by
    have := mo.bg
    rw [List.getD_eq_getElem?_getD, List.getElem?_eq_getElem this] at z
    rw [List.getElem?_eq_getElem this]
    simp at z
    rw [z]; rfl) (by simp)
  obtain ⟨tl, te⟩ := play_len hp hc
  have sm := play_sm mo hp hps (by simp)
  have lm : ∀ {m : Mem} {i : Nat} {o : MO}, m[i]? = some o → i < m.length := fun h => (List.getElem?_eq_some_iff.mp h).1
  rw [W_seq]
  simp [H.ls]
  refine lc_cp mo (fun m' k' => by rw [k'.get H.ls (by simp)]) H (by omega) hc (fun c a m' ha P hP => ?_) fun as2 m1 h1 h2 k1 => ?_
  · unfold callV
    simp [wipeM, ha, sz 2 (by omega)]
    exact hP
  have k2 : Kp [] m (m1 ++ [.lst (List.zipWith callV hist as2)]) := k1.trans Kp.app
  have H2 : HistAt (m1 ++ [.lst (List.zipWith callV hist as2)]) m1.length hist as2 := ⟨by simp, h1, fun i c a z1 z2 => (Kp.app (S := [])).get (h2 i c a z1 z2) (by simp)⟩
  have H3 := H.kp k2
  generalize (m1 ++ [MO.lst (List.zipWith callV hist as2)]) = m2 at k2 H2 H3
  generalize m1.length = h2 at H2
  have rg := run_good (k := k + 1) mo z H2 hc (by omega) hp
  rw [show k + 1 + 49 = k + 50 by omega] at rg
  refine rg.mono ?_ (fun x m' h => h.elim)
  rintro d m3 ⟨aT, L, les, rfl, lo1, hT, A, k3⟩
  have H4 := H3.kp k3
  have fo := follow_ok (k := k + 46) mo z H4 (by omega) hp
  rw [show k + 46 + 4 = k + 50 by omega] at fo
  refine fo.mono ?_ (fun x m' h => h.elim)
  rintro d m4 ⟨bT, v, LB, lesB, rfl, lo2, hB, B, k4⟩
  simp
  have A4 := A.kp (kps k4)
  have hT4 := k4.get hT (by simp)
  have H5 := H4.kp k4
  have H6 := (H2.kp k3).kp k4
  have lH := lm H.ls
  have l2 := k2.1
  have l3 := k3.1
  have l4 := k4.1
  refine W_eqTold A4 B hT4 hB sm (fun p hp => by have := te p hp; omega) (by omega) ?_
  simp
  refine W_eqHist mo H6 H5 hc (by omega) ?_
  simp
  refine lwA_ok (k := k) mo ps z H5 hc hl A4 B hT4 hB (by omega) te (fun l hl => ?_) fun y6 y9 y10 y11 y12 m5 k5 => ?_
  · obtain ⟨w1, w2, w3⟩ := A.lo l hl
    have lh := lm H.ls
    refine ⟨fun hb => ?_, by omega, by omega, fun ha => ?_⟩
    · have := (B.lo l hb).1
      omega
    · obtain ⟨i, hi⟩ := List.mem_iff_getElem?.mp ha
      have hi2 : i < hist.length := by rw [← H.len]; exact (List.getElem?_eq_some_iff.mp hi).1
      have := lm (H.at_ i _ l (List.getElem?_eq_getElem hi2) hi)
      omega
  · refine q _ _ _ _ _ _ _ _ m5 (((k2.trans k3).trans k4).sub k5 fun x hx => .inr ?_)
    have := (A.lo x hx).1
    omega
end
end K51
set_option maxHeartbeats 4000000
namespace K51
open PySem L2 MI
/-- one turn -/
theorem lwB_ok {k s c n : Nat} {m : Mem} {x0 x2 x3 x4 x5 x6 x7 x8 x9 x10 x11 x12 x13 x14 x15 x16 x17 : Option MV} {Q : Fl → Mem → Prop} {Ex : Exn → Mem → Prop} (B : Bud m s c (n + 12029))
    (q : ∀ y3 y4 y5 y6 y7 y8 y9 y10 y11 y12 y13 y14 y15 y16 y17 m', Bud m' s c n → Kp [s, c] m m' → Q (.nx [x0, some (.ref s), x2, y3, y4, y5, y6, y7, y8, y9, y10, y11, y12, y13, y14, y15, y16, y17]) m') :
    MI.W (lwB (Tab (k + 50)) [x0, some (.ref s), x2, x3, x4, x5, x6, x7, x8, x9, x10, x11, x12, x13, x14, x15, x16, x17] m) Q Ex := by
  unfold lwB
  have sz : ∀ n, n ≤ 3000 → n ≤ sizeLine := fun n h => szl h
  rw [W_seq]
  simp
  have mk := machine_ok (k := k + 39) (m := m) (s := s) (c := c) (n := n + 29) (B.less (by omega))
  rw [show k + 39 + 11 = k + 50 by omega] at mk
  refine mk.mono ?_ (fun x m' h => h.elim)
  rintro d m1 ⟨M, rfl, mo, ps, z, l3, A1⟩
  simp [sz 3 (by omega), sz 0 (by omega)]
  have k2 : Kp [] m1 (m1 ++ [.lst [.str "t", .str "f", .str "n"], .lst []]) := Kp.app
  have g0 : (m1 ++ [MO.lst [.str "t", .str "f", .str "n"], .lst []])[m1.length]? = some (.lst [.str "t", .str "f", .str "n"]) := by simp
  have g1 : (m1 ++ [MO.lst [.str "t", .str "f", .str "n"], .lst []])[m1.length + 1]? = some (.lst []) := by rw [at_app]; rfl
  have B2 := A1.bud.any k2
  have lt := A1.bud.lt
  have k3 : Kp [s, c] m (m1 ++ [MO.lst [MV.str "t", .str "f", .str "n"], .lst []]) := A1.kp.trans (kps k2)
  generalize (m1 ++ [MO.lst [MV.str "t", .str "f", .str "n"], .lst []]) = m2 at g0 g1 B2 k3 ⊢
  refine lwH_ok (k := k + 48) (n := n) mo B2 g0 g1 (by simp; omega) (by simp; omega) fun y6 y13 y14 y16 y17 m3 hist as h1 h2 h3 h4 B3 k4 => ?_
  show MI.W (lwC (Tab (k + 50)) _ m3) Q Ex
  refine lwC_ok (k := k) mo ps z h3 h2 (by omega) fun z6 z7 z8 z9 z10 z11 z12 z15 m4 k5 => ?_
  have := A1.kp.1
  exact q _ _ _ _ _ _ _ _ _ _ _ _ _ _ _ m4 (B3.any k5) ((k3.sub k4 fun x hx => by
    simp only [List.mem_cons, List.mem_nil_iff, or_false] at hx ⊢
    rcases hx with rfl | rfl | rfl
    · exact .inl (.inl rfl)
    · exact .inl (.inr rfl)
    · exact .inr (by omega)).trans (kps k5))
structure TuI (s c : Nat) (x0 : Option MV) (j : Nat) (ρ : MI.Env) (m' : Mem) : Prop where
  ex : ∃ y2 y3 y4 y5 y6 y7 y8 y9 y10 y11 y12 y13 y14 y15 y16 y17, ρ = [x0, some (.ref s), y2, y3, y4, y5, y6, y7, y8, y9, y10, y11, y12, y13, y14, y15, y16, y17]
  bud : Bud m' s c (12029 * (20 - j))
/-- the law, but for the bounds -/
theorem law_of {k : Nat} {ns : List Int} {m : Mem} (bo : ∀ m, MI.W ((Tab (k + 50)).f .l_bounds [] m) (fun d m' => d = .bl true ∧ Kp [] m m') E0) : MI.W ((Tab (k + 51)).f .law [.kl (ns.map .int)] m) (fun d _ => d = .bl true) E0 := by
  have e1 : (Tab (k + 51)).f .law = f_law (Tab (k + 50)) := rfl
  rw [e1]
  unfold f_law
  rw [b_lw, W_end]
  rw [W_seq]
  simp [startM]
  refine (source_ok (k := k + 49)).mono ?_ (fun x m' h => h.elim)
  rintro d m1 ⟨s, c, rfl, S, ls, lc, k1⟩
  refine (bo m1).mono ?_ (fun x m' h => h.elim)
  rintro d m2 ⟨rfl, k2⟩
  simp
  refine W_range (n := 20) (TuI s c (some (.kl (ns.map .int)))) ⟨⟨_, _, _, _, _, _, _, _, _, _, _, _, _, _, _, _, rfl⟩, ⟨0, S.kp k2 (by simp) (by simp), by omega⟩⟩ ?_ ?_
  · rintro j ρ m' hj ⟨⟨y2, y3, y4, y5, y6, y7, y8, y9, y10, y11, y12, y13, y14, y15, y16, y17, rfl⟩, B⟩
    refine lwB_ok (k := k) (n := 12029 * (20 - (j + 1))) (B.less (by omega)) fun z3 z4 z5 z6 z7 z8 z9 z10 z11 z12 z13 z14 z15 z16 z17 m2 B2 k3 => ?_
    exact ⟨⟨_, _, _, _, _, _, _, _, _, _, _, _, _, _, _, _, rfl⟩, B2⟩
  · rintro ρ m' ⟨⟨y2, y3, y4, y5, y6, y7, y8, y9, y10, y11, y12, y13, y14, y15, y16, y17, rfl⟩, B⟩
    show MI.W (mRet _ _ m') _ _
    simp
end K51
set_option maxHeartbeats 4000000
namespace K51
open PySem L2 MI
def outN : MV := .tup [.str "value", .tup [.str "none"]]
def endV : MV := .tup [.str "end", outN, .int 0, .tup []]
def askT : Nat → MV
  | 0 => endV
  | j + 1 => .tup [.str "ask", .str "f", .tup [], .tup [askT j, endV]]
def p0V : MV := .tup [.str "parameter", .int 0]
def deepT : Nat → MV
  | 0 => endV
  | j + 1 => .tup [.str "test", p0V, .tup [deepT j, endV, endV]]
theorem none_c : ("none" : Str) ∈ consts := by decide +kernel
theorem end_is {pl many : Nat} {cnt : List Nat} {evs : List Bool} (h0 : 0 < cnt.length) (h1 : cnt.getD 0 0 = 0) : EndIs pl many cnt evs endV :=
  ⟨outN, 0, [], rfl, h0, h1.symm, by simp, .inl ⟨_, rfl, .inl ⟨"none", none_c, rfl⟩⟩⟩
theorem f_word : WordN "f" ([] : List MV).length := .inl ⟨by decide +kernel, by simp⟩
theorem ask_tr : ∀ (j : Nat) (evs : List Bool), evs.length + j ≤ 6 → Tr 0 0 [0] j evs (askT j)
  | 0, evs, _ => .fin (end_is (by simp) rfl)
  | j + 1, evs, h => .ask (by omega) f_word (by simp) (ask_tr j _ (by simp; omega)) (.fin (end_is (by simp) rfl))
theorem p0_obj {pl : Nat} {evs : List Bool} : p0V ∈ objL pl 1 evs := by
  unfold objL
  refine List.mem_append_left _ (List.mem_append_right _ ?_)
  exact List.mem_map.mpr ⟨.int 0, by simp [rngL], rfl⟩
theorem deep_tr : ∀ j : Nat, Tr 0 1 [0] j [] (deepT j)
  | 0 => .fin (end_is (by simp) rfl)
  | j + 1 => .test p0_obj (deep_tr j) (.fin (end_is (by simp) rfl)) (.fin (end_is (by simp) rfl))
theorem one_ok {ps : List Str} {t : MV} {f : Nat} (hp : parB (ps.map .str) = some true) (p2 : ps.length ≤ 2) (hf : f ≤ 29) (tr : Tr 0 ps.length [0] f [] t) : Mach.Ok ⟨ps, 0, [0], [t]⟩ := by
  refine ⟨hp, p2, rfl, by simp, by simp, by simp, by simp, fun i c t' h1 h2 => ?_⟩
  cases i with
  | zero =>
    cases h1
    cases h2
    exact ⟨f, hf, tr⟩
  | succ i => simp at h1
@[irreducible] def M1 : Mach := ⟨[], 0, [0], [askT 6]⟩
@[irreducible] def M2 : Mach := ⟨["p"], 0, [0], [deepT 29]⟩
@[irreducible] def M3 : Mach := ⟨[], 0, List.replicate 2000 0, List.replicate 2000 endV⟩
theorem M1_v : M1.v = .tup [.tup [], .int 0, .tup [.tup [.int 0, askT 6]]] := by unfold M1; rfl
theorem M2_v : M2.v = .tup [.tup [.str "p"], .int 0, .tup [.tup [.int 0, deepT 29]]] := by unfold M2; rfl
theorem rep_v {n : Nat} : stsV (List.replicate n 0) (List.replicate n endV) = List.replicate n (.tup [.int 0, endV]) := by
  unfold stsV
  rw [List.zipWith_replicate]
  simp
theorem M3_v : M3.v = .tup [.tup [], .int 0, .tup (List.replicate 2000 (.tup [.int 0, endV]))] := by
  unfold M3 Mach.v
  dsimp only
  rw [rep_v]
  rfl
theorem M1_ok : M1.Ok := by
  unfold M1
  exact one_ok rfl (by simp) (f := 6) (by omega) (ask_tr 6 [] (by simp))
theorem par_p : parB ((["p"] : List Str).map .str) = some true := by
  show some (nameB (.str "p")) = some true
  rw [show nameB (.str "p") = true by decide +kernel]
theorem M2_ok : M2.Ok := by
  unfold M2
  exact one_ok par_p (by simp) (f := 29) (by omega) (deep_tr 29)
theorem rep_ok {n : Nat} (h0 : 0 < n) (h1 : n ≤ 2000) : Mach.Ok ⟨[], 0, List.replicate n 0, List.replicate n endV⟩ := by
  refine ⟨rfl, by simp, by simp, by simp; omega, by simp; omega, fun x hx => ?_, by simp; omega, fun i c t h1 h2 => ?_⟩
  · have := List.eq_of_mem_replicate hx
    omega
  · have h2 := List.eq_of_mem_replicate (List.mem_of_getElem? h2)
    subst h2
    refine ⟨0, by omega, .fin (end_is (by simp; omega) ?_)⟩
    rw [List.getD_eq_getElem?_getD, List.getElem?_replicate, if_pos h0]
    rfl
theorem M3_ok : M3.Ok := by
  unfold M3
  exact rep_ok (by omega) (by omega)
theorem M1_z : M1.cnt.getD M1.bg 1 = 0 := by unfold M1; rfl
theorem M2_z : M2.cnt.getD M2.bg 1 = 0 := by unfold M2; rfl
theorem M3_z : M3.cnt.getD M3.bg 1 = 0 := by
  unfold M3
  show (List.replicate 2000 0).getD 0 1 = 0
  rw [List.getD_eq_getElem?_getD, List.getElem?_replicate, if_pos (by omega)]
  rfl
/-- the word of a good machine with no call -/
theorem word_nil {M : Mach} (mo : M.Ok) (z : M.cnt.getD M.bg 1 = 0) {k h : Nat} {m : Mem} (hh : m[h]? = some (.lst [])) : MI.W ((Tab (k + 50)).f .l_word [M.v, .ref h] m) (fun d m' => d = .str "good" ∧ Kp [] m m') E0 := by
  refine word_good ((run_good (k := k) mo z (hist := []) (as := []) ⟨hh, rfl, fun i c a h1 => by simp at h1⟩ (by simp) (by simp) .nil).mono ?_)
  rintro d m' ⟨_, _, _, _, _, _, _, k'⟩
  exact k'
theorem run_go {C : Ctx} (hx : ∀ i, i < C.ans.length → C.ans.getD i ("n" : Str) ≠ ("x" : Str)) : ∀ (j : Nat) (E : List MV), E.length + j ≤ C.ans.length → ∃ E', E'.length = E.length + j ∧ Runs C [0] j E (askT j) E' (some endV)
  | 0, E, h => ⟨E, rfl, .fin h (end_is (by simp) rfl)⟩
  | j + 1, E, h => by
    obtain ⟨E', h1, h2⟩ := run_go hx j (E ++ [evV C "f" []]) (by simp; omega)
    refine ⟨E', by simp at h1; omega, .go (by omega) (by simp) (by simp) ?_⟩
    rw [if_neg (hx _ (by omega))]
    exact h2
theorem run_want {C : Ctx} (hx : ∀ i, i < C.ans.length → C.ans.getD i ("n" : Str) ≠ ("x" : Str)) : ∀ (j : Nat) (E : List MV), E.length ≤ C.ans.length → C.ans.length < E.length + j → ∃ n E', n ≤ j ∧ Runs C [0] n E (askT j) E' none
  | 0, E, h, h1 => absurd h1 (by omega)
  | j + 1, E, h, h1 => by
    by_cases e : E.length = C.ans.length
    · exact ⟨1, _, by omega, .want e (by simp) (by simp)⟩
    · obtain ⟨n, E', h2, h3⟩ := run_want hx j (E ++ [evV C "f" []]) (by simp; omega) (by simp; omega)
      refine ⟨n + 1, E', by omega, .go (by omega) (by simp) (by simp) ?_⟩
      rw [if_neg (hx _ (by omega))]
      exact h3
def ts (n : Nat) : List Str := List.replicate n "t"
def h6 : List (List Str × List Str) := [([], ts 6), ([], ts 5), ([], ts 1)]
theorem ts_x {n i : Nat} (h : i < (ts n).length) : (ts n).getD i ("n" : Str) ≠ ("x" : Str) := by
  unfold ts at h ⊢
  rw [List.length_replicate] at h
  rw [List.getD_eq_getElem?_getD, List.getElem?_replicate, if_pos h]
  decide +kernel
theorem ts_c {n : Nat} (h : n ≤ 10) : CallOk M1 ([], ts n) := by
  refine ⟨?_, by simp, fun a ha => ?_, by simp [ts]; omega⟩
  · unfold M1
    rfl
  · have := List.eq_of_mem_replicate ha
    subst this
    decide +kernel
theorem h6_c : ∀ c ∈ h6, CallOk M1 c := by
  intro c hc
  unfold h6 at hc
  simp only [List.mem_cons, List.mem_nil_iff, or_false] at hc
  rcases hc with rfl | rfl | rfl
  · exact ts_c (by omega)
  · exact ts_c (by omega)
  · exact ts_c (by omega)
theorem ctx1 {num n : Nat} (h : n ≤ 10) : (ctxAt M1 num [] ([], ts n)).Ok := by
  have c := ts_c h
  exact ⟨c.kl, M1_ok.p2, c.kd, by simp [ctxAt], by simp [ctxAt], c.an, c.al⟩
theorem play6 : ∃ told, Play M1 0 M1.bg [] h6 told ∧ told.length = 2 := by
  have hx : ∀ num n i, i < (ctxAt M1 num [] ([], ts n)).ans.length → (ctxAt M1 num [] ([], ts n)).ans.getD i ("n" : Str) ≠ ("x" : Str) := fun num n i h => ts_x h
  have la : ∀ num n, (ctxAt M1 num [] ([], ts n)).ans.length = n := fun num n => by simp [ctxAt, ts]
  obtain ⟨E, e1, e2⟩ := run_go (C := ctxAt M1 0 [] ([], ts 6)) (hx 0 6) 6 [] (by rw [la]; simp)
  obtain ⟨n, E2, e3, e4⟩ := run_want (C := ctxAt M1 1 [] ([], ts 5)) (hx 1 5) 6 [] (by simp) (by rw [la]; simp)
  have b : M1.bg = 0 := by unfold M1; rfl
  have t : M1.tr[0]? = some (askT 6) := by unfold M1; rfl
  have c : M1.cnt = [0] := by unfold M1; rfl
  rw [b]
  refine ⟨_, .go (st' := 0) (hold := []) (o := outN) (ctx1 (by omega)) t (n := 6) (by omega) (by rw [c]; exact e2) (by show E.length ≤ (ts 6).length; rw [e1]; simp [ts]) (by rw [c]; exact end_is (by simp) rfl) (.want (ctx1 (by omega)) t (n := n) (by omega) (by rw [c]; exact e4)), rfl⟩
end K51
set_option maxHeartbeats 4000000
namespace K51
open PySem L2 MI
theorem word_bad_mach {v : MV} (pu : Pu v = true) (mb : machB 40 v = some false) (wd : ∀ (m : Mem) a c x y, v = .tup [.tup [a, c], x, y] → False) {k h : Nat} {m : Mem} : MI.W ((Tab (k + 50)).f .l_word [v, .ref h] m) (fun d m' => d = .str "machine" ∧ Kp [] m m') E0 := by
  refine word_mach (run_wrongM ?_)
  have := mach_ok (f := 40) (k := k) (m := m) (v := v) (b := false) (Pu.ty _ pu) (fun a c x y e => (wd m a c x y e).elim) mb
  exact this
def deepX : MV := .tup [.str "test", p0V, .tup [endV, endV, deepT 29]]
def V4 : MV := .tup [.tup [.str "p"], .int 0, .tup [.tup [.int 0, deepX]]]
def V5 : MV := .tup [.tup [], .int 0, .tup (List.replicate 2001 (.tup [.int 0, endV]))]
theorem V4_pu : Pu V4 = true := by decide +kernel
theorem V4_b : machB 40 V4 = some false := by decide +kernel
theorem V5_pu : Pu V5 = true := by
  have a : Pu (.tup []) = true := by decide +kernel
  have e : Pu (.tup [.int 0, endV]) = true := by decide +kernel
  have b : Pu (.tup (List.replicate 2001 (.tup [.int 0, endV]))) = true := pu_tup (fun d hd => by
    have := List.eq_of_mem_replicate hd
    subst this
    exact e) (by simp) (fun w x y z e => by
      have := congrArg List.length e
      simp at this)
  unfold V5
  refine pu_tup (fun d hd => ?_) (by simp) (by simp)
  simp only [List.mem_cons, List.mem_nil_iff, or_false] at hd
  rcases hd with rfl | rfl | rfl
  · exact a
  · decide +kernel
  · exact b
theorem V5_b : machB 40 V5 = some false := by
  unfold V5 machB
  dsimp only
  have : stsB 40 0 (.int 0) (.tup (List.replicate 2001 (.tup [.int 0, endV]))) = some false := by
    unfold stsB
    simp only
    rw [if_neg (by simp)]
  show andO (if ([] : List MV).length ≤ 2 then parB [] else some false) (stsB 40 0 (.int 0) _) = _
  rw [this]
  rfl
theorem word4 {k h : Nat} {m : Mem} : MI.W ((Tab (k + 50)).f .l_word [V4, .ref h] m) (fun d m' => d = .str "machine" ∧ Kp [] m m') E0 := word_bad_mach V4_pu V4_b (fun m a c x y e => by unfold V4 at e; cases e)
theorem word5 {k h : Nat} {m : Mem} : MI.W ((Tab (k + 50)).f .l_word [V5, .ref h] m) (fun d m' => d = .str "machine" ∧ Kp [] m m') E0 := word_bad_mach V5_pu V5_b (fun m a c x y e => by unfold V5 at e; cases e)
def fullV : MV := .tup [.str "end", .tup [.str "value", p0V], .int 1, .tup (List.replicate 8 p0V)]
def backV : MV := .tup [.str "end", .tup [.str "value", .tup [.str "place", .int 7]], .int 0, .tup []]
@[irreducible] def M6 : Mach := ⟨["p"], 0, [0, 8], [fullV, backV]⟩
theorem M6_v : M6.v = .tup [.tup [.str "p"], .int 0, .tup [.tup [.int 0, fullV], .tup [.int 8, backV]]] := by unfold M6; rfl
theorem full_is {evs : List Bool} : EndIs 0 1 [0, 8] evs fullV := ⟨_, 1, _, rfl, by simp, by simp, fun h hh => by
  have := List.eq_of_mem_replicate hh
  subst this
  exact p0_obj, .inl ⟨_, rfl, .inr p0_obj⟩⟩
theorem pl7_obj {evs : List Bool} : MV.tup [.str "place", .int 7] ∈ objL 8 1 evs := by
  unfold objL
  refine List.mem_append_left _ (List.mem_append_left _ ?_)
  exact List.mem_map.mpr ⟨.int 7, by simp [rngL]; exact ⟨7, by omega, rfl⟩, rfl⟩
theorem back_is {evs : List Bool} : EndIs 8 1 [0, 8] evs backV := ⟨_, 0, [], rfl, by simp, rfl, by simp, .inl ⟨_, rfl, .inr pl7_obj⟩⟩
theorem M6_ok : M6.Ok := by
  unfold M6
  refine ⟨par_p, by simp, rfl, by simp, by simp, by simp, by simp, fun i c t h1 h2 => ?_⟩
  cases i with
  | zero => cases h1; cases h2; exact ⟨0, by omega, .fin full_is⟩
  | succ i => cases i with
    | zero => cases h1; cases h2; exact ⟨0, by omega, .fin back_is⟩
    | succ i => simp at h1
theorem M6_z : M6.cnt.getD M6.bg 1 = 0 := by unfold M6; rfl
def h2 : List (List Str × List Str) := [(["f"], []), (["t"], [])]
theorem h2_c : ∀ c ∈ h2, CallOk M6 c := by
  intro c hc
  unfold h2 at hc
  simp only [List.mem_cons, List.mem_nil_iff, or_false] at hc
  unfold M6
  rcases hc with rfl | rfl
  · exact ⟨rfl, by decide +kernel, by simp, by simp⟩
  · exact ⟨rfl, by decide +kernel, by simp, by simp⟩
def objP : MV := .tup [.str "value", .tup [.str "object", .tup [.int 0, .tup [.str "name", .str "p"]]]]
def held8 : List (MV × Str) := (List.replicate 8 p0V).map (ctxAt M6 0 [] (["f"], [])).ob
theorem ob_p0 {C : Ctx} {p : Str} {k : Str} (hp : C.ps = [p]) (hk : C.kinds = [k]) : C.ob p0V = (srcN C.num p, k) := by
  have := ob_pa (C := C) (i := 0)
  show C.ob (paM (.int ((0 : Nat) : Int))) = _
  rw [this]
  unfold Ctx.par
  rw [hp, hk]
  rfl
theorem held8_eq : held8 = List.replicate 8 (srcN 0 "p", ("f" : Str)) := by
  unfold held8
  rw [List.map_replicate, ob_p0 (p := "p") (k := "f") (by unfold M6; rfl) rfl]
  rfl
theorem play2 : Play M6 0 M6.bg [] h2 [([], objP), ([], objP)] := by
  have b : M6.bg = 0 := by unfold M6; rfl
  have t0 : M6.tr[0]? = some fullV := by unfold M6; rfl
  have t1 : M6.tr[1]? = some backV := by unfold M6; rfl
  have c : M6.cnt = [0, 8] := by unfold M6; rfl
  have pl : M6.ps.length = 1 := by unfold M6; rfl
  have hps : M6.ps = [("p" : Str)] := by unfold M6; rfl
  have c0 : (ctxAt M6 0 [] (["f"], [])).Ok := by
    have c := h2_c (["f"], []) (by simp [h2])
    exact ⟨c.kl, M6_ok.p2, c.kd, by simp [ctxAt], by simp [ctxAt], c.an, c.al⟩
  have l8 : held8.length = 8 := by rw [held8_eq]; simp
  have c1 : (ctxAt M6 1 held8 (["t"], [])).Ok := by
    have c := h2_c (["t"], []) (by simp [h2])
    refine ⟨c.kl, M6_ok.p2, c.kd, fun p hp => ?_, by simp [ctxAt, l8], c.an, c.al⟩
    have hp : p ∈ held8 := hp
    rw [held8_eq] at hp
    have := List.eq_of_mem_replicate hp
    subst this
    exact ⟨by simp, 0, by simp [ctxAt], .inl ⟨_, rfl⟩⟩
  have v0 : outV (ctxAt M6 0 [] (["f"], [])) (.tup [.str "value", p0V]) = objP := by
    show MV.tup [.str "value", (ctxAt M6 0 [] (["f"], [])).val p0V] = _
    have : (ctxAt M6 0 [] (["f"], [])).val p0V = valOf ((ctxAt M6 0 [] (["f"], [])).ob p0V) := rfl
    rw [this, ob_p0 (p := "p") (k := "f") (by unfold M6; rfl) rfl]
    rfl
  have v1 : outV (ctxAt M6 1 held8 (["t"], [])) (.tup [.str "value", .tup [.str "place", .int 7]]) = objP := by
    show MV.tup [.str "value", (ctxAt M6 1 held8 (["t"], [])).val (.tup [.str "place", .int 7])] = _
    have : (ctxAt M6 1 held8 (["t"], [])).val (.tup [.str "place", .int 7]) = valOf ((ctxAt M6 1 held8 (["t"], [])).ob (plM (.int ((7 : Nat) : Int)))) := rfl
    rw [this, ob_pl]
    show MV.tup [.str "value", valOf (held8.getD 7 dfl)] = _
    rw [held8_eq]
    rfl
  rw [b]
  have g2 : Play M6 1 1 held8 [(["t"], [])] [([], objP)] := by
    rw [← v1]
    refine .go (st' := 0) (hold := []) (n := 0) c1 t1 (by omega) (.fin (by simp) ?_) (by simp) ?_ .nil
    · rw [c]
      show EndIs held8.length M6.ps.length _ _ backV
      rw [l8, pl]
      exact back_is
    · rw [c, l8, pl]
      exact back_is
  rw [show ([(([] : List MV), objP), ([], objP)]) = ([], outV (ctxAt M6 0 [] (["f"], [])) (.tup [.str "value", p0V])) :: [([], objP)] by rw [v0]]
  refine .go (st' := 1) (hold := List.replicate 8 p0V) (n := 0) c0 t0 (by omega) (.fin (by simp) ?_) (by simp) ?_ g2
  · rw [c]
    show EndIs 0 M6.ps.length _ _ fullV
    rw [pl]
    exact full_is
  · rw [c, pl]
    exact full_is
end K51
set_option maxHeartbeats 4000000
namespace K51
open PySem L2 MI
@[irreducible] noncomputable def bn1 (ck : Tabl) : MS := (mAsg (mTup (mCons (mC (.str "end")) (mCons (mTup (mCons (mC (.str "value")) (mCons (mTup (mCons (mC (.str "none")) mNil)) mNil))) (mCons (mC (.int 0)) (mCons (mTup mNil) mNil))))) (nName 0))
@[irreducible] noncomputable def bn2 (ck : Tabl) : MS := (mAsg (mVar 0) (nName 1))
@[irreducible] noncomputable def bn3 (ck : Tabl) : MS := (mFor (mRng (mCons (mC (.int 6)) mNil)) (nName 2)
    (mAsg (mTup (mCons (mC (.str "ask")) (mCons (mC (.str "f")) (mCons (mTup mNil) (mCons (mTup (mCons (mVar 1) (mCons (mVar 0) mNil))) mNil))))) (nName 1)))
@[irreducible] noncomputable def bn4 (ck : Tabl) : MS := (mAsg (mVar 0) (nName 3))
@[irreducible] noncomputable def bn5 (ck : Tabl) : MS := (mFor (mRng (mCons (mC (.int 29)) mNil)) (nName 2)
    (mAsg (mTup (mCons (mC (.str "test")) (mCons (mTup (mCons (mC (.str "parameter")) (mCons (mC (.int 0)) mNil))) (mCons (mTup (mCons (mVar 3) (mCons (mVar 0) (mCons (mVar 0) mNil)))) mNil)))) (nName 3)))
@[irreducible] noncomputable def bn6 (ck : Tabl) : MS := (mAsg (mTup (mCons (mC (.str "end")) (mCons (mTup (mCons (mC (.str "value")) (mCons (mTup (mCons (mC (.str "parameter")) (mCons (mC (.int 0)) mNil))) mNil))) (mCons (mC (.int 1)) (mCons (mBin gMulB (mTup (mCons (mTup (mCons (mC (.str "parameter")) (mCons (mC (.int 0)) mNil))) mNil)) (mC (.int 8))) mNil))))) (nName 4))
@[irreducible] noncomputable def bn7 (ck : Tabl) : MS := (mAsg (mTup (mCons (mC (.str "end")) (mCons (mTup (mCons (mC (.str "value")) (mCons (mTup (mCons (mC (.str "place")) (mCons (mC (.int 7)) mNil))) mNil))) (mCons (mC (.int 0)) (mCons (mTup mNil) mNil))))) (nName 5))
@[irreducible] noncomputable def bn8 (ck : Tabl) : MS := (mAsg (mLst (mCons (mTup (mCons (mTup mNil) (mCons (mBin gMul (mLst (mCons (mC (.str "t")) mNil)) (mC (.int 6))) mNil))) (mCons (mTup (mCons (mTup mNil) (mCons (mBin gMul (mLst (mCons (mC (.str "t")) mNil)) (mC (.int 5))) mNil))) (mCons (mTup (mCons (mTup mNil) (mCons (mLst (mCons (mC (.str "t")) mNil)) mNil))) mNil)))) (nName 6))
@[irreducible] noncomputable def bn9 (ck : Tabl) : MS := (mIfS (mOrT (mB (mBin (gEqA true) (mCall (ck.f .l_word) (mCons (mTup (mCons (mTup mNil) (mCons (mC (.int 0)) (mCons (mTup (mCons (mTup (mCons (mC (.int 0)) (mCons (mVar 1) mNil))) mNil)) mNil)))) (mCons (mVar 6) mNil))) (mC (.str "good")))) (mB (mBin (gEqA true) (mCall (ck.f .l_word) (mCons (mTup (mCons (mTup (mCons (mC (.str "p")) mNil)) (mCons (mC (.int 0)) (mCons (mTup (mCons (mTup (mCons (mC (.int 0)) (mCons (mVar 3) mNil))) mNil)) mNil)))) (mCons (mLst mNil) mNil))) (mC (.str "good")))))
    (mRet (mC (.bl false)))
    mSkip)
@[irreducible] noncomputable def bn10 (ck : Tabl) : MS := (mIfS (mOrT (mB (mBin (gEqA true) (mCall gLen (mCons (mCall (ck.f .run_machine) (mCons (mTup (mCons (mTup mNil) (mCons (mC (.int 0)) (mCons (mTup (mCons (mTup (mCons (mC (.int 0)) (mCons (mVar 1) mNil))) mNil)) mNil)))) (mCons (mVar 6) mNil))) mNil)) (mC (.int 2)))) (mB (mBin (gEqA true) (mCall (ck.f .l_word) (mCons (mTup (mCons (mTup mNil) (mCons (mC (.int 0)) (mCons (mBin gMulB (mTup (mCons (mTup (mCons (mC (.int 0)) (mCons (mVar 0) mNil))) mNil)) (mC (.int 2000))) mNil)))) (mCons (mLst mNil) mNil))) (mC (.str "good")))))
    (mRet (mC (.bl false)))
    mSkip)
@[irreducible] noncomputable def bn11 (ck : Tabl) : MS := (mAsg (mTup (mCons (mC (.str "test")) (mCons (mTup (mCons (mC (.str "parameter")) (mCons (mC (.int 0)) mNil))) (mCons (mTup (mCons (mVar 0) (mCons (mVar 0) (mCons (mVar 3) mNil)))) mNil)))) (nName 3))
@[irreducible] noncomputable def bn12 (ck : Tabl) : MS := (mIfS (mOrT (mB (mBin (gEqA true) (mCall (ck.f .l_word) (mCons (mTup (mCons (mTup (mCons (mC (.str "p")) mNil)) (mCons (mC (.int 0)) (mCons (mTup (mCons (mTup (mCons (mC (.int 0)) (mCons (mVar 3) mNil))) mNil)) mNil)))) (mCons (mLst mNil) mNil))) (mC (.str "machine")))) (mB (mBin (gEqA true) (mCall (ck.f .l_word) (mCons (mTup (mCons (mTup mNil) (mCons (mC (.int 0)) (mCons (mBin gMulB (mTup (mCons (mTup (mCons (mC (.int 0)) (mCons (mVar 0) mNil))) mNil)) (mC (.int 2001))) mNil)))) (mCons (mLst mNil) mNil))) (mC (.str "machine")))))
    (mRet (mC (.bl false)))
    mSkip)
@[irreducible] noncomputable def bn13 (ck : Tabl) : MS := (mSeq (mAsg (mLst (mCons (mTup (mCons (mLst mNil) (mCons (mTup (mCons (mC (.str "value")) (mCons (mTup (mCons (mC (.str "object")) (mCons (mTup (mCons (mC (.int 0)) (mCons (mTup (mCons (mC (.str "name")) (mCons (mC (.str "p")) mNil))) mNil))) mNil))) mNil))) mNil))) (mCons (mTup (mCons (mLst mNil) (mCons (mTup (mCons (mC (.str "value")) (mCons (mTup (mCons (mC (.str "object")) (mCons (mTup (mCons (mC (.int 0)) (mCons (mTup (mCons (mC (.str "name")) (mCons (mC (.str "p")) mNil))) mNil))) mNil))) mNil))) mNil))) mNil))) (nName 7))
    (mRet (mBin (gEqA false) (mCall (ck.f .run_machine) (mCons (mTup (mCons (mTup (mCons (mC (.str "p")) mNil)) (mCons (mC (.int 0)) (mCons (mTup (mCons (mTup (mCons (mC (.int 0)) (mCons (mVar 4) mNil))) (mCons (mTup (mCons (mC (.int 8)) (mCons (mVar 5) mNil))) mNil))) mNil)))) (mCons (mLst (mCons (mTup (mCons (mTup (mCons (mC (.str "f")) mNil)) (mCons (mLst mNil) mNil))) (mCons (mTup (mCons (mTup (mCons (mC (.str "t")) mNil)) (mCons (mLst mNil) mNil))) mNil))) mNil))) (mVar 7))))
theorem b_bn (ck : Tabl) : b_l_bounds ck = (mSeq (bn1 ck) (mSeq (bn2 ck) (mSeq (bn3 ck) (mSeq (bn4 ck) (mSeq (bn5 ck) (mSeq (bn6 ck) (mSeq (bn7 ck) (mSeq (bn8 ck) (mSeq (bn9 ck) (mSeq (bn10 ck) (mSeq (bn11 ck) (mSeq (bn12 ck) (bn13 ck))))))))))))) := by
  unfold bn1 bn2 bn3 bn4 bn5 bn6 bn7 bn8 bn9 bn10 bn11 bn12 bn13
  rfl
end K51
set_option maxHeartbeats 4000000
namespace K51
open PySem L2 MI
theorem W_mulL {a : Nat} {k : Int} {x : MV} {m : Mem} {Q : MV → Mem → Prop} {E : Exn → Mem → Prop} (h : m[a]? = some (.lst [x])) (h0 : 0 ≤ k) (h1 : k ≤ 1000) : MI.W (gMul (.ref a) (.int k) m) Q E = Q (.ref m.length) (m ++ [.lst (List.replicate k.toNat x)]) := by with_unfolding_all
  show MI.W (match mutOf m (.ref a) with
    | some (_, xs) => if 0 ≤ k ∧ k ≤ 1000 ∧ xs.length ≤ 1000 then alloc (.lst (List.replicate k.toNat xs).flatten) m else .stuck
    | _ => .stuck) Q E = _
  simp only [mutOf_ref, h]
  rw [if_pos ⟨h0, h1, by simp⟩, List.flatten_replicate_singleton]
  rfl
theorem W_mulB_big {x : MV} {k : Int} {m : Mem} {Q : MV → Mem → Prop} {E : Exn → Mem → Prop} (h0 : 2 ≤ k) (h1 : k ≤ 4000) : MI.W (gMulB (.tup [x]) (.int k) m) Q E = Q (.tup (List.replicate k.toNat x)) m := by with_unfolding_all
  unfold gMulB
  simp only
  rw [if_neg (by omega), if_neg (by omega), if_pos ⟨by simp, by simp, h0, h1⟩, List.flatten_replicate_singleton]
  rfl
structure LoI (x0 : Option MV) (i : Nat) (t : Nat → MV) (f : Option MV → Option MV → MI.Env) (m : Mem) (j : Nat) (ρ : MI.Env) (m' : Mem) : Prop where
  mm : m' = m
  ex : ∃ y2, ρ = f (some (t j)) y2
section
variable {ck : Tabl} {m : Mem} {x0 x1 x2 x3 x4 x5 x6 x7 : Option MV} {Q : Fl → Mem → Prop} {Ex : Exn → Mem → Prop}
theorem bn1_ok (q : Q (.nx [some endV, x1, x2, x3, x4, x5, x6, x7]) m) : MI.W (bn1 ck [x0, x1, x2, x3, x4, x5, x6, x7] m) Q Ex := by
  unfold bn1
  have sz : ∀ n, n ≤ 3000 → n ≤ sizeLine := fun n h => szl h
  simp [sz 4 (by omega), sz 2 (by omega), sz 1 (by omega), sz 0 (by omega)]
  exact q
theorem bn2_ok {v : MV} (q : Q (.nx [some v, some v, x2, x3, x4, x5, x6, x7]) m) : MI.W (bn2 ck [some v, x1, x2, x3, x4, x5, x6, x7] m) Q Ex := by
  unfold bn2
  simp
  exact q
theorem bn3_ok (q : ∀ y2, Q (.nx [some endV, some (askT 6), y2, x3, x4, x5, x6, x7]) m) : MI.W (bn3 ck [some endV, some endV, x2, x3, x4, x5, x6, x7] m) Q Ex := by
  unfold bn3
  have sz : ∀ n, n ≤ 3000 → n ≤ sizeLine := fun n h => szl h
  simp
  refine W_range (n := 6) (LoI none 1 askT (fun t y2 => [some endV, t, y2, x3, x4, x5, x6, x7]) m) ⟨rfl, _, rfl⟩ ?_ ?_
  · rintro j ρ m' hj ⟨rfl, y2, rfl⟩
    simp [sz 4 (by omega), sz 2 (by omega), sz 0 (by omega)]
    exact ⟨rfl, _, rfl⟩
  · rintro ρ m' ⟨rfl, y2, rfl⟩
    exact q y2
theorem bn4_ok {v : MV} (q : Q (.nx [some v, x1, x2, some v, x4, x5, x6, x7]) m) : MI.W (bn4 ck [some v, x1, x2, x3, x4, x5, x6, x7] m) Q Ex := by
  unfold bn4
  simp
  exact q
theorem bn5_ok (q : ∀ y2, Q (.nx [some endV, x1, y2, some (deepT 29), x4, x5, x6, x7]) m) : MI.W (bn5 ck [some endV, x1, x2, some endV, x4, x5, x6, x7] m) Q Ex := by
  unfold bn5
  have sz : ∀ n, n ≤ 3000 → n ≤ sizeLine := fun n h => szl h
  simp
  refine W_range (n := 29) (LoI none 1 deepT (fun t y2 => [some endV, x1, y2, t, x4, x5, x6, x7]) m) ⟨rfl, _, rfl⟩ ?_ ?_
  · rintro j ρ m' hj ⟨rfl, y2, rfl⟩
    simp [sz 3 (by omega), sz 2 (by omega), sz 0 (by omega)]
    exact ⟨rfl, _, rfl⟩
  · rintro ρ m' ⟨rfl, y2, rfl⟩
    exact q y2
theorem bn6_ok (q : Q (.nx [x0, x1, x2, x3, some fullV, x5, x6, x7]) m) : MI.W (bn6 ck [x0, x1, x2, x3, x4, x5, x6, x7] m) Q Ex := by
  unfold bn6
  have sz : ∀ n, n ≤ 3000 → n ≤ sizeLine := fun n h => szl h
  simp [sz 4 (by omega), sz 2 (by omega), sz 1 (by omega), sz 0 (by omega), W_mulB_big]
  exact q
theorem bn7_ok (q : Q (.nx [x0, x1, x2, x3, x4, some backV, x6, x7]) m) : MI.W (bn7 ck [x0, x1, x2, x3, x4, x5, x6, x7] m) Q Ex := by
  unfold bn7
  have sz : ∀ n, n ≤ 3000 → n ≤ sizeLine := fun n h => szl h
  simp [sz 4 (by omega), sz 2 (by omega), sz 1 (by omega), sz 0 (by omega), W_mulB_big]
  exact q
theorem bn8_ok (q : ∀ h as m', HistAt m' h h6 as → Kp [] m m' → Q (.nx [x0, x1, x2, x3, x4, x5, some (.ref h), x7]) m') : MI.W (bn8 ck [x0, x1, x2, x3, x4, x5, x6, x7] m) Q Ex := by
  unfold bn8
  have sz : ∀ n, n ≤ 3000 → n ≤ sizeLine := fun n h => szl h
  simp [sz 3 (by omega), sz 2 (by omega), sz 1 (by omega), sz 0 (by omega)]
  have g0 : ∀ r : List MO, (m ++ MO.lst [.str "t"] :: r)[m.length]? = some (.lst [.str "t"]) := fun r => at_app (i := 0) (r := MO.lst [.str "t"] :: r)
  rw [W_mulL (g0 []) (by omega) (by omega)]
  simp
  have G : ∀ (r : List MO) (i : Nat), (m ++ r)[m.length + i]? = r[i]? := fun r i => at_app
  rw [W_mulL (G _ 2) (by omega) (by omega)]
  simp
  refine q _ [m.length + 1, m.length + 3, m.length + 4] _ ⟨?_, rfl, fun i c a h1 h2 => ?_⟩ Kp.app
  · rw [G _ 5]
    rfl
  · match i, h1, h2 with
    | 0, h1, h2 => cases h1; cases h2; rw [G _ 1]; rfl
    | 1, h1, h2 => cases h1; cases h2; rw [G _ 3]; rfl
    | 2, h1, h2 => cases h1; cases h2; rw [G _ 4]; rfl
    | i + 3, h1, h2 => simp [h6] at h1
end
end K51
set_option maxHeartbeats 4000000
namespace K51
open PySem L2 MI
section
variable {k : Nat} {m : Mem} {x0 x1 x2 x3 x4 x5 x6 x7 : Option MV} {Q : Fl → Mem → Prop} {Ex : Exn → Mem → Prop}
theorem bn9_ok {h : Nat} {as : List Nat} (H : HistAt m h h6 as) (q : ∀ m', Kp [] m m' → Q (.nx [x0, some (askT 6), x2, some (deepT 29), x4, x5, some (.ref h), x7]) m') : MI.W (bn9 (Tab (k + 50)) [x0, some (askT 6), x2, some (deepT 29), x4, x5, some (.ref h), x7] m) Q Ex := by
  unfold bn9
  have sz : ∀ n, n ≤ 3000 → n ≤ sizeLine := fun n h => szl h
  obtain ⟨told, hp, tl⟩ := play6
  have w1 : MI.W ((Tab (k + 50)).f .l_word [M1.v, .ref h] m) (fun d m' => d = .str "good" ∧ Kp [] m m') E0 := by
    refine word_good ((run_good (k := k) M1_ok M1_z H h6_c (by simp [h6]) hp).mono ?_)
    rintro d m' ⟨_, _, _, _, _, _, _, k'⟩
    exact k'
  rw [M1_v] at w1
  simp [sz 3 (by omega), sz 2 (by omega), sz 1 (by omega), sz 0 (by omega)]
  refine w1.mono ?_ (fun x m' h => h.elim)
  rintro d m1 ⟨rfl, k1⟩
  simp [sz 3 (by omega), sz 2 (by omega), sz 1 (by omega), sz 0 (by omega)]
  have w2 := word_nil M2_ok M2_z (k := k) (h := m1.length) (m := m1 ++ [.lst []]) (by simp)
  rw [M2_v] at w2
  refine w2.mono ?_ (fun x m' h => h.elim)
  rintro d m2 ⟨rfl, k2⟩
  simp
  exact q m2 ((k1.trans Kp.app).trans k2)
theorem bn10_ok {h : Nat} {as : List Nat} (H : HistAt m h h6 as) (q : ∀ m', Kp [] m m' → Q (.nx [some endV, some (askT 6), x2, x3, x4, x5, some (.ref h), x7]) m') : MI.W (bn10 (Tab (k + 50)) [some endV, some (askT 6), x2, x3, x4, x5, some (.ref h), x7] m) Q Ex := by
  unfold bn10
  have sz : ∀ n, n ≤ 3000 → n ≤ sizeLine := fun n h => szl h
  obtain ⟨told, hp, tl⟩ := play6
  have w1 := run_good (k := k + 1) M1_ok M1_z H h6_c (by simp [h6]) hp
  rw [M1_v, show k + 1 + 49 = k + 50 by omega] at w1
  simp [-List.reduceReplicate, W_mulB_big, sz 3 (by omega), sz 2 (by omega), sz 1 (by omega), sz 0 (by omega)]
  refine w1.mono ?_ (fun x m' h => h.elim)
  rintro d m1 ⟨aT, L, les, rfl, lo1, hT, A, k1⟩
  have ll : L.length = 2 := by rw [A.l1, tl]
  simp [-List.reduceReplicate, hT, ll, W_mulB_big, sz 3 (by omega), sz 2 (by omega), sz 1 (by omega), sz 0 (by omega)]
  have w2 := word_nil M3_ok M3_z (k := k) (h := m1.length) (m := m1 ++ [.lst []]) (by simp)
  rw [M3_v] at w2
  refine w2.mono ?_ (fun x m' h => h.elim)
  rintro d m2 ⟨rfl, k2⟩
  simp
  exact q m2 ((k1.trans Kp.app).trans k2)
theorem bn11_ok (q : Q (.nx [some endV, x1, x2, some deepX, x4, x5, x6, x7]) m) : MI.W (bn11 (Tab (k + 50)) [some endV, x1, x2, some (deepT 29), x4, x5, x6, x7] m) Q Ex := by
  unfold bn11
  have sz : ∀ n, n ≤ 3000 → n ≤ sizeLine := fun n h => szl h
  simp [sz 3 (by omega), sz 2 (by omega), sz 1 (by omega), sz 0 (by omega)]
  exact q
theorem bn12_ok (q : ∀ m', Kp [] m m' → Q (.nx [some endV, x1, x2, some deepX, x4, x5, x6, x7]) m') : MI.W (bn12 (Tab (k + 50)) [some endV, x1, x2, some deepX, x4, x5, x6, x7] m) Q Ex := by
  unfold bn12
  have sz : ∀ n, n ≤ 3000 → n ≤ sizeLine := fun n h => szl h
  simp [-List.reduceReplicate, W_mulB_big, sz 3 (by omega), sz 2 (by omega), sz 1 (by omega), sz 0 (by omega)]
  have w1 := word4 (k := k) (h := m.length) (m := m ++ [.lst []])
  unfold V4 at w1
  refine w1.mono ?_ (fun x m' h => h.elim)
  rintro d m1 ⟨rfl, k1⟩
  simp [-List.reduceReplicate, W_mulB_big, sz 3 (by omega), sz 2 (by omega), sz 1 (by omega), sz 0 (by omega)]
  have w2 := word5 (k := k) (h := m1.length) (m := m1 ++ [.lst []])
  unfold V5 at w2
  refine w2.mono ?_ (fun x m' h => h.elim)
  rintro d m2 ⟨rfl, k2⟩
  simp
  exact q m2 ((Kp.app.trans k1).trans (Kp.app.trans k2))
theorem bn13_ok (q : ∀ m', Kp [] m m' → Q (.rt (.bl true)) m') : MI.W (bn13 (Tab (k + 50)) [x0, x1, x2, x3, some fullV, some backV, x6, x7] m) Q Ex := by
  unfold bn13
  have sz : ∀ n, n ≤ 3000 → n ≤ sizeLine := fun n h => szl h
  simp [sz 3 (by omega), sz 2 (by omega), sz 1 (by omega), sz 0 (by omega)]
  have G : ∀ (r : List MO) (i : Nat), (m ++ r)[m.length + i]? = r[i]? := fun r i => at_app
  have G0 : ∀ (r : List MO), (m ++ r)[m.length]? = r[0]? := fun r => at_app (i := 0)
  have H : ∀ r : List MO, r.length = 6 → r[3]? = some (.lst []) → r[4]? = some (.lst []) → r[5]? = some (.lst [callV (["f"], []) (m.length + 3), callV (["t"], []) (m.length + 4)]) → HistAt (m ++ r) (m.length + 5) h2 [m.length + 3, m.length + 4] := fun r e e3 e4 e5 => by
    refine ⟨by rw [G, e5]; rfl, rfl, fun i c a z1 z2 => ?_⟩
    match i, z1, z2 with
    | 0, z1, z2 => cases z1; cases z2; rw [G, e3]; rfl
    | 1, z1, z2 => cases z1; cases z2; rw [G, e4]; rfl
    | i + 2, z1, z2 => simp [h2] at z1
  have T : ∀ r : List MO, r.length = 6 → r[0]? = some (.lst []) → r[1]? = some (.lst []) → ToldAt (m ++ r) m.length (m.length + 2) [.tup [.ref m.length, objP], .tup [.ref (m.length + 1), objP]] [([], objP), ([], objP)] [m.length, m.length + 1] := fun r e e0 e1 => by
    refine ⟨rfl, rfl, fun i E o l z1 z2 => ?_, by simp, fun l hl => ?_⟩
    · match i, z1, z2 with
      | 0, z1, z2 => cases z1; cases z2; exact ⟨rfl, by rw [G0, e0]⟩
      | 1, z1, z2 => cases z1; cases z2; exact ⟨rfl, by rw [G, e1]⟩
      | i + 2, z1, z2 => simp at z1
    · simp only [List.mem_cons, List.mem_nil_iff, or_false] at hl
      simp only [List.length_append, e]
      rcases hl with rfl | rfl <;> omega
  have smP : Sm 16 5 objP := ⟨by decide +kernel, by decide +kernel, by decide +kernel⟩
  have fin : ∀ r : List MO, r.length = 6 → r[0]? = some (.lst []) → r[1]? = some (.lst []) → r[2]? = some (.lst [.tup [.ref m.length, objP], .tup [.ref (m.length + 1), objP]]) → r[3]? = some (.lst []) → r[4]? = some (.lst []) → r[5]? = some (.lst [callV (["f"], []) (m.length + 3), callV (["t"], []) (m.length + 4)]) →
      MI.W ((Tab (k + 50)).f .run_machine [M6.v, .ref (m.length + 5)] (m ++ r)) (fun a m' => MI.W (gEqA false a (.ref (m.length + 2)) m') (fun d m' => Q (.rt d) m') (fun x m' => Q (.ex x [x0, x1, x2, x3, some fullV, some backV, x6, some (.ref (m.length + 2))]) m')) (fun x m' => Q (.ex x [x0, x1, x2, x3, some fullV, some backV, x6, some (.ref (m.length + 2))]) m') := fun r e e0 e1 e2 e3 e4 e5 => by
    have rg := run_good (k := k + 1) M6_ok M6_z (H r e e3 e4 e5) h2_c (by simp [h2]) play2
    rw [show k + 1 + 49 = k + 50 by omega] at rg
    refine rg.mono ?_ (fun x m' h => h.elim)
    rintro d m1 ⟨aT, L, les, rfl, lo1, hT, A, k1⟩
    refine W_eqTold A ((T r e e0 e1).kp (kps k1)) hT (k1.get (by rw [G, e2]) (by simp)) (fun p hp => ?_) (fun p hp => ?_) (by simp) ?_
    · simp only [List.mem_cons, List.mem_nil_iff, or_false] at hp
      rcases hp with rfl | rfl <;> exact ⟨by simp, smP⟩
    · simp only [List.mem_cons, List.mem_nil_iff, or_false] at hp
      rcases hp with rfl | rfl <;> simp
    · exact q m1 (Kp.app.trans k1)
  rw [M6_v] at fin
  exact fin _ rfl rfl rfl rfl rfl rfl rfl
theorem bounds_ok : MI.W ((Tab (k + 51)).f .l_bounds [] m) (fun d m' => d = .bl true ∧ Kp [] m m') E0 := by
  have e1 : (Tab (k + 51)).f .l_bounds = f_l_bounds (Tab (k + 50)) := rfl
  rw [e1]
  unfold f_l_bounds
  rw [b_bn, W_end, W_seq]
  refine bn1_ok ?_
  show MI.W (mSeq _ _ _ m) _ _
  rw [W_seq]
  refine bn2_ok ?_
  show MI.W (mSeq _ _ _ m) _ _
  rw [W_seq]
  refine bn3_ok fun y2 => ?_
  show MI.W (mSeq _ _ _ m) _ _
  rw [W_seq]
  refine bn4_ok ?_
  show MI.W (mSeq _ _ _ m) _ _
  rw [W_seq]
  refine bn5_ok fun z2 => ?_
  show MI.W (mSeq _ _ _ m) _ _
  rw [W_seq]
  refine bn6_ok ?_
  show MI.W (mSeq _ _ _ m) _ _
  rw [W_seq]
  refine bn7_ok ?_
  show MI.W (mSeq _ _ _ m) _ _
  rw [W_seq]
  refine bn8_ok fun h as m1 H k1 => ?_
  show MI.W (mSeq _ _ _ m1) _ _
  rw [W_seq]
  refine bn9_ok (k := k) H fun m2 k2 => ?_
  show MI.W (mSeq _ _ _ m2) _ _
  rw [W_seq]
  refine bn10_ok (k := k) (H.kp k2) fun m3 k3 => ?_
  show MI.W (mSeq _ _ _ m3) _ _
  rw [W_seq]
  refine bn11_ok (k := k) ?_
  show MI.W (mSeq _ _ _ m3) _ _
  rw [W_seq]
  refine bn12_ok (k := k) fun m4 k4 => ?_
  show MI.W (bn13 _ _ m4) _ _
  refine bn13_ok (k := k) fun m5 k5 => ?_
  exact ⟨rfl, (((k1.trans k2).trans k3).trans k4).trans k5⟩
theorem law_ok {ns : List Int} : MI.W ((Tab (k + 52)).f .law [.kl (ns.map .int)] []) (fun d _ => d = .bl true) E0 := by
  have := law_of (k := k + 1) (ns := ns) (m := []) fun m => by
    have := bounds_ok (k := k) (m := m)
    rw [show k + 1 + 50 = k + 51 by omega]
    exact this
  rw [show k + 52 = k + 1 + 51 by omega]
  exact this
end
end K51
set_option maxHeartbeats 4000000
namespace K51
open PySem L2 MI
theorem W_out {α : Type} {r : Re α} {Q : α → Mem → Prop} (h : MI.W r Q E0) : ∃ d m, r = .ok d m ∧ Q d m := by with_unfolding_all
  cases r with
  | ok d m => exact ⟨d, m, rfl, h⟩
  | ex x m => exact h.elim
  | stuck => exact h.elim
theorem tab_law {T : Tabl} {ns : List Int} (h : MI.W (T.f .law [.kl (ns.map .int)] []) (fun d _ => d = .bl true) E0) : ∃ m', T.f .law [.kl (ns.map .int)] [] = .ok (.bl true) m' := by
  obtain ⟨d, m', e, rfl⟩ := W_out h
  exact ⟨m', e⟩
theorem law_true : ∀ ns : List Int, ns.length ≤ 63 → (∀ z ∈ ns, Builtin.Int.intBits z ≤ 1048576) → ∃ m', (Tab 220).f .law [.kl (ns.map .int)] [] = .ok (.bl true) m' := by
  intro ns _ _
  have h : ∀ n, n = 168 + 52 → ∃ m', (Tab n).f .law [.kl (ns.map .int)] [] = .ok (.bl true) m' := by
    intro n e
    rw [e]
    exact tab_law (law_ok (k := 168))
  exact h 220 rfl
end K51
open PySem PySem.W PyProof.Rows
set_option maxRecDepth 100000 in
set_option maxHeartbeats 0 in
theorem PySem.Challenge.cw_keptops_k51_machines_holds : PySem.Challenge.rw_keptops_k51_machines.Holds := by
  w_on; o_law; k_head; (case hw => w_witness2)
  k_fill
  refine MI.walkMW K51.nms (l := PySem.Challenge.rw_keptops_k51_machines) (k := MI.lv 220) (x := "_law_script") (F := (K51.Tab 220).f .law) (fun _ _ => rfl) rfl rfl ⟨rfl, by decide, by decide⟩ (fun w h Y => by first | exact PySem.W.kIn_of Y | exact PySem.W.km_in_of Y) ?G K51.law_true
  case G =>
    intro w mg fa h KX G hmg
    letI : MI.Nms := K51.nms w
    refine Exists.elim (K51.law_at (cs := []) ?D ?T ?B 219 hmg) fun fd z => ⟨fd, z.1, fun base => z.2 base (fun _ hp => nomatch hp)⟩
    case D =>
      refine ⟨?d0, ?d1, ?d2, ?d3, ?d4, ?d5, ?d6, ?d7, ?d8, ?d9, ?d10, ?d11, ?d12, ?d13, ?d14, ?d15, ?d16, ?d17, ?d18, ?d19, ?d20, ?d21, ?d22, ?d23, ?d24, ?d25, ?d26, ?d27, ?d28, ?d29, ?d30, ?d31, ?d32, ?d33, ?d34, ?d35, ?d36⟩
      (case d0 => refine' MI.def_mk KX G ?a ?l ?c ?k (fun _ _ _ _ _ _ us hl => match us, hl with | [_], _ => rfl); (case a => k_is); (case l => k_is); (case c => k_is); (case k => k_is))
      (case d1 => refine' MI.def_mk KX G ?a ?l ?c ?k (fun _ _ _ _ _ _ us hl => match us, hl with | [_], _ => rfl); (case a => k_is); (case l => k_is); (case c => k_is); (case k => k_is))
      (case d2 => refine' MI.def_mk KX G ?a ?l ?c ?k (fun _ _ _ _ _ _ us hl => match us, hl with | [_, _], _ => rfl); (case a => k_is); (case l => k_is); (case c => k_is); (case k => k_is))
      (case d3 => refine' MI.def_mk KX G ?a ?l ?c ?k (fun _ _ _ _ _ _ us hl => match us, hl with | [_, _], _ => rfl); (case a => k_is); (case l => k_is); (case c => k_is); (case k => k_is))
      (case d4 => refine' MI.def_mk KX G ?a ?l ?c ?k (fun _ _ _ _ _ _ us hl => match us, hl with | [_, _], _ => rfl); (case a => k_is); (case l => k_is); (case c => k_is); (case k => k_is))
      (case d5 => refine' MI.def_mk KX G ?a ?l ?c ?k (fun _ _ _ _ _ _ us hl => match us, hl with | [_, _], _ => rfl); (case a => k_is); (case l => k_is); (case c => k_is); (case k => k_is))
      (case d6 => refine' MI.def_mk KX G ?a ?l ?c ?k (fun _ _ _ _ _ _ us hl => match us, hl with | [_], _ => rfl); (case a => k_is); (case l => k_is); (case c => k_is); (case k => k_is))
      (case d7 => refine' MI.def_mk KX G ?a ?l ?c ?k (fun _ _ _ _ _ _ us hl => match us, hl with | [_], _ => rfl); (case a => k_is); (case l => k_is); (case c => k_is); (case k => k_is))
      (case d8 => refine' MI.def_mk KX G ?a ?l ?c ?k (fun _ _ _ _ _ _ us hl => match us, hl with | [_, _], _ => rfl); (case a => k_is); (case l => k_is); (case c => k_is); (case k => k_is))
      (case d9 => refine' MI.def_mk KX G ?a ?l ?c ?k (fun _ _ _ _ _ _ us hl => match us, hl with | [_, _, _, _], _ => rfl); (case a => k_is); (case l => k_is); (case c => k_is); (case k => k_is))
      (case d10 => refine' MI.def_mk KX G ?a ?l ?c ?k (fun _ _ _ _ _ _ us hl => match us, hl with | [_, _], _ => rfl); (case a => k_is); (case l => k_is); (case c => k_is); (case k => k_is))
      (case d11 => refine' MI.def_mk KX G ?a ?l ?c ?k (fun _ _ _ _ _ _ us hl => match us, hl with | [_, _, _], _ => rfl); (case a => k_is); (case l => k_is); (case c => k_is); (case k => k_is))
      (case d12 => refine' MI.def_mk KX G ?a ?l ?c ?k (fun _ _ _ _ _ _ us hl => match us, hl with | [_, _, _], _ => rfl); (case a => k_is); (case l => k_is); (case c => k_is); (case k => k_is))
      (case d13 => refine' MI.def_mk KX G ?a ?l ?c ?k (fun _ _ _ _ _ _ us hl => match us, hl with | [_, _, _, _], _ => rfl); (case a => k_is); (case l => k_is); (case c => k_is); (case k => k_is))
      (case d14 => refine' MI.def_mk KX G ?a ?l ?c ?k (fun _ _ _ _ _ _ us hl => match us, hl with | [_, _, _], _ => rfl); (case a => k_is); (case l => k_is); (case c => k_is); (case k => k_is))
      (case d15 => refine' MI.def_mk KX G ?a ?l ?c ?k (fun _ _ _ _ _ _ us hl => match us, hl with | [_, _, _], _ => rfl); (case a => k_is); (case l => k_is); (case c => k_is); (case k => k_is))
      (case d16 => refine' MI.def_mk KX G ?a ?l ?c ?k (fun _ _ _ _ _ _ us hl => match us, hl with | [_, _], _ => rfl); (case a => k_is); (case l => k_is); (case c => k_is); (case k => k_is))
      (case d17 => refine' MI.def_mk KX G ?a ?l ?c ?k (fun _ _ _ _ _ _ us hl => match us, hl with | [_], _ => rfl); (case a => k_is); (case l => k_is); (case c => k_is); (case k => k_is))
      (case d18 => refine' MI.def_mk KX G ?a ?l ?c ?k (fun _ _ _ _ _ _ us hl => match us, hl with | [_, _], _ => rfl); (case a => k_is); (case l => k_is); (case c => k_is); (case k => k_is))
      (case d19 => refine' MI.def_mk KX G ?a ?l ?c ?k (fun _ _ _ _ _ _ us hl => match us, hl with | [_, _], _ => rfl); (case a => k_is); (case l => k_is); (case c => k_is); (case k => k_is))
      (case d20 => refine' MI.def_mk KX G ?a ?l ?c ?k (fun _ _ _ _ _ _ us hl => match us, hl with | [_, _], _ => rfl); (case a => k_is); (case l => k_is); (case c => k_is); (case k => k_is))
      (case d21 => refine' MI.def_mk KX G ?a ?l ?c ?k (fun _ _ _ _ _ _ us hl => match us, hl with | [_, _], _ => rfl); (case a => k_is); (case l => k_is); (case c => k_is); (case k => k_is))
      (case d22 => refine' MI.def_mk KX G ?a ?l ?c ?k (fun _ _ _ _ _ _ us hl => match us, hl with | [_, _, _, _], _ => rfl); (case a => k_is); (case l => k_is); (case c => k_is); (case k => k_is))
      (case d23 => refine' MI.def_mk KX G ?a ?l ?c ?k (fun _ _ _ _ _ _ us hl => match us, hl with | [_, _], _ => rfl); (case a => k_is); (case l => k_is); (case c => k_is); (case k => k_is))
      (case d24 => refine' MI.def_mk KX G ?a ?l ?c ?k (fun _ _ _ _ _ _ us hl => match us, hl with | [_, _, _, _], _ => rfl); (case a => k_is); (case l => k_is); (case c => k_is); (case k => k_is))
      (case d25 => refine' MI.def_mk KX G ?a ?l ?c ?k (fun _ _ _ _ _ _ us hl => match us, hl with | [_, _, _, _], _ => rfl); (case a => k_is); (case l => k_is); (case c => k_is); (case k => k_is))
      (case d26 => refine' MI.def_mk KX G ?a ?l ?c ?k (fun _ _ _ _ _ _ us hl => match us, hl with | [_, _, _, _], _ => rfl); (case a => k_is); (case l => k_is); (case c => k_is); (case k => k_is))
      (case d27 => refine' MI.def_mk KX G ?a ?l ?c ?k (fun _ _ _ _ _ _ us hl => match us, hl with | [_, _, _, _, _], _ => rfl); (case a => k_is); (case l => k_is); (case c => k_is); (case k => k_is))
      (case d28 => refine' MI.def_mk KX G ?a ?l ?c ?k (fun _ _ _ _ _ _ us hl => match us, hl with | [_], _ => rfl); (case a => k_is); (case l => k_is); (case c => k_is); (case k => k_is))
      (case d29 => refine' MI.def_mk KX G ?a ?l ?c ?k (fun _ _ _ _ _ _ us hl => match us, hl with | [_, _], _ => rfl); (case a => k_is); (case l => k_is); (case c => k_is); (case k => k_is))
      (case d30 => refine' MI.def_mk KX G ?a ?l ?c ?k (fun _ _ _ _ _ _ us hl => match us, hl with | [], _ => rfl); (case a => k_is); (case l => k_is); (case c => k_is); (case k => k_is))
      (case d31 => refine' MI.def_mk KX G ?a ?l ?c ?k (fun _ _ _ _ _ _ us hl => match us, hl with | [_], _ => rfl); (case a => k_is); (case l => k_is); (case c => k_is); (case k => k_is))
      (case d32 => refine' MI.ini_mk KX G ?a ?i ?fn ?mk ?kp ?l ?c ?k (fun _ _ _ _ _ _ us hl => match us, hl with | [_, _, _, _], _ => rfl); (case a => k_is); (case i => k_is); (case fn => k_is); (case mk => k_is); (case kp => k_is); (case l => k_is); (case c => k_is); (case k => k_is))
      (case d33 => refine' MI.ini_mk KX G ?a ?i ?fn ?mk ?kp ?l ?c ?k (fun _ _ _ _ _ _ us hl => match us, hl with | [_, _, _, _, _], _ => rfl); (case a => k_is); (case i => k_is); (case fn => k_is); (case mk => k_is); (case kp => k_is); (case l => k_is); (case c => k_is); (case k => k_is))
      (case d34 => refine' MI.mth_mk ?a ?i ?fn ?pg ?hd ?po ?sa ?l ?c ?k (fun _ _ _ _ _ _ us hl => match us, hl with | [_, _], _ => rfl); (case a => k_is); (case i => k_is); (case fn => k_is); (case pg => k_is); (case hd => k_is); (case po => k_is); (case sa => k_is); (case l => k_is); (case c => k_is); (case k => k_is))
      (case d35 => refine' MI.mth_mk ?a ?i ?fn ?pg ?hd ?po ?sa ?l ?c ?k (fun _ _ _ _ _ _ us hl => match us, hl with | [_, _], _ => rfl); (case a => k_is); (case i => k_is); (case fn => k_is); (case pg => k_is); (case hd => k_is); (case po => k_is); (case sa => k_is); (case l => k_is); (case c => k_is); (case k => k_is))
      (case d36 => refine' MI.mth_mk ?a ?i ?fn ?pg ?hd ?po ?sa ?l ?c ?k (fun _ _ _ _ _ _ us hl => match us, hl with | [_, _], _ => rfl); (case a => k_is); (case i => k_is); (case fn => k_is); (case pg => k_is); (case hd => k_is); (case po => k_is); (case sa => k_is); (case l => k_is); (case c => k_is); (case k => k_is))
    case T =>
      refine ⟨?t0, ?t1, ?t2, ?t3, ?t4, ?t5, ?t6, ?t7, ?t8, ?t9, ?t10, ?t11, ?t12, ?t13, ?t14, ?t15, ?t16, ?t17, ?t18, ?t19, ?t20, ?t21, ?t22, ?t23, ?t24, ?t25, ?t26, ?t27, ?t28, ?t29, ?t30, ?t31, ?t32, ?t33, ?t34, ?t35, ?t36, ?t37⟩
      (case t0 => exact rfl)
      (case t1 => (refine' PySem.W.mg_none_of KX G ?a; (case a => k_is)))
      (case t2 => (refine' PySem.W.mg_none_of KX G ?a; (case a => k_is)))
      (case t3 => (refine' PySem.W.mg_none_of KX G ?a; (case a => k_is)))
      (case t4 => (refine' PySem.W.mg_none_of KX G ?a; (case a => k_is)))
      (case t5 => (refine' PySem.W.mg_none_of KX G ?a; (case a => k_is)))
      (case t6 => (refine' PySem.W.mg_none_of KX G ?a; (case a => k_is)))
      (case t7 => (refine' PySem.W.mg_none_of KX G ?a; (case a => k_is)))
      (case t8 => (refine' PySem.W.mg_none_of KX G ?a; (case a => k_is)))
      (case t9 => (refine' PySem.W.mg_none_of KX G ?a; (case a => k_is)))
      (case t10 => (refine' PySem.W.mg_none_of KX G ?a; (case a => k_is)))
      (case t11 => (refine' PySem.W.mg_none_of KX G ?a; (case a => k_is)))
      (case t12 => (refine' PySem.W.mg_none_of KX G ?a; (case a => k_is)))
      (case t13 => (refine' MI.con_any 3 KX G ?a ?e; (case a => k_is); (case e => rfl)))
      (case t14 => (refine' MI.con_any 3 KX G ?a ?e; (case a => k_is); (case e => rfl)))
      (case t15 => (refine' MI.con_any 3 KX G ?a ?e; (case a => k_is); (case e => rfl)))
      (case t16 => (refine' MI.con_any 3 KX G ?a ?e; (case a => k_is); (case e => rfl)))
      (case t17 => (refine' MI.con_any 3 KX G ?a ?e; (case a => k_is); (case e => rfl)))
      (case t18 => (refine' MI.con_any 3 KX G ?a ?e; (case a => k_is); (case e => rfl)))
      (case t19 => (refine' MI.con_any 3 KX G ?a ?e; (case a => k_is); (case e => rfl)))
      (case t20 => (refine' MI.con_any 3 KX G ?a ?e; (case a => k_is); (case e => rfl)))
      (case t21 => (refine' MI.con_any 3 KX G ?a ?e; (case a => k_is); (case e => rfl)))
      (case t22 => (refine' MI.con_any 3 KX G ?a ?e; (case a => k_is); (case e => rfl)))
      (case t23 => (refine' MI.con_any 3 KX G ?a ?e; (case a => k_is); (case e => rfl)))
      (case t24 => (refine' MI.con_any 3 KX G ?a ?e; (case a => k_is); (case e => rfl)))
      (case t25 => (refine' MI.tupC_mk KX G ?a ?e; (case a => k_is); (case e => rfl)))
      (case t26 => (refine' MI.exf_mk KX G ?a ?b ?c ?d ?e; (case a => k_is); (case b => k_exc); (case c => k_is); (case d => k_is); (case e => k_is)))
      (case t27 => (refine' MI.exf_mk KX G ?a ?b ?c ?d ?e; (case a => k_is); (case b => k_exc); (case c => k_is); (case d => k_is); (case e => k_is)))
      (case t28 => (refine' MI.hnd_mk KX G ?a ?e; (case a => k_is); (case e => rfl)))
      (case t29 => (refine' MI.isx_own KX G ?a ?e; (case a => k_is); (case e => rfl)))
      (case t30 => (refine' MI.isx_own KX G ?a ?e; (case a => k_is); (case e => rfl)))
      (case t31 => (refine' MI.fld_mk ?a ?pg ?hd ?po ?sa ?n; (case a => k_is); (case pg => k_is); (case hd => k_is); (case po => k_is); (case sa => k_is); (case n => k_is)))
      (case t32 => (refine' MI.fld_mk ?a ?pg ?hd ?po ?sa ?n; (case a => k_is); (case pg => k_is); (case hd => k_is); (case po => k_is); (case sa => k_is); (case n => k_is)))
      (case t33 => (refine' MI.fld_mk ?a ?pg ?hd ?po ?sa ?n; (case a => k_is); (case pg => k_is); (case hd => k_is); (case po => k_is); (case sa => k_is); (case n => k_is)))
      (case t34 => (refine' MI.fld_mk ?a ?pg ?hd ?po ?sa ?n; (case a => k_is); (case pg => k_is); (case hd => k_is); (case po => k_is); (case sa => k_is); (case n => k_is)))
      (case t35 => (refine' MI.fld_mk ?a ?pg ?hd ?po ?sa ?n; (case a => k_is); (case pg => k_is); (case hd => k_is); (case po => k_is); (case sa => k_is); (case n => k_is)))
      (case t36 => (refine' MI.fld_mk ?a ?pg ?hd ?po ?sa ?n; (case a => k_is); (case pg => k_is); (case hd => k_is); (case po => k_is); (case sa => k_is); (case n => k_is)))
      (case t37 => (refine' MI.fld_mk ?a ?pg ?hd ?po ?sa ?n; (case a => k_is); (case pg => k_is); (case hd => k_is); (case po => k_is); (case sa => k_is); (case n => k_is)))
    case B =>
      intro base tb
      refine ⟨⟩
