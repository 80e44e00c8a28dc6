import PyProof.Rows.All
import Wide.All
import OpenK.AllK
import Wide.FinOn
import HandS.ForMost
import HandS.IsInst
import HandS.Wide
import HandS.TupAny
import HandS.TupMul
import HandS.WideBits
import HandS.Flow
import HandS.ExcCtx
import HandS.ExcInit
import HandS.ExcIs
import HandS.ExcField
import HandS.WordsExc
import HandS.CallSlots
import HandS.Style
import HandS.Walk
import HandS.Zip
import KE.GoesMore
import HandS.NoneIn
import HandS.EndBits
import PyProof.ListStr
import HandS.Conv
import HandS.Iter
import HandS.SortKw
import KE.DataMinKey
import KE.KExcIs
import KE.KExcInit
import KE.SortData
import HandS.Set
import HandS.Strs
import HandS.SetFor
import HandS.Replace
import PyProof.TupleOfStr
import HandS.StrMore
import Wide.Txt
import PyProof.StrLawsIn
import PySem.Challenge.RW_mirrordoors_k43_needless_doors_and_free
section
set_option Elab.async false
set_option linter.all false
set_option maxRecDepth 100000
/-! Core1: plain data over the abstract heap; a reading by a plain function. -/
namespace MD
open PySem PySem.Spec PyProof.Rows L2

abbrev D := PyData
/-- the one list that draws change -/
abbrev boxD : D := .dict []
/-- a list that is only read -/
abbrev rolD (ds : List D) : D := .dict [(.none, .list ds)]
abbrev Bx := Option (Int × Int × Int)
abbrev M (α : Type) := Bx → Option (α × Bx)
abbrev Ev := List (Option D)

/-- an exception object that was raised once, of the class at C, d its dict -/
abbrev ExT (a C : Addr) (d : Option Addr) : HO := .ext fun h => ∃ (oe : Obj) (vs : Array Value), h.get? a = some oe ∧ (oe.cls = .ref C ∧ oe.dict = d) ∧ oe.data = .fields vs
theorem exT_ok {P : Program} {w : World} {H : Hp} {h : Heap} {a C : Addr} {d : Option Addr} {oe : Obj} {vs : Array Value} (e : h.get? a = some oe) (z : oe.cls = .ref C ∧ oe.dict = d) (f : oe.data = .fields vs) : ObjOk P w H h a (ExT a C d) :=
  ⟨⟨oe, vs, e, z, f⟩, ⟨oe, e⟩, fun _ _ ⟨o, v, q, r⟩ k => ⟨o, v, k o q, r⟩⟩
theorem exT_at {P : Program} {w : World} {H : Hp} {h : Heap} {a C : Addr} {d : Option Addr} (ok : HOk P w H h) (e : H a = some (ExT a C d)) : ∃ (oe : Obj) (vs : Array Value), h.get? a = some oe ∧ (oe.cls = .ref C ∧ oe.dict = d) ∧ oe.data = .fields vs := by
  have x := ok a _ e
  exact x.1
/-- a plain value as data -/
def sclr : V → Option D
  | .non => some .none
  | .bl b => some (.bool b)
  | .int i => some (.int i)
  | .str s => some (.str s)
  | _ => none
/-- an exception's fields -/
def ExF (H : Hp) (d : Option Addr) (ds : List (D × D)) : Prop := (d = none ∧ ds = []) ∨ ∃ dx f v u, d = some dx ∧ H dx = some (.xd [(f, v)]) ∧ sclr v = some u ∧ ds = [(.str f, u)]
abbrev excD (x : Str) (ds : List (D × D)) : D := .dict ((.bool true, .str x) :: ds)

abbrev dctD (ks ds : List D) : D := .dict [(.list ks, .list ds)]
/-- a dict's key as data -/
def kD : Key → D
  | .inl i => .int i
  | .inr x => .str x
mutual
inductive Rp (K : PySem.W.Frag) (β : Option Addr) (O : Addr → Prop) (H : Hp) : V → D → Prop
  | non : Rp K β O H .non .none
  | bl (b : Bool) : Rp K β O H (.bl b) (.bool b)
  | int (i : Int) : Rp K β O H (.int i) (.int i)
  | str (x : Str) : Rp K β O H (.str x) (.str x)
  | lst {a : Addr} {xs : List V} {ds : List D} : H a = some (.lst xs) → ¬ O a → RpA K β O H xs ds → Rp K β O H (.ref a) (.list ds)
  | tup {a : Addr} {xs : List V} {ds : List D} : H a = some (.tup xs) → RpA K β O H xs ds → Rp K β O H (.ref a) (.tuple ds)
  | box {a : Addr} : β = some a → Rp K β O H (.ref a) (.dict [])
  | rolT {a : Addr} {xs : List V} {ds : List D} : Rd H a (.lst xs) → ¬ O a → RpA K β O H xs ds → Rp K β O H (.ref a) (.dict [(.none, .list ds)])
  | rolW {a : Addr} {xs : List V} {ds : List D} : (∀ H, SqL K H a xs) → RpA K β O H xs ds → Rp K β O H (.ref a) (.dict [(.none, .list ds)])
  | exc {a C : Addr} {x : Str} {d : Option Addr} {ds : List (D × D)} : PySem.W.nsIn K mainGlobals x = some (some (.ref C)) → H a = some (ExT a C d) → ExF H d ds → Rp K β O H (.ref a) (.dict ((.bool true, .str x) :: ds))
  | dct {a : Addr} {kvs : List (Key × V)} {ks ds : List D} : H a = some (.dK kvs) → ¬ O a → ks = kvs.map (fun kv => kD kv.1) → RpA K β O H (kvs.map Prod.snd) ds → Rp K β O H (.ref a) (.dict [(.list ks, .list ds)])
inductive RpA (K : PySem.W.Frag) (β : Option Addr) (O : Addr → Prop) (H : Hp) : List V → List D → Prop
  | nil : RpA K β O H [] []
  | cons {v : V} {vs : List V} {d : D} {ds : List D} : Rp K β O H v d → RpA K β O H vs ds → RpA K β O H (v :: vs) (d :: ds)
end

def bO (β : Option Addr) (q : Addr) : Prop := β = some q
/-- all is kept but the lists and dicts at O -/
def MutB : HO → Bool
  | .lst _ | .dK _ => true
  | _ => false
def Kp (O : Addr → Prop) (H H' : Hp) : Prop := ∀ q o, H q = some o → (O q → MutB o = false) → H' q = some o
theorem Kp.refl {O : Addr → Prop} {H : Hp} : Kp O H H := fun _ _ h _ => h
theorem Kp.trans {O : Addr → Prop} {H H1 H2 : Hp} (a : Kp O H H1) (b : Kp O H1 H2) : Kp O H H2 := fun q o h n => b q o (a q o h n) n
theorem Kp.mono {O O' : Addr → Prop} {H H1 : Hp} (a : Kp O H H1) (h : ∀ q, O q → O' q) : Kp O' H H1 := fun q o e n => a q o e fun z => n (h q z)
theorem Kp.same {O : Addr → Prop} {H H1 : Hp} (a : Same H H1) : Kp O H H1 := fun q o e _ => a q o e
theorem Kp.new {O : Addr → Prop} {H : Hp} {p : Addr} {o : HO} (h : H p = none) : Kp O H (upd H p o) := fun q u e _ => by
  rw [upd_ne (ne_of_none e h)]; exact e

section
variable {K : PySem.W.Frag} {β : Option Addr} {O O' : Addr → Prop} {H H' : Hp}
theorem Rd.kp {a : Addr} {xs : List V} (k : Kp O H H') (n : ¬ O a) (h : Rd H a (.lst xs)) : Rd H' a (.lst xs) := by
  rcases h with h | ⟨o, h⟩
  · exact .inl (k _ _ h fun z => (n z).elim)
  · exact .inr ⟨o, k _ _ h fun z => (n z).elim⟩
theorem Rd.there {a : Addr} {u : HO} (h : Rd H a u) : ∃ o, H a = some o := by
  rcases h with h | ⟨o, h⟩ <;> exact ⟨_, h⟩
theorem ExF.kp {d : Option Addr} {ds : List (D × D)} (k : Kp O H H') (h : ExF H d ds) : ExF H' d ds := by
  rcases h with h | ⟨dx, f, v, u, h1, h2, h3⟩
  · exact .inl h
  · exact .inr ⟨dx, f, v, u, h1, k _ _ h2 (fun _ => rfl), h3⟩
mutual
theorem Rp.map (k : Kp O H H') (ho : ∀ q o, H q = some o → ¬ O q → ¬ O' q) : ∀ (d : D) (v : V), Rp K β O H v d → Rp K β O' H' v d
  | .none, _, h => by cases h; exact .non
  | .bool _, _, h => by cases h; exact .bl _
  | .int _, _, h => by cases h; exact .int _
  | .str _, _, h => by cases h; exact .str _
  | .list ds, _, h => by
    cases h with
    | lst a b c => exact .lst (k _ _ a fun z => (b z).elim) (ho _ _ a b) (RpA.map k ho _ _ c)
  | .tuple ds, _, h => by
    cases h with
    | tup a c => exact .tup (k _ _ a fun _ => rfl) (RpA.map k ho _ _ c)
  | .dict [], _, h => by
    cases h with
    | box e => exact .box e
  | .dict ((.none, .list ds) :: r), _, h => by
    cases h with
    | rolT a b c =>
      obtain ⟨o, e⟩ := Rd.there a
      exact .rolT (Rd.kp k b a) (ho _ _ e b) (RpA.map k ho _ _ c)
    | rolW a c => exact .rolW a (RpA.map k ho _ _ c)
  | .dict ((.bool _, _) :: _), _, h => by
    cases h with
    | exc a b c => exact .exc a (k _ _ b fun _ => rfl) (c.kp k)
  | .dict ((.int _, _) :: _), _, h => by cases h
  | .dict ((.str _, _) :: _), _, h => by cases h
  | .dict ((.list ks, .list ds) :: r), _, h => by
    cases h with
    | dct a n b c => exact .dct (k _ _ a fun z => (n z).elim) (ho _ _ a n) b (RpA.map k ho _ _ c)
  | .dict ((.list _, .none) :: _), _, h => by cases h
  | .dict ((.list _, .bool _) :: _), _, h => by cases h
  | .dict ((.list _, .int _) :: _), _, h => by cases h
  | .dict ((.list _, .str _) :: _), _, h => by cases h
  | .dict ((.list _, .tuple _) :: _), _, h => by cases h
  | .dict ((.list _, .dict _) :: _), _, h => by cases h
  | .dict ((.tuple _, _) :: _), _, h => by cases h
  | .dict ((.dict _, _) :: _), _, h => by cases h
  | .dict ((.none, .none) :: _), _, h => by cases h
  | .dict ((.none, .bool _) :: _), _, h => by cases h
  | .dict ((.none, .int _) :: _), _, h => by cases h
  | .dict ((.none, .str _) :: _), _, h => by cases h
  | .dict ((.none, .tuple _) :: _), _, h => by cases h
  | .dict ((.none, .dict _) :: _), _, h => by cases h
theorem RpA.map (k : Kp O H H') (ho : ∀ q o, H q = some o → ¬ O q → ¬ O' q) : ∀ (ds : List D) (vs : List V), RpA K β O H vs ds → RpA K β O' H' vs ds
  | [], _, h => by cases h; exact .nil
  | d :: ds, _, h => by
    cases h with
    | cons a b => exact .cons (Rp.map k ho _ _ a) (RpA.map k ho _ _ b)
end
theorem Rp.kp {v : V} {d : D} (h : Rp K β O H v d) (k : Kp O H H') : Rp K β O H' v d := Rp.map k (fun _ _ _ n => n) _ _ h
theorem RpA.kp {vs : List V} {ds : List D} (h : RpA K β O H vs ds) (k : Kp O H H') : RpA K β O H' vs ds := RpA.map k (fun _ _ _ n => n) _ _ h
theorem Rp.less {v : V} {d : D} (h : Rp K β O H v d) (l : ∀ q, O' q → O q) : Rp K β O' H v d := Rp.map Kp.refl (fun q _ _ n z => n (l q z)) _ _ h
theorem RpA.less {v : List V} {d : List D} (h : RpA K β O H v d) (l : ∀ q, O' q → O q) : RpA K β O' H v d := RpA.map Kp.refl (fun q _ _ n z => n (l q z)) _ _ h
/-- what an own slot's object is -/
inductive OwnR (K : PySem.W.Frag) (β : Option Addr) (O : Addr → Prop) (H : Hp) : HO → D → Prop
  | lst {vs : List V} {ds : List D} : RpA K β O H vs ds → OwnR K β O H (.lst vs) (.list ds)
  | dct {kvs : List (Key × V)} {ks ds : List D} : ks = kvs.map (fun kv => kD kv.1) → RpA K β O H (kvs.map Prod.snd) ds → OwnR K β O H (.dK kvs) (dctD ks ds)
theorem OwnR.map {o : HO} {d : D} (k : Kp O H H') (ho : ∀ q o, H q = some o → ¬ O q → ¬ O' q) (h : OwnR K β O H o d) : OwnR K β O' H' o d := by
  cases h with
  | lst a => exact .lst (RpA.map k ho _ _ a)
  | dct e a => exact .dct e (RpA.map k ho _ _ a)
theorem OwnR.kp {o : HO} {d : D} (h : OwnR K β O H o d) (k : Kp O H H') : OwnR K β O H' o d := h.map k fun _ _ _ n => n
theorem OwnR.less {o : HO} {d : D} (h : OwnR K β O H o d) (l : ∀ q, O' q → O q) : OwnR K β O' H o d := h.map Kp.refl fun q _ _ n z => n (l q z)
theorem OwnR.rp {o : HO} {d : D} {p : Addr} (h : OwnR K β O H o d) (e : H p = some o) (n : ¬ O p) : Rp K β O H (.ref p) d := by
  cases h with
  | lst a => exact .lst e n a
  | dct b a => exact .dct e n b a
theorem RpA.length {vs : List V} : ∀ {ds : List D}, RpA K β O H vs ds → vs.length = ds.length := by
  induction vs with
  | nil => intro ds h; cases h; rfl
  | cons v vs ih =>
    intro ds h
    cases h with
    | cons a b => simp [ih b]
theorem RpA.get {vs : List V} : ∀ {ds : List D} {i : Nat} {d : D}, RpA K β O H vs ds → ds[i]? = some d → ∃ v, vs[i]? = some v ∧ Rp K β O H v d := by
  induction vs with
  | nil => intro ds i d h e; cases h; simp at e
  | cons v vs ih =>
    intro ds i d h e
    cases h with
    | cons a b =>
      cases i with
      | zero => simp at e; subst e; exact ⟨v, rfl, a⟩
      | succ i => simp at e; obtain ⟨u, h1, h2⟩ := ih b e; exact ⟨u, by simpa using h1, h2⟩
theorem RpA.getV {vs : List V} : ∀ {ds : List D} {i : Nat} {v : V}, RpA K β O H vs ds → vs[i]? = some v → ∃ d, ds[i]? = some d ∧ Rp K β O H v d := by
  induction vs with
  | nil => intro ds i d h e; simp at e
  | cons v vs ih =>
    intro ds i d h e
    cases h with
    | cons a b =>
      cases i with
      | zero => simp at e; subst e; exact ⟨_, rfl, a⟩
      | succ i => simp at e; obtain ⟨u, h1, h2⟩ := ih b e; exact ⟨u, by simpa using h1, h2⟩
theorem RpA.append {vs us : List V} {ds es : List D} (h : RpA K β O H vs ds) (h' : RpA K β O H us es) : RpA K β O H (vs ++ us) (ds ++ es) := by
  induction vs generalizing ds with
  | nil => cases h; exact h'
  | cons v vs ih =>
    cases h with
    | cons a b => exact .cons a (ih b)
theorem RpA.drop {vs : List V} {ds : List D} (n : Nat) (h : RpA K β O H vs ds) : RpA K β O H (vs.drop n) (ds.drop n) := by
  induction n generalizing vs ds with
  | zero => exact h
  | succ n ih =>
    cases h with
    | nil => exact .nil
    | cons a b => exact ih b
theorem RpA.take {vs : List V} {ds : List D} (n : Nat) (h : RpA K β O H vs ds) : RpA K β O H (vs.take n) (ds.take n) := by
  induction n generalizing vs ds with
  | zero => simp; exact .nil
  | succ n ih =>
    cases h with
    | nil => exact .nil
    | cons a b => exact .cons a (ih b)
theorem RpA.set {vs : List V} {ds : List D} {v : V} {d : D} (n : Nat) (h : RpA K β O H vs ds) (r : Rp K β O H v d) : RpA K β O H (vs.set n v) (ds.set n d) := by
  induction n generalizing vs ds with
  | zero =>
    cases h with
    | nil => exact .nil
    | cons a b => exact .cons r b
  | succ n ih =>
    cases h with
    | nil => exact .nil
    | cons a b => exact .cons a (ih b)
theorem RpA.snoc {vs : List V} {ds : List D} {v : V} {d : D} (h : RpA K β O H vs ds) (r : Rp K β O H v d) : RpA K β O H (vs ++ [v]) (ds ++ [d]) := h.append (.cons r .nil)
theorem RpA.reverse {vs : List V} {ds : List D} (h : RpA K β O H vs ds) : RpA K β O H vs.reverse ds.reverse := by
  induction vs generalizing ds with
  | nil => cases h; exact .nil
  | cons v vs ih =>
    cases h with
    | cons a b => simp only [List.reverse_cons]; exact (ih b).append (.cons a .nil)
theorem RpA.flat {vs : List V} {ds : List D} (h : RpA K β O H vs ds) (n : Nat) : RpA K β O H (List.replicate n vs).flatten (List.replicate n ds).flatten := by
  induction n with
  | zero => exact .nil
  | succ n ih => simp only [List.replicate_succ, List.flatten_cons]; exact h.append ih

/-! ### what flat data are -/
mutual
def flat : D → Bool
  | .none | .bool _ | .int _ | .str _ => true
  | .tuple ds => flatA ds
  | _ => false
def flatA : List D → Bool
  | [] => true
  | d :: ds => flat d && flatA ds
end
mutual
theorem Rp.flatK (h' : ∀ q xs, H q = some (.tup xs) → H' q = some (.tup xs)) {O'} : ∀ (d : D) (v : V), Rp K β O H v d → flat d = true → Rp K β O' H' v d
  | .none, _, h, _ => by cases h; exact .non
  | .bool _, _, h, _ => by cases h; exact .bl _
  | .int _, _, h, _ => by cases h; exact .int _
  | .str _, _, h, _ => by cases h; exact .str _
  | .tuple ds, _, h, f => by
    cases h with
    | tup a c => exact .tup (h' _ _ a) (RpA.flatK h' _ _ c (by simpa [flat] using f))
  | .list ds, _, h, f => by simp [flat] at f
  | .dict ds, _, h, f => by simp [flat] at f
theorem RpA.flatK (h' : ∀ q xs, H q = some (.tup xs) → H' q = some (.tup xs)) {O'} : ∀ (ds : List D) (vs : List V), RpA K β O H vs ds → flatA ds = true → RpA K β O' H' vs ds
  | [], _, h, _ => by cases h; exact .nil
  | d :: ds, _, h, f => by
    cases h with
    | cons a b =>
      have f' : flat d = true ∧ flatA ds = true := by simpa [flatA] using f
      exact .cons (Rp.flatK h' _ _ a f'.1) (RpA.flatK h' _ _ b f'.2)
end
theorem Rp.flat {O'} {v : V} {d : D} (h : Rp K β O H v d) (f : MD.flat d = true) : Rp K β O' H v d := Rp.flatK (fun _ _ e => e) _ _ h f
theorem RpA.flatA {O'} {v : List V} {d : List D} (h : RpA K β O H v d) (f : MD.flatA d = true) : RpA K β O' H v d := RpA.flatK (fun _ _ e => e) _ _ h f

/-! ### as data to be compared -/
mutual
def noDict : D → Bool
  | .none | .bool _ | .int _ | .str _ => true
  | .tuple ds | .list ds => noDictA ds
  | .dict _ => false
def noDictA : List D → Bool
  | [] => true
  | d :: ds => noDict d && noDictA ds
end
mutual
theorem Rp.dp : ∀ (d : D) (v : V), Rp K β O H v d → noDict d = true → Dp K H v d
  | .none, _, h, _ => by cases h; exact .non
  | .bool _, _, h, _ => by cases h; exact .bl _
  | .int _, _, h, _ => by cases h; exact .int _
  | .str _, _, h, _ => by cases h; exact .str _
  | .tuple ds, _, h, f => by
    cases h with
    | tup a c => exact .tup (SqT.of a) (RpA.dp _ _ c (by simpa [noDict] using f))
  | .list ds, _, h, f => by
    cases h with
    | lst a b c => exact .lst (SqL.of a) (RpA.dp _ _ c (by simpa [noDict] using f))
  | .dict ds, _, h, f => by simp [noDict] at f
theorem RpA.dp : ∀ (ds : List D) (vs : List V), RpA K β O H vs ds → noDictA ds = true → DpAll K H vs ds
  | [], _, h, _ => by cases h; exact .nil
  | d :: ds, _, h, f => by
    cases h with
    | cons a b =>
      have f' : noDict d = true ∧ noDictA ds = true := by simpa [noDictA] using f
      exact .cons (Rp.dp _ _ a f'.1) (RpA.dp _ _ b f'.2)
end
end
end MD
end

section
set_option Elab.async false
set_option linter.all false
set_option maxRecDepth 100000
namespace MD
open PySem PySem.Spec PyProof.Rows L2

def BoxOk (β : Option Addr) (H : Hp) (bx : Bx) : Prop :=
  match β, bx with
  | none, none => True
  | some b, some (x, y, z) => H b = some (.lst [.int x, .int y, .int z])
  | _, _ => False
structure Pre (β : Option Addr) (O : Addr → Prop) (H : Hp) (bx : Bx) : Prop where
  occ : ∀ q, O q → ∃ o : HO, H q = some o
  bo : ∀ b, β = some b → O b
  box : BoxOk β H bx
theorem BoxOk.there {β H bx} (h : BoxOk β H bx) {b : Addr} (e : β = some b) : ∃ xs, H b = some (.lst xs) := by
  subst e
  unfold BoxOk at h
  match bx, h with
  | some (x, y, z), h => exact ⟨_, h⟩
theorem BoxOk.thereO {β H bx} (h : BoxOk β H bx) {b : Addr} (e : β = some b) : ∃ o : HO, H b = some o := let ⟨_, z⟩ := h.there e; ⟨_, z⟩
theorem Pre.step {β O H bx H' bx'} (p : Pre β O H bx) (k : Kp (bO β) H H') (b : BoxOk β H' bx') : Pre β O H' bx' := by
  refine ⟨fun q hq => ?_, p.bo, b⟩
  by_cases e : β = some q
  · obtain ⟨xs, z⟩ := b.there e
    exact ⟨_, z⟩
  · obtain ⟨o, h⟩ := p.occ q hq
    exact ⟨o, k q _ h fun z => (e z).elim⟩
theorem Pre.no {β O H bx} (p : Pre β O H bx) {q : Addr} (h : H q = none) : ¬ O q := fun z => by
  obtain ⟨o, e⟩ := p.occ q z
  rw [h] at e; cases e
theorem Pre.kO {β O H bx H'} (p : Pre β O H bx) (k : Kp (bO β) H H') : Kp O H H' := k.mono fun q e => p.bo q e
/-- what was not there behind was not there ahead -/
theorem Pre.none {β O H bx H' bx'} (p : Pre β O H bx) (k : Kp (bO β) H H') (b : BoxOk β H' bx') {q : Addr} (h : H' q = none) : H q = none := by
  cases e : H q with
  | none => rfl
  | some o =>
    by_cases c : β = some q
    · obtain ⟨xs, z⟩ := b.there c
      rw [h] at z; cases z
    · rw [k q o e fun z => (c z).elim] at h; cases h

def EnvR (K : PySem.W.Frag) (β : Option Addr) (O : Addr → Prop) (H : Hp) (env : Ev) (σ : L2.St) : Prop :=
  σ.length = env.length ∧ ∀ (i : Nat) (d : D), env[i]? = some (some d) → ∃ v, σ[i]? = some (some v) ∧ Rp K β O H v d
theorem EnvR.step {K β O H env σ H'} (e : EnvR K β O H env σ) (k : Kp O H H') : EnvR K β O H' env σ := ⟨e.1, fun i d h =>
  let ⟨v, a, b⟩ := e.2 i d h
  ⟨v, a, b.kp k⟩⟩
/-- a new list's address, if it is one -/
def Fr (K : PySem.W.Frag) (β : Option Addr) (O : Addr → Prop) (H H' : Hp) (v : V) (d : D) (fr : Bool) : Prop := fr = true → ∃ p ds, v = .ref p ∧ d = .list ds ∧ H p = none ∧ ∃ vs, H' p = some (.lst vs) ∧ RpA K β (fun a => O a ∨ a = p) H' vs ds
structure Aft (K : PySem.W.Frag) (β : Option Addr) (O : Addr → Prop) (H : Hp) (bx' : Bx) (d : D) (fr : Bool) (v : V) (H' : Hp) : Prop where
  kp : Kp (bO β) H H'
  box : BoxOk β H' bx'
  rp : Rp K β O H' v d
  fr : Fr K β O H H' v d fr
structure AftA (K : PySem.W.Frag) (β : Option Addr) (O : Addr → Prop) (H : Hp) (bx' : Bx) (ds : List D) (vs : List V) (H' : Hp) : Prop where
  kp : Kp (bO β) H H'
  box : BoxOk β H' bx'
  rp : RpA K β O H' vs ds

structure SE (X : Cx) (fr : Bool) (e : Expr) (f : Ev → M D) : Prop where
  run : ∃ t, PE X e t ∧ ∀ β O H σ env bx d bx', EnvR X.K β O H env σ → Pre β O H bx → f env bx = some (d, bx') → ∀ Q : VK, (∀ v H', Aft X.K β O H bx' d fr v H' → Q v H') → t σ H Q
structure ST (X : Cx) (e : Expr) (f : Ev → M Bool) : Prop where
  run : ∃ t, PT X e t ∧ ∀ β O H σ env bx c bx', EnvR X.K β O H env σ → Pre β O H bx → f env bx = some (c, bx') → ∀ Q : Bool → Hp → Prop, (∀ H', Kp (bO β) H H' → BoxOk β H' bx' → Q c H') → t σ H Q
structure SW (X : Cx) (e : Expr) (f : Ev → M Bool) : Prop where
  run : ∃ t, PW X e t ∧ ∀ β O H σ env bx c bx', EnvR X.K β O H env σ → Pre β O H bx → f env bx = some (c, bx') → ∀ Q : Bool → Hp → Prop, (∀ H', Kp (bO β) H H' → BoxOk β H' bx' → Q c H') → t σ H Q
structure SA (X : Cx) (es : List Expr) (f : Ev → M (List D)) : Prop where
  run : ∃ t, PA X es t ∧ ∀ β O H σ env bx ds bx', EnvR X.K β O H env σ → Pre β O H bx → f env bx = some (ds, bx') → ∀ Q : List V → Hp → Prop, (∀ vs H', AftA X.K β O H bx' ds vs H' → Q vs H') → t σ H Q

/-! ### the plain side -/
def ret {α : Type} (a : α) : M α := fun bx => some (a, bx)
def fail {α : Type} : M α := fun _ => none
def bnd {α γ : Type} (m : M α) (k : α → M γ) : M γ := fun bx => match m bx with
  | none => none
  | some (a, bx') => k a bx'
def opt {α : Type} (o : Option α) : M α := fun bx => match o with
  | none => none
  | some a => some (a, bx)
theorem bnd_some {α γ : Type} {m : M α} {k : α → M γ} {bx : Bx} {r : γ × Bx} (h : bnd m k bx = some r) : ∃ a bx', m bx = some (a, bx') ∧ k a bx' = some r := by
  unfold bnd at h
  cases e : m bx with
  | none => rw [e] at h; cases h
  | some p =>
    obtain ⟨a, b⟩ := p
    rw [e] at h
    exact ⟨a, b, rfl, h⟩
theorem opt_some {α : Type} {o : Option α} {bx : Bx} {r : α × Bx} (h : opt o bx = some r) : o = some r.1 ∧ r.2 = bx := by
  unfold opt at h
  cases e : o with
  | none => rw [e] at h; cases h
  | some a => rw [e] at h; cases h; exact ⟨rfl, rfl⟩
abbrev Ef := Ev → M D
def eVar (i : Nat) : Ef := fun env => opt (env[i]?.bind id)
def eC (d : D) : Ef := fun _ => ret d
def e1 (g : D → Option D) (a : Ef) : Ef := fun env => bnd (a env) fun x => opt (g x)
def e2 (g : D → D → Option D) (a b : Ef) : Ef := fun env => bnd (a env) fun x => bnd (b env) fun y => opt (g x y)
def aNil : Ev → M (List D) := fun _ => ret []
def aCons (a : Ef) (as : Ev → M (List D)) : Ev → M (List D) := fun env => bnd (a env) fun x => bnd (as env) fun xs => ret (x :: xs)
def eA (g : List D → Option D) (as : Ev → M (List D)) : Ef := fun env => bnd (as env) fun xs => opt (g xs)

section
variable {X : Cx}
theorem SE.weak {fr : Bool} {e : Expr} {f : Ef} (h : SE X fr e f) : SE X false e f := by
  obtain ⟨t, pe, r⟩ := h.run
  exact ⟨t, pe, fun β O H σ env bx d bx' E p q Q k => r β O H σ env bx d bx' E p q Q fun v H' a => k v H' ⟨a.kp, a.box, a.rp, fun z => nomatch z⟩⟩
theorem se_var (i : Nat) {x : Str} {pos : Pos} (hN : X.N[i]? = some x := by rfl) (hv : Vis X.env.scope x := by first | exact Or.inl rfl | exact Or.inr (Or.inl rfl) | exact Or.inr (Or.inr rfl)) (hd : (x == ("__debug__" : Str)) = false := by decide)
    (hcd : (x == ("__classdict__" : Str)) = false := by decide) : SE X false (.Name x pos) (eVar i) := by
  refine ⟨tVar i, pe_var hN hv hd hcd, fun β O H σ env bx d bx' E p q Q k => ?_⟩
  obtain ⟨h1, h2⟩ := opt_some q
  have h3 : env[i]? = some (some d) := by
    cases z : env[i]? with
    | none => rw [z] at h1; cases h1
    | some o =>
      rw [z] at h1
      have : o = some d := h1
      rw [this]
  obtain ⟨v, a, b⟩ := E.2 i d h3
  have h2 : bx' = bx := h2
  subst h2
  exact ⟨v, a, k v H ⟨.refl, p.box, b, fun z => nomatch z⟩⟩
theorem se_c {e : Expr} {v : V} {d : D} (pe : PE X e (tC v)) (r : ∀ K β O H, Rp K β O H v d) : SE X false e (eC d) := by
  refine ⟨_, pe, fun β O H σ env bx d' bx' E p q Q k => ?_⟩
  have q : some (d, bx) = some (d', bx') := q
  cases q
  exact k v H ⟨.refl, p.box, r _ _ _ _, fun z => nomatch z⟩
theorem se_int {i j pos} : SE X false (.Constant (.int i) j pos) (eC (.int i)) := se_c pe_int fun _ _ _ _ => .int i
theorem se_bl {b j pos} : SE X false (.Constant (.bool b) j pos) (eC (.bool b)) := se_c pe_bl fun _ _ _ _ => .bl b
theorem se_non {j pos} : SE X false (.Constant .none j pos) (eC .none) := se_c pe_non fun _ _ _ _ => .non
theorem se_str {x j pos} : SE X false (.Constant (.str x) j pos) (eC (.str x)) := se_c pe_str fun _ _ _ _ => .str x

/-- a rule of two values and the plain function -/
def R2S (K : PySem.W.Frag) (r : R2) (fr : Bool) (g : D → D → Option D) : Prop := ∀ β O H bx x y dx dy d, Pre β O H bx → Rp K β O H x dx → Rp K β O H y dy → g dx dy = some d → ∀ Q : VK, (∀ v H', Aft K β O H bx d fr v H' → Q v H') → r x y H Q
def R1S (K : PySem.W.Frag) (r : V → Hp → VK → Prop) (fr : Bool) (g : D → Option D) : Prop := ∀ β O H bx x dx d, Pre β O H bx → Rp K β O H x dx → g dx = some d → ∀ Q : VK, (∀ v H', Aft K β O H bx d fr v H' → Q v H') → r x H Q
def RAS (K : PySem.W.Frag) (r : List V → Hp → VK → Prop) (fr : Bool) (g : List D → Option D) : Prop := ∀ β O H bx xs ds d, Pre β O H bx → RpA K β O H xs ds → g ds = some d → ∀ Q : VK, (∀ v H', Aft K β O H bx d fr v H' → Q v H') → r xs H Q
theorem Aft.pre {K β O H bx H1 bx1 d fr v} (p : Pre β O H bx) {f1 : Bool} {d1 : D} {v1 : V} (a : Aft K β O H bx1 d1 f1 v1 H1) {H2 bx2} (b : Aft K β O H1 bx2 d fr v H2) : Aft K β O H bx2 d fr v H2 :=
  ⟨a.kp.trans b.kp, b.box, b.rp, fun z => by
    obtain ⟨q, ds, e1, e2, e3, e4⟩ := b.fr z
    exact ⟨q, ds, e1, e2, p.none a.kp a.box e3, e4⟩⟩
theorem AftA.pre {K β O H bx H1 bx1 d fr v} (p : Pre β O H bx) {d1 : List D} {v1 : List V} (a : AftA K β O H bx1 d1 v1 H1) {H2 bx2} (b : Aft K β O H1 bx2 d fr v H2) : Aft K β O H bx2 d fr v H2 :=
  ⟨a.kp.trans b.kp, b.box, b.rp, fun z => by
    obtain ⟨q, ds, e1, e2, e3, e4⟩ := b.fr z
    exact ⟨q, ds, e1, e2, p.none a.kp a.box e3, e4⟩⟩
theorem se_b {e : Expr} {ea eb : Expr} {fr fa fb : Bool} {r : R2} {g : D → D → Option D} {a b : Ef} (A : SE X fa ea a) (B : SE X fb eb b) (mk : ∀ ta tb, PE X ea ta → PE X eb tb → PE X e (tOp r ta tb)) (hs : R2S X.K r fr g) : SE X fr e (e2 g a b) := by
  obtain ⟨ta, pa, ra⟩ := A.run
  obtain ⟨tb, pb, rb⟩ := B.run
  refine ⟨_, mk ta tb pa pb, fun β O H σ env bx d bx' E p q Q k => ?_⟩
  obtain ⟨x, bx1, q1, q⟩ := bnd_some q
  obtain ⟨y, bx2, q2, q⟩ := bnd_some q
  obtain ⟨q3, q4⟩ := opt_some q
  have q4 : bx' = bx2 := q4
  subst q4
  refine ra β O H σ env bx x bx1 E p q1 _ fun v H1 a1 => ?_
  have p1 := p.step a1.kp a1.box
  refine rb β O H1 σ env bx1 y bx' (E.step (p.kO a1.kp)) p1 q2 _ fun u H2 a2 => ?_
  have p2 := p1.step a2.kp a2.box
  exact hs β O H2 bx' v u x y d p2 (a1.rp.kp (p1.kO a2.kp)) a2.rp q3 _ fun w H3 a3 => k w H3 (Aft.pre p a1 (Aft.pre p1 a2 a3))
theorem se_op {op : Operator} {r : R2} {fr fa fb : Bool} {g : D → D → Option D} {ea eb : Expr} {a b : Ef} {pos : Pos} (ho : OpR X (binaryOp op) r) (hs : R2S X.K r fr g) (A : SE X fa ea a) (B : SE X fb eb b) : SE X fr (.BinOp ea op eb pos) (e2 g a b) :=
  se_b A B (fun _ _ pa pb => pe_op ho pa pb) hs
theorem se_cmp {op : CmpOp} {r : R2} {fa fb : Bool} {g : D → D → Option D} {ea eb : Expr} {a b : Ef} {pos : Pos} (ho : OpR X (compareOp op) r) (hs : R2S X.K r false g) (A : SE X fa ea a) (B : SE X fb eb b) (hm : behindInMarks op eb = false := by first | exact nomark _ | rfl) : SE X false (.Compare ea [op] [eb] pos) (e2 g a b) :=
  se_b A B (fun _ _ pa pb => pe_cmpR ho pa pb hm) hs
theorem se_un {op : UnaryOp} {r : V → Hp → VK → Prop} {fa fr : Bool} {g : D → Option D} {ea : Expr} {a : Ef} {pos : Pos} (ho : UnR X (unaryOp op) r) (hs : R1S X.K r fr g) (A : SE X fa ea a) : SE X fr (.UnaryOp op ea pos) (e1 g a) := by
  obtain ⟨ta, pa, ra⟩ := A.run
  refine ⟨_, pe_un ho pa, fun β O H σ env bx d bx' E p q Q k => ?_⟩
  obtain ⟨x, bx1, q1, q⟩ := bnd_some q
  obtain ⟨q3, q4⟩ := opt_some q
  have q4 : bx' = bx1 := q4
  subst q4
  refine ra β O H σ env bx x bx' E p q1 _ fun v H1 a1 => ?_
  exact hs β O H1 bx' v x d (p.step a1.kp a1.box) a1.rp q3 _ fun w H3 a3 => k w H3 (Aft.pre p a1 a3)

/-! ### arguments -/
theorem sa_nil : SA X [] aNil := ⟨_, pa_nil, fun β O H σ env bx d bx' E p q Q k => by
  have q : some ([], bx) = some (d, bx') := q
  cases q
  exact k [] H ⟨.refl, p.box, .nil⟩⟩
theorem sa_cons {fa : Bool} {e : Expr} {es : List Expr} {a : Ef} {as : Ev → M (List D)} (A : SE X fa e a) (R : SA X es as) (hs : starEach (e :: es) X.env = (false, eval e X.env) :: starEach es X.env := by rfl) : SA X (e :: es) (aCons a as) := by
  obtain ⟨ta, pa, ra⟩ := A.run
  obtain ⟨tb, pb, rb⟩ := R.run
  refine ⟨_, pa_cons pa pb hs, fun β O H σ env bx d bx' E p q Q k => ?_⟩
  obtain ⟨x, bx1, q1, q⟩ := bnd_some q
  obtain ⟨y, bx2, q2, q⟩ := bnd_some q
  have q : some (x :: y, bx2) = some (d, bx') := q
  cases q
  refine ra β O H σ env bx x bx1 E p q1 _ fun v H1 a1 => ?_
  have p1 := p.step a1.kp a1.box
  refine rb β O H1 σ env bx1 y bx' (E.step (p.kO a1.kp)) p1 q2 _ fun u H2 a2 => ?_
  exact k _ H2 ⟨a1.kp.trans a2.kp, a2.box, .cons (a1.rp.kp (p1.kO a2.kp)) a2.rp⟩
theorem se_args {e : Expr} {es : List Expr} {fr : Bool} {r : List V → Hp → VK → Prop} {g : List D → Option D} {as : Ev → M (List D)} (A : SA X es as) (mk : ∀ ta, PA X es ta → PE X e (fun σ H Q => ta σ H fun vs H1 => r vs H1 Q)) (hs : RAS X.K r fr g) : SE X fr e (eA g as) := by
  obtain ⟨ta, pa, ra⟩ := A.run
  refine ⟨_, mk ta pa, fun β O H σ env bx d bx' E p q Q k => ?_⟩
  obtain ⟨x, bx1, q1, q⟩ := bnd_some q
  obtain ⟨q3, q4⟩ := opt_some q
  have q4 : bx' = bx1 := q4
  subst q4
  refine ra β O H σ env bx x bx' E p q1 _ fun v H1 a1 => ?_
  exact hs β O H1 bx' v x d (p.step a1.kp a1.box) a1.rp q3 _ fun w H3 a3 => k w H3 (AftA.pre p a1 a3)
/-- a new list, a new tuple -/
def gLst (ds : List D) : Option D := if ds.length ≤ sizeLine then some (.list ds) else none
def gTup (ds : List D) : Option D := if ds.length ≤ sizeLine then some (.tuple ds) else none
theorem aft_new_lst {K β O H bx} (p : Pre β O H bx) {xs : List V} {ds : List D} (r : RpA K β O H xs ds) {q : Addr} (hq : H q = none) : Aft K β O H bx (.list ds) true (.ref q) (upd H q (.lst xs)) := by
  have k : Kp (bO β) H (upd H q (.lst xs)) := Kp.new hq
  refine ⟨k, ?_, .lst upd_same (p.no hq) (r.kp (p.kO k)), fun _ => ⟨q, ds, rfl, rfl, hq, xs, upd_same, RpA.map (p.kO k) (fun a o e n z => z.elim n fun w => by rw [w, hq] at e; cases e) _ _ r⟩⟩
  have b := p.box
  unfold BoxOk at b ⊢
  split at b
  · trivial
  · rw [upd_ne (fun z => by rw [z, hq] at b; cases b)]; exact b
  · exact b.elim
theorem aft_new_tup {K β O H bx} (p : Pre β O H bx) {xs : List V} {ds : List D} (r : RpA K β O H xs ds) {q : Addr} (hq : H q = none) : Aft K β O H bx (.tuple ds) false (.ref q) (upd H q (.tup xs)) := by
  have k : Kp (bO β) H (upd H q (.tup xs)) := Kp.new hq
  refine ⟨k, ?_, .tup upd_same (r.kp (p.kO k)), fun z => nomatch z⟩
  have b := p.box
  unfold BoxOk at b ⊢
  split at b
  · trivial
  · rw [upd_ne (fun z => by rw [z, hq] at b; cases b)]; exact b
  · exact b.elim
theorem aft_same {K β O H bx} (p : Pre β O H bx) {v : V} {d : D} (r : Rp K β O H v d) : Aft K β O H bx d false v H := ⟨.refl, p.box, r, fun z => nomatch z⟩
theorem se_lst {es : List Expr} {as : Ev → M (List D)} {pos : Pos} (A : SA X es as) : SE X true (.List es pos) (eA gLst as) :=
  se_args (r := fun xs H1 Q => xs.length ≤ sizeLine ∧ ∀ p, H1 p = none → Q (.ref p) (upd H1 p (.lst xs))) A (fun _ pa => pe_lst pa) fun β O H bx xs ds d p r e Q k => by
    unfold gLst at e
    split at e
    · cases e
      exact ⟨by rw [r.length]; assumption, fun q hq => k _ _ (aft_new_lst p r hq)⟩
    · cases e
theorem se_tup {es : List Expr} {x1} {as : Ev → M (List D)} {pos : Pos} (A : SA X es as) : SE X false (.Tuple es x1 pos) (eA gTup as) :=
  se_args (r := fun xs H1 Q => xs.length ≤ sizeLine ∧ ∀ p, H1 p = none → Q (.ref p) (upd H1 p (.tup xs))) A (fun _ pa => pe_tup pa) fun β O H bx xs ds d p r e Q k => by
    unfold gTup at e
    split at e
    · cases e
      exact ⟨by rw [r.length]; assumption, fun q hq => k _ _ (aft_new_tup p r hq)⟩
    · cases e
end
end MD
end

section
set_option Elab.async false
set_option linter.all false
set_option maxRecDepth 100000
namespace MD
open PySem PySem.Spec PyProof.Rows L2

/-! ### tests -/
def truD : D → Option Bool
  | .none => some false
  | .bool b => some b
  | .int i => some (i != 0)
  | .str y => if y.length ≤ sizeLine then some ((y.length : Int) != 0) else none
  | .list ds => some (!ds.isEmpty)
  | .tuple ds => some (!ds.isEmpty)
  | .dict _ => none
abbrev Tf := Ev → M Bool
def tOf (a : Ef) : Tf := fun env => bnd (a env) fun x => opt (truD x)
def tNt (a : Tf) : Tf := fun env => bnd (a env) fun c => ret (!c)
def tAn (a b : Tf) : Tf := fun env => bnd (a env) fun c => if c = true then b env else ret false
def tOrr (a b : Tf) : Tf := fun env => bnd (a env) fun c => if c = true then ret true else b env
def eAn (a b : Ef) : Ef := fun env => bnd (a env) fun x => bnd (opt (truD x)) fun c => if c = true then b env else ret x
def eOr (a b : Ef) : Ef := fun env => bnd (a env) fun x => bnd (opt (truD x)) fun c => if c = true then ret x else b env
def eNt (a : Ef) : Ef := fun env => bnd (a env) fun x => opt ((truD x).map fun c => .bool (!c))
def eIf (c : Tf) (a b : Ef) : Ef := fun env => bnd (c env) fun c => if c = true then a env else b env

theorem tru_of {K β O H} {v : V} {d : D} {c : Bool} (r : Rp K β O H v d) (e : truD d = some c) : TruV K v H c := by
  cases r with
  | non => cases e; rfl
  | bl b => cases e; rfl
  | int i => cases e; rfl
  | str y =>
    have e : (if y.length ≤ sizeLine then some ((y.length : Int) != 0) else none) = some c := e
    by_cases z : y.length ≤ sizeLine
    · rw [if_pos z] at e; cases e; exact ⟨z, rfl⟩
    · rw [if_neg z] at e; cases e
  | lst a b q =>
    cases e
    refine .inl ⟨_, SqL.of a, ?_⟩
    cases q <;> rfl
  | tup a q =>
    cases e
    refine .inr (.inl ⟨_, SqT.of a, ?_⟩)
    cases q <;> rfl
  | box => cases e
  | rolT => cases e
  | rolW => cases e
  | exc => cases e
  | dct => cases e

section
variable {X : Cx}
theorem st_of {e : Expr} {fr : Bool} {f : Ef} (A : SE X fr e f) (he : ∀ whole, isTrue e X.env whole = (do let v ← whole; standAt e.pos; holding [v] (truthy v)) := by intro _; rfl) : ST X e (tOf f) := by
  obtain ⟨t, pe, r⟩ := A.run
  refine ⟨_, pt_truth pe he, fun β O H σ env bx c bx' E p q Q k => ?_⟩
  obtain ⟨x, bx1, q1, q⟩ := bnd_some q
  obtain ⟨q3, q4⟩ := opt_some q
  have q4 : bx' = bx1 := q4
  subst q4
  exact r β O H σ env bx x bx' E p q1 _ fun v H1 a => ⟨c, tru_of a.rp q3, k H1 a.kp a.box⟩
theorem st_cmp {op : CmpOp} {r : R2} {fa fb : Bool} {g : D → D → Option D} {ea eb : Expr} {a b : Ef} {pos : Pos} (ho : OpR X (compareOp op) r) (hs : R2S X.K r false g) (A : SE X fa ea a) (B : SE X fb eb b)
    (hm : behindInMarks op eb = false := by first | exact nomark _ | rfl) (hg : ∀ x y d, g x y = some d → ∃ c, d = .bool c) : ST X (.Compare ea [op] [eb] pos) (tOf (e2 g a b)) := by
  obtain ⟨ta, pa, ra⟩ := A.run
  obtain ⟨tb, pb, rb⟩ := B.run
  refine ⟨_, pt_cmpR ho pa pb hm, fun β O H σ env bx c bx' E p q Q k => ?_⟩
  obtain ⟨d, bx3, q, q5⟩ := bnd_some q
  obtain ⟨q6, q7⟩ := opt_some q5
  have q7 : bx' = bx3 := q7
  subst q7
  obtain ⟨x, bx1, q1, q⟩ := bnd_some q
  obtain ⟨y, bx2, q2, q⟩ := bnd_some q
  obtain ⟨q3, q4⟩ := opt_some q
  have q4 : bx' = bx2 := q4
  subst q4
  refine ra β O H σ env bx x bx1 E p q1 _ fun v H1 a1 => ?_
  have p1 := p.step a1.kp a1.box
  refine rb β O H1 σ env bx1 y bx' (E.step (p.kO a1.kp)) p1 q2 _ fun u H2 a2 => ?_
  have p2 := p1.step a2.kp a2.box
  refine hs β O H2 bx' v u x y d p2 (a1.rp.kp (p1.kO a2.kp)) a2.rp q3 _ fun w H3 a3 => ?_
  have a4 := Aft.pre p a1 (Aft.pre p1 a2 a3)
  obtain ⟨c', e⟩ := hg x y d q3
  subst e
  have q6 : some c' = some c := q6
  cases q6
  cases a4.rp
  exact ⟨c, rfl, k H3 a4.kp a4.box⟩
theorem st_not {e : Expr} {f : Tf} {pos : Pos} (A : ST X e f) : ST X (.UnaryOp .Not e pos) (tNt f) := by
  obtain ⟨t, pe, r⟩ := A.run
  refine ⟨_, pt_not pe, fun β O H σ env bx c bx' E p q Q k => ?_⟩
  obtain ⟨x, bx1, q1, q⟩ := bnd_some q
  have q : some (!x, bx1) = some (c, bx') := q
  cases q
  exact r β O H σ env bx x bx' E p q1 _ fun H1 a b => k H1 a b
theorem SW.st {e : Expr} {f : Tf} (A : SW X e f) : ST X e f := by
  obtain ⟨t, pe, r⟩ := A.run
  exact ⟨t, pe.pt, r⟩
theorem sw_and1 {a : Expr} {f : Tf} {pos : Pos} (A : ST X a f) : SW X (.BoolOp .And [a] pos) f := by
  obtain ⟨t, pe, r⟩ := A.run
  exact ⟨t, pw_and1 pe, r⟩
theorem sw_or1 {a : Expr} {f : Tf} {pos : Pos} (A : ST X a f) : SW X (.BoolOp .Or [a] pos) f := by
  obtain ⟨t, pe, r⟩ := A.run
  exact ⟨t, pw_or1 pe, r⟩
theorem sw_and {a b : Expr} {rest : List Expr} {f g : Tf} {pos : Pos} (A : ST X a f) (B : SW X (.BoolOp .And (b :: rest) pos) g) : SW X (.BoolOp .And (a :: b :: rest) pos) (tAn f g) := by
  obtain ⟨ta, pa, ra⟩ := A.run
  obtain ⟨tb, pb, rb⟩ := B.run
  refine ⟨_, pw_and pa pb, fun β O H σ env bx c bx' E p q Q k => ?_⟩
  obtain ⟨x, bx1, q1, q⟩ := bnd_some q
  refine ra β O H σ env bx x bx1 E p q1 _ fun H1 a1 b1 => ?_
  cases x with
  | true => exact iteT (rb β O H1 σ env bx1 c bx' (E.step (p.kO a1)) (p.step a1 b1) q _ fun H2 a2 b2 => k H2 (a1.trans a2) b2)
  | false =>
    have q : some (false, bx1) = some (c, bx') := q
    cases q
    exact iteF (k H1 a1 b1)
theorem sw_or {a b : Expr} {rest : List Expr} {f g : Tf} {pos : Pos} (A : ST X a f) (B : SW X (.BoolOp .Or (b :: rest) pos) g) : SW X (.BoolOp .Or (a :: b :: rest) pos) (tOrr f g) := by
  obtain ⟨ta, pa, ra⟩ := A.run
  obtain ⟨tb, pb, rb⟩ := B.run
  refine ⟨_, pw_or pa pb, fun β O H σ env bx c bx' E p q Q k => ?_⟩
  obtain ⟨x, bx1, q1, q⟩ := bnd_some q
  refine ra β O H σ env bx x bx1 E p q1 _ fun H1 a1 b1 => ?_
  cases x with
  | false => exact iteF (rb β O H1 σ env bx1 c bx' (E.step (p.kO a1)) (p.step a1 b1) q _ fun H2 a2 b2 => k H2 (a1.trans a2) b2)
  | true =>
    have q : some (true, bx1) = some (c, bx') := q
    cases q
    exact iteT (k H1 a1 b1)
theorem se_one {op} {a : Expr} {fr : Bool} {f : Ef} {pos : Pos} (A : SE X fr a f) : SE X false (.BoolOp op [a] pos) f := by
  obtain ⟨t, pe, r⟩ := A.weak.run
  exact ⟨t, pe_one pe, r⟩
theorem Aft.preF {K β O H H1 bx1 d v} {f1 : Bool} {d1 : D} {v1 : V} (a : Aft K β O H bx1 d1 f1 v1 H1) {H2 bx2 fr} (b : Aft K β O H1 bx2 d fr v H2) : Aft K β O H bx2 d false v H2 :=
  ⟨a.kp.trans b.kp, b.box, b.rp, fun z => nomatch z⟩
theorem se_and {a b : Expr} {rest : List Expr} {fa fb : Bool} {f g : Ef} {pos : Pos} (A : SE X fa a f) (B : SE X fb (.BoolOp .And (b :: rest) pos) g) : SE X false (.BoolOp .And (a :: b :: rest) pos) (eAn f g) := by
  obtain ⟨ta, pa, ra⟩ := A.run
  obtain ⟨tb, pb, rb⟩ := B.run
  refine ⟨_, pe_andT pa pb, fun β O H σ env bx d bx' E p q Q k => ?_⟩
  obtain ⟨x, bx1, q1, q⟩ := bnd_some q
  obtain ⟨c, bx2, q2, q⟩ := bnd_some q
  obtain ⟨q3, q4⟩ := opt_some q2
  have q4 : bx2 = bx1 := q4
  subst q4
  refine ra β O H σ env bx x bx2 E p q1 _ fun v H1 a1 => ⟨c, tru_of a1.rp q3, ?_⟩
  cases c with
  | true => exact iteT (rb β O H1 σ env bx2 d bx' (E.step (p.kO a1.kp)) (p.step a1.kp a1.box) q _ fun u H2 a2 => k u H2 (a1.preF a2))
  | false =>
    have q : some (x, bx2) = some (d, bx') := q
    cases q
    exact iteF (k v H1 ⟨a1.kp, a1.box, a1.rp, fun z => nomatch z⟩)
theorem se_or {a b : Expr} {rest : List Expr} {fa fb : Bool} {f g : Ef} {pos : Pos} (A : SE X fa a f) (B : SE X fb (.BoolOp .Or (b :: rest) pos) g) : SE X false (.BoolOp .Or (a :: b :: rest) pos) (eOr f g) := by
  obtain ⟨ta, pa, ra⟩ := A.run
  obtain ⟨tb, pb, rb⟩ := B.run
  refine ⟨_, pe_orT pa pb, fun β O H σ env bx d bx' E p q Q k => ?_⟩
  obtain ⟨x, bx1, q1, q⟩ := bnd_some q
  obtain ⟨c, bx2, q2, q⟩ := bnd_some q
  obtain ⟨q3, q4⟩ := opt_some q2
  have q4 : bx2 = bx1 := q4
  subst q4
  refine ra β O H σ env bx x bx2 E p q1 _ fun v H1 a1 => ⟨c, tru_of a1.rp q3, ?_⟩
  cases c with
  | false => exact iteF (rb β O H1 σ env bx2 d bx' (E.step (p.kO a1.kp)) (p.step a1.kp a1.box) q _ fun u H2 a2 => k u H2 (a1.preF a2))
  | true =>
    have q : some (x, bx2) = some (d, bx') := q
    cases q
    exact iteT (k v H1 ⟨a1.kp, a1.box, a1.rp, fun z => nomatch z⟩)
/-- a or b, both new lists -/
theorem se_orL {a b : Expr} {f g : Ef} {pos : Pos} (A : SE X true a f) (B : SE X true b g) : SE X true (.BoolOp .Or [a, b] pos) (eOr f g) := by
  obtain ⟨ta, pa, ra⟩ := A.run
  obtain ⟨tb, pb, rb⟩ := B.run
  refine ⟨_, pe_orT pa (pe_one pb), fun β O H σ env bx d bx' E p q Q k => ?_⟩
  obtain ⟨x, bx1, q1, q⟩ := bnd_some q
  obtain ⟨c, bx2, q2, q⟩ := bnd_some q
  obtain ⟨q3, q4⟩ := opt_some q2
  have q4 : bx2 = bx1 := q4
  subst q4
  refine ra β O H σ env bx x bx2 E p q1 _ fun v H1 a1 => ⟨c, tru_of a1.rp q3, ?_⟩
  cases c with
  | false => exact iteF (rb β O H1 σ env bx2 d bx' (E.step (p.kO a1.kp)) (p.step a1.kp a1.box) q _ fun u H2 a2 => k u H2 (Aft.pre p a1 a2))
  | true =>
    have q : some (x, bx2) = some (d, bx') := q
    cases q
    exact iteT (k v H1 a1)
theorem se_not {a : Expr} {fr : Bool} {f : Ef} {pos : Pos} (A : SE X fr a f) : SE X false (.UnaryOp .Not a pos) (eNt f) := by
  obtain ⟨ta, pa, ra⟩ := A.run
  refine ⟨_, pe_notT pa, fun β O H σ env bx d bx' E p q Q k => ?_⟩
  obtain ⟨x, bx1, q1, q⟩ := bnd_some q
  obtain ⟨q3, q4⟩ := opt_some q
  have q4 : bx' = bx1 := q4
  subst q4
  refine ra β O H σ env bx x bx' E p q1 _ fun v H1 a1 => ?_
  cases e : truD x with
  | none => rw [e] at q3; cases q3
  | some c =>
    rw [e] at q3
    cases q3
    exact ⟨c, tru_of a1.rp e, k _ H1 ⟨a1.kp, a1.box, .bl _, fun z => nomatch z⟩⟩
theorem se_if {c a b : Expr} {fr : Bool} {fc : Tf} {f g : Ef} {pos : Pos} (C : ST X c fc) (A : SE X fr a f) (B : SE X fr b g) : SE X fr (.IfExp c a b pos) (eIf fc f g) := by
  obtain ⟨tc, pc, rc⟩ := C.run
  obtain ⟨ta, pa, ra⟩ := A.run
  obtain ⟨tb, pb, rb⟩ := B.run
  refine ⟨_, pe_ifExp pc pa pb, fun β O H σ env bx d bx' E p q Q k => ?_⟩
  obtain ⟨x, bx1, q1, q⟩ := bnd_some q
  refine rc β O H σ env bx x bx1 E p q1 _ fun H1 a1 b1 => ?_
  have fin : ∀ v H2, Aft X.K β O H1 bx' d fr v H2 → Q v H2 := fun v H2 z => k v H2 ⟨a1.trans z.kp, z.box, z.rp, fun w => by
    obtain ⟨r, ds, e1, e2, e3, e4⟩ := z.fr w
    exact ⟨r, ds, e1, e2, p.none a1 b1 e3, e4⟩⟩
  cases x with
  | true => exact iteT (ra β O H1 σ env bx1 d bx' (E.step (p.kO a1)) (p.step a1 b1) q _ fin)
  | false => exact iteF (rb β O H1 σ env bx1 d bx' (E.step (p.kO a1)) (p.step a1 b1) q _ fin)
end
end MD
end

section
set_option Elab.async false
set_option linter.all false
set_option maxRecDepth 100000
namespace MD
open PySem PySem.Spec PyProof.Rows L2

/-! ### operators -/
def addD : D → D → Option D
  | .int a, .int b => some (.int (a + b))
  | .str a, .str b => if a.length + b.length ≤ sizeLine then some (.str (a ++ b)) else none
  | .list a, .list b => if a.length + b.length ≤ sizeLine then some (.list (a ++ b)) else none
  | .tuple a, .tuple b => if a.length + b.length ≤ sizeLine then some (.tuple (a ++ b)) else none
  | _, _ => none
def addLD : D → D → Option D
  | .list a, .list b => if a.length + b.length ≤ sizeLine then some (.list (a ++ b)) else none
  | _, _ => none
def subD : D → D → Option D
  | .int a, .int b => some (.int (a - b))
  | _, _ => none
def mulD : D → D → Option D
  | .int a, .int b => if (Builtin.Int.intBits a : Int) + (Builtin.Int.intBits b : Int) ≤ 134217728 then some (.int (a * b)) else none
  | .str a, .int k => if k < 2 ^ 40 ∧ -(2 ^ 40) < k then (if a.length * k.toNat ≤ sizeLine then some (.str ⟨(List.replicate k.toNat a.cps.toList).flatten.toArray⟩) else none) else none
  | _, _ => none
def mulLD : D → D → Option D
  | .list a, .int k => if k < 2 ^ 40 ∧ -(2 ^ 40) < k then (if a.length * k.toNat ≤ sizeLine then some (.list (List.replicate k.toNat a).flatten) else none) else none
  | _, _ => none
def fdivD : D → D → Option D
  | .int a, .int b => if 0 < b ∧ b.natAbs.log2 < 9000 then some (.int (a / b)) else none
  | _, _ => none
def modD : D → D → Option D
  | .int a, .int b => if 0 < b then some (.int (a % b)) else none
  | _, _ => none
def powD : D → D → Option D
  | .int a, .int b => if 0 ≤ b ∧ b ≤ 1000000 ∧ a.natAbs < 2 ^ 64 then some (.int (a ^ b.toNat)) else none
  | _, _ => none
def negD : D → Option D
  | .int a => some (.int (-a))
  | _ => none
def ltD : D → D → Option D
  | .int a, .int b => some (.bool (decide (a < b)))
  | _, _ => none
def leD : D → D → Option D
  | .int a, .int b => some (.bool (decide (a ≤ b)))
  | _, _ => none
def gtD : D → D → Option D
  | .int a, .int b => some (.bool (decide (b < a)))
  | _, _ => none
def geD : D → D → Option D
  | .int a, .int b => some (.bool (decide (b ≤ a)))
  | _, _ => none
def eqB : D → D → Option Bool
  | .int a, .int b => some (decide (a = b))
  | .str a, .str b => some (decide (a = b))
  | .bool a, .bool b => some (decide (a = b))
  | a, b => if noDict a && noDict b && SeqAt.shaped a && SeqAt.shaped b then some (PyData.eqv a b) else none
def eqD (a b : D) : Option D := (eqB a b).map .bool
def neD (a b : D) : Option D := (eqB a b).map fun c => .bool (!c)
def isNB : D → D → Option Bool
  | .none, .none => some true
  | _, .none => some false
  | _, _ => none
def isND (a b : D) : Option D := (isNB a b).map .bool
def notND (a b : D) : Option D := (isNB a b).map fun c => .bool (!c)
/-- flat items, == of them -/
def flatS : D → Bool
  | .none | .bool _ | .int _ | .str _ => true
  | _ => false
def inItems (x : D) (ys : List D) : Bool := ys.any fun y => PyData.eqv y x
def inB : D → D → Option Bool
  | .str a, .str z => match a.cps.toList with
    | [c] => some (decide (c ∈ z.cps.toList))
    | _ => none
  | x, .list ys => if flatS x && ys.all flatS then some (inItems x ys) else none
  | x, .tuple ys => if flatS x && ys.all flatS then some (inItems x ys) else none
  | _, _ => none
def inD (a b : D) : Option D := (inB a b).map .bool
def ninD (a b : D) : Option D := (inB a b).map fun c => .bool (!c)

theorem str_foldl (x : Array Nat) (n : Nat) : (List.replicate n x).foldl (· ++ ·) #[] = (List.replicate n x.toList).flatten.toArray := by
  have : ∀ (n : Nat) (acc : List Nat), (List.replicate n x).foldl (· ++ ·) acc.toArray = (acc ++ (List.replicate n x.toList).flatten).toArray := by
    intro n
    induction n with
    | zero => intro acc; simp
    | succ n ih =>
      intro acc
      rw [List.replicate_succ, List.foldl_cons, List.replicate_succ, List.flatten_cons]
      have : acc.toArray ++ x = (acc ++ x.toList).toArray := by simp
      rw [this, ih, List.append_assoc]
  have h := this n []
  rw [List.nil_append] at h
  exact h
section
variable {X : Cx}
theorem op_mul_str : OpR X (binaryOp .Mult) (fun x y H Q => ∃ (a : Str) (k : Int), x = .str a ∧ y = .int k ∧ (k < 2 ^ 40 ∧ -(2 ^ 40) < k) ∧ a.length * k.toNat ≤ sizeLine ∧ Q (.str ⟨(List.replicate k.toNat a.cps.toList).flatten.toArray⟩) H) := by
  intro pins s σ H x y v u Q I rx ry h
  obtain ⟨a, k, rfl, rfl, ⟨hk, hk2⟩, hz, q⟩ := h
  obtain ⟨t, rfl⟩ := rx
  obtain ⟨t', rfl⟩ := ry
  have hs : sizeLine = 16777216 := sizeLine_eq
  have hlo : ¬ k < -(2 ^ 63 : Int) := by omega
  refine PySem.P.mul_str ?_ ?_ ?_ ?_
  · have h2 : ¬ k ≥ 2 ^ 63 := by omega
    rw [decide_eq_false hlo, decide_eq_false h2]; rfl
  · intro h1 _ h3
    have h4 : (k.toNat : Int) = k := Int.toNat_of_nonneg (by omega)
    have h5 : (a.length : Int) * k ≤ 2 ^ 63 - 1 := by
      have : ((a.length * k.toNat : Nat) : Int) ≤ (sizeLine : Nat) := Int.ofNat_le.mpr hz
      rw [Int.natCast_mul, h4, hs] at this
      omega
    have h6 := (Int.le_ediv_iff_mul_le (show 0 < k by omega)).mpr h5
    omega
  · intro _ _
    show decide (a.length * k.toNat > sizeLine) = false
    exact decide_eq_false (by omega)
  · by_cases h1 : k < 1
    · rw [if_pos h1]
      have : k.toNat = 0 := by omega
      rw [this] at q
      exact ⟨by decide, .str _, H, I.tok _, ⟨_, rfl⟩, q⟩
    · rw [if_neg h1]
      by_cases h2 : (k == 1 || a.length == 0) = true
      · rw [if_pos h2]
        refine ⟨.str a, H, I, ⟨t, rfl⟩, ?_⟩
        have e : (⟨(List.replicate k.toNat a.cps.toList).flatten.toArray⟩ : Str) = a := by
          rw [Bool.or_eq_true] at h2
          rcases h2 with h2 | h2
          · have : k = 1 := eq_of_beq h2
            subst this
            show (⟨(List.replicate 1 a.cps.toList).flatten.toArray⟩ : Str) = a
            simp
          · have h3 : a.cps.size = 0 := eq_of_beq h2
            have h4 : a.cps = #[] := Array.eq_empty_of_size_eq_zero h3
            have h5 : ∀ n : Nat, (List.replicate n ([] : List Nat)).flatten = [] := by intro n; simp
            obtain ⟨c⟩ := a
            simp only at h4
            subst h4
            simp [h5]
        rw [e] at q
        exact q
      · rw [if_neg h2]
        rw [str_foldl]
        refine ⟨?_, .str _, H, I.tok _, ⟨_, rfl⟩, q⟩
        show (List.replicate k.toNat a.cps.toList).flatten.toArray.size ≤ sizeLine
        rw [List.size_toArray, PyProof.Rows.lm_len_rep_flat, Array.length_toList]
        show k.toNat * a.length ≤ sizeLine
        rw [Nat.mul_comm]; exact hz

abbrev rAddAll (K : PySem.W.Frag) : R2 := fun x y H Q => rI0 (fun i j => .int (i + j)) x y H Q ∨ (∃ i j, x = .str i ∧ y = .str j ∧ i.length + j.length ≤ sizeLine ∧ Q (.str (i ++ j)) H) ∨ rCat x y H Q ∨ rCatA K x y H Q
theorem op_addAll : OpR X (binaryOp .Add) (rAddAll X.K) := op_add.or (op_add_str.or (op_cat.or op_catA))
theorem R2S.lst {K r fr} {g : D → D → Option D} (h : ∀ β O H bx x y dx dy d, Pre β O H bx → Rp K β O H x dx → Rp K β O H y dy → g dx dy = some d → ∀ Q : VK, (∀ v H', Aft K β O H bx d fr v H' → Q v H') → r x y H Q) : R2S K r fr g := h
theorem addLD_sem : R2S X.K rCat true addLD := by
  intro β O H bx x y dx dy d p rx ry e Q k
  cases rx with
  | lst a b c =>
    cases ry with
    | lst a2 b2 c2 =>
      rename_i xs ds _ ys es
      have e : (if ds.length + es.length ≤ sizeLine then some (PyData.list (ds ++ es)) else none) = some d := e
      by_cases z : ds.length + es.length ≤ sizeLine
      · rw [if_pos z] at e; cases e
        refine ⟨_, _, _, _, rfl, rfl, a, a2, by rw [c.length, c2.length]; exact z, fun q hq => ?_⟩
        exact k _ _ (aft_new_lst p (c.append c2) hq)
      · rw [if_neg z] at e; cases e
    | _ => cases e
  | _ => cases e
theorem addD_sem : R2S X.K (rAddAll X.K) false addD := by
  intro β O H bx x y dx dy d p rx ry e Q k
  cases rx with
  | int i =>
    cases ry with
    | int j => cases e; exact .inl ⟨_, _, rfl, rfl, k _ _ (aft_same p (.int _))⟩
    | _ => cases e
  | str i =>
    cases ry with
    | str j =>
      have e : (if i.length + j.length ≤ sizeLine then some (PyData.str (i ++ j)) else none) = some d := e
      by_cases z : i.length + j.length ≤ sizeLine
      · rw [if_pos z] at e; cases e; exact .inr (.inl ⟨_, _, rfl, rfl, z, k _ _ (aft_same p (.str _))⟩)
      · rw [if_neg z] at e; cases e
    | _ => cases e
  | lst a b c =>
    cases ry with
    | lst a2 b2 c2 =>
      exact .inr (.inr (.inl (addLD_sem (X := X) β O H bx _ _ _ _ d p (.lst a b c) (.lst a2 b2 c2) e Q fun v H' z => k v H' ⟨z.kp, z.box, z.rp, fun w => nomatch w⟩)))
    | _ => cases e
  | tup a c =>
    cases ry with
    | tup a2 c2 =>
      rename_i xs ds _ ys es
      have e : (if ds.length + es.length ≤ sizeLine then some (PyData.tuple (ds ++ es)) else none) = some d := e
      by_cases z : ds.length + es.length ≤ sizeLine
      · rw [if_pos z] at e; cases e
        refine .inr (.inr (.inr ⟨_, _, _, _, rfl, rfl, SqT.of a, SqT.of a2, by rw [c.length, c2.length]; exact z, fun hx => ?_, fun hx hy => ?_, fun hx hy q hq => ?_⟩))
        · subst hx
          cases c
          exact k _ _ (aft_same p (.tup a2 c2))
        · subst hy
          cases c2
          rw [List.append_nil] at k
          exact k _ _ (aft_same p (.tup a c))
        · exact k _ _ (aft_new_tup p (c.append c2) hq)
      · rw [if_neg z] at e; cases e
    | _ => cases e
  | _ => cases e
theorem subD_sem : R2S X.K (rI0 fun i j => .int (i - j)) false subD := by
  intro β O H bx x y dx dy d p rx ry e Q k
  cases rx with
  | int i =>
    cases ry with
    | int j => cases e; exact ⟨_, _, rfl, rfl, k _ _ (aft_same p (.int _))⟩
    | _ => cases e
  | _ => cases e
abbrev rMulAll : R2 := fun x y H Q => rI CMulX (fun i j => .int (i * j)) x y H Q ∨ ∃ (a : Str) (k : Int), x = .str a ∧ y = .int k ∧ (k < 2 ^ 40 ∧ -(2 ^ 40) < k) ∧ a.length * k.toNat ≤ sizeLine ∧ Q (.str ⟨(List.replicate k.toNat a.cps.toList).flatten.toArray⟩) H
theorem op_mulAll : OpR X (binaryOp .Mult) rMulAll := op_mulX.or op_mul_str
theorem mulD_sem : R2S X.K rMulAll false mulD := by
  intro β O H bx x y dx dy d p rx ry e Q k
  cases rx with
  | int i =>
    cases ry with
    | int j =>
      have e : (if (Builtin.Int.intBits i : Int) + (Builtin.Int.intBits j : Int) ≤ 134217728 then some (PyData.int (i * j)) else none) = some d := e
      by_cases z : (Builtin.Int.intBits i : Int) + (Builtin.Int.intBits j : Int) ≤ 134217728
      · rw [if_pos z] at e; cases e; exact .inl ⟨_, _, rfl, rfl, z, k _ _ (aft_same p (.int _))⟩
      · rw [if_neg z] at e; cases e
    | _ => cases e
  | str i =>
    cases ry with
    | int j =>
      have e : (if j < 2 ^ 40 ∧ -(2 ^ 40) < j then (if i.length * j.toNat ≤ sizeLine then some (PyData.str ⟨(List.replicate j.toNat i.cps.toList).flatten.toArray⟩) else none) else none) = some d := e
      by_cases z : j < 2 ^ 40 ∧ -(2 ^ 40) < j
      · rw [if_pos z] at e
        by_cases z2 : i.length * j.toNat ≤ sizeLine
        · rw [if_pos z2] at e; cases e; exact .inr ⟨_, _, rfl, rfl, z, z2, k _ _ (aft_same p (.str _))⟩
        · rw [if_neg z2] at e; cases e
      · rw [if_neg z] at e; cases e
    | _ => cases e
  | _ => cases e
theorem mulLD_sem : R2S X.K rRep true mulLD := by
  intro β O H bx x y dx dy d p rx ry e Q k
  cases rx with
  | lst a b c =>
    cases ry with
    | int j =>
      rename_i xs ds
      have e : (if j < 2 ^ 40 ∧ -(2 ^ 40) < j then (if ds.length * j.toNat ≤ sizeLine then some (PyData.list (List.replicate j.toNat ds).flatten) else none) else none) = some d := e
      by_cases z : j < 2 ^ 40 ∧ -(2 ^ 40) < j
      · rw [if_pos z] at e
        by_cases z2 : ds.length * j.toNat ≤ sizeLine
        · rw [if_pos z2] at e; cases e
          exact ⟨_, _, _, rfl, rfl, a, by omega, by omega, by rw [c.length]; exact z2, fun q hq => k _ _ (aft_new_lst p (c.flat _) hq)⟩
        · rw [if_neg z2] at e; cases e
      · rw [if_neg z] at e; cases e
    | _ => cases e
  | _ => cases e
theorem fdivD_sem : R2S X.K (rI CDivW fun i j => .int (i / j)) false fdivD := by
  intro β O H bx x y dx dy d p rx ry e Q k
  cases rx with
  | int i =>
    cases ry with
    | int j =>
      have e : (if 0 < j ∧ j.natAbs.log2 < 9000 then some (PyData.int (i / j)) else none) = some d := e
      by_cases z : 0 < j ∧ j.natAbs.log2 < 9000
      · rw [if_pos z] at e; cases e; exact ⟨_, _, rfl, rfl, z, k _ _ (aft_same p (.int _))⟩
      · rw [if_neg z] at e; cases e
    | _ => cases e
  | _ => cases e
theorem modD_sem : R2S X.K (rI (fun _ j => 0 < j) fun i j => .int (i % j)) false modD := by
  intro β O H bx x y dx dy d p rx ry e Q k
  cases rx with
  | int i =>
    cases ry with
    | int j =>
      have e : (if 0 < j then some (PyData.int (i % j)) else none) = some d := e
      by_cases z : 0 < j
      · rw [if_pos z] at e; cases e; exact ⟨_, _, rfl, rfl, z, k _ _ (aft_same p (.int _))⟩
      · rw [if_neg z] at e; cases e
    | _ => cases e
  | _ => cases e
theorem powD_sem : R2S X.K (rI CPow fun i j => .int (i ^ j.toNat)) false powD := by
  intro β O H bx x y dx dy d p rx ry e Q k
  cases rx with
  | int i =>
    cases ry with
    | int j =>
      have e : (if 0 ≤ j ∧ j ≤ 1000000 ∧ i.natAbs < 2 ^ 64 then some (PyData.int (i ^ j.toNat)) else none) = some d := e
      by_cases z : 0 ≤ j ∧ j ≤ 1000000 ∧ i.natAbs < 2 ^ 64
      · rw [if_pos z] at e; cases e; exact ⟨_, _, rfl, rfl, z, k _ _ (aft_same p (.int _))⟩
      · rw [if_neg z] at e; cases e
    | _ => cases e
  | _ => cases e
theorem negD_sem : R1S X.K (rU fun i => .int (-i)) false negD := by
  intro β O H bx x dx d p rx e Q k
  cases rx with
  | int i => cases e; exact ⟨_, rfl, k _ _ (aft_same p (.int _))⟩
  | _ => cases e
theorem ltD_sem : R2S X.K (rI0 fun i j => .bl (decide (i < j))) false ltD := by
  intro β O H bx x y dx dy d p rx ry e Q k
  cases rx with
  | int i =>
    cases ry with
    | int j => cases e; exact ⟨_, _, rfl, rfl, k _ _ (aft_same p (.bl _))⟩
    | _ => cases e
  | _ => cases e
theorem leD_sem : R2S X.K (rI0 fun i j => .bl (decide (i ≤ j))) false leD := by
  intro β O H bx x y dx dy d p rx ry e Q k
  cases rx with
  | int i =>
    cases ry with
    | int j => cases e; exact ⟨_, _, rfl, rfl, k _ _ (aft_same p (.bl _))⟩
    | _ => cases e
  | _ => cases e
theorem gtD_sem : R2S X.K (rI0 fun i j => .bl (decide (j < i))) false gtD := by
  intro β O H bx x y dx dy d p rx ry e Q k
  cases rx with
  | int i =>
    cases ry with
    | int j => cases e; exact ⟨_, _, rfl, rfl, k _ _ (aft_same p (.bl _))⟩
    | _ => cases e
  | _ => cases e
theorem geD_sem : R2S X.K (rI0 fun i j => .bl (decide (j ≤ i))) false geD := by
  intro β O H bx x y dx dy d p rx ry e Q k
  cases rx with
  | int i =>
    cases ry with
    | int j => cases e; exact ⟨_, _, rfl, rfl, k _ _ (aft_same p (.bl _))⟩
    | _ => cases e
  | _ => cases e
theorem gI {g : D → D → Option D} {f : Int → Int → Bool} (h : ∀ a b, g a b = match a, b with | .int i, .int j => some (.bool (f i j)) | _, _ => none) : ∀ x y d, g x y = some d → ∃ c, d = .bool c := by
  intro x y d e
  rw [h] at e
  split at e
  · cases e; exact ⟨_, rfl⟩
  · cases e

/-! ### == and != -/
theorem eqB_sem {K β O H bx} {x y : V} {dx dy : D} {c : Bool} (p : Pre β O H bx) (rx : Rp K β O H x dx) (ry : Rp K β O H y dy) (e : eqB dx dy = some c) :
    (scal x y = true ∧ decide (x = y) = c) ∨ (∃ d e', Dp K H x d ∧ Dp K H y e' ∧ SeqAt.shaped d = true ∧ SeqAt.shaped e' = true ∧ PyData.eqv d e' = c) := by
  have gen : (if noDict dx && noDict dy && SeqAt.shaped dx && SeqAt.shaped dy then some (PyData.eqv dx dy) else none) = some c → (∃ d e', Dp K H x d ∧ Dp K H y e' ∧ SeqAt.shaped d = true ∧ SeqAt.shaped e' = true ∧ PyData.eqv d e' = c) := by
    intro e
    by_cases z : (noDict dx && noDict dy && SeqAt.shaped dx && SeqAt.shaped dy) = true
    · rw [if_pos z] at e
      simp only [Bool.and_eq_true] at z
      cases e
      exact ⟨dx, dy, Rp.dp _ _ rx z.1.1.1, Rp.dp _ _ ry z.1.1.2, z.1.2, z.2, rfl⟩
    · rw [if_neg z] at e; cases e
  unfold eqB at e
  split at e
  · cases rx; cases ry; cases e
    refine .inl ⟨rfl, ?_⟩
    rw [dec_int]
    exact (Bool.beq_eq_decide_eq _ _)
  · cases rx; cases ry; cases e
    refine .inl ⟨rfl, ?_⟩
    rw [dec_str]
    exact (Bool.beq_eq_decide_eq _ _)
  · cases rx; cases ry; cases e
    refine .inl ⟨rfl, ?_⟩
    rw [dec_bl]
    exact (Bool.beq_eq_decide_eq _ _)
  · exact .inr (gen e)
abbrev rEqAll (K : PySem.W.Frag) : R2 := fun x y H Q => rEq x y H Q ∨ rEqD K x y H Q
abbrev rNeAll (K : PySem.W.Frag) : R2 := fun x y H Q => rNe x y H Q ∨ rNeD K x y H Q
theorem eqD_sem : R2S X.K (rEqAll X.K) false eqD := by
  intro β O H bx x y dx dy d p rx ry e Q k
  unfold eqD at e
  cases z : eqB dx dy with
  | none => rw [z] at e; cases e
  | some c =>
    rw [z] at e
    cases e
    have kk := k (.bl c) H (aft_same p (.bl _))
    rcases eqB_sem p rx ry z with ⟨a, b⟩ | ⟨d, e', a, b, s1, s2, f⟩
    · exact .inl ⟨a, by rw [b]; exact kk⟩
    · exact .inr ⟨d, e', a, b, s1, s2, by rw [f]; exact kk⟩
theorem neD_sem : R2S X.K (rNeAll X.K) false neD := by
  intro β O H bx x y dx dy d p rx ry e Q k
  unfold neD at e
  cases z : eqB dx dy with
  | none => rw [z] at e; cases e
  | some c =>
    rw [z] at e
    cases e
    have kk := k (.bl (!c)) H (aft_same p (.bl _))
    rcases eqB_sem p rx ry z with ⟨a, b⟩ | ⟨d, e', a, b, s1, s2, f⟩
    · exact .inl ⟨a, by rw [b]; exact kk⟩
    · exact .inr ⟨d, e', a, b, s1, s2, by rw [f]; exact kk⟩
theorem gB {g : D → D → Option D} {f : D → D → Option Bool} {n : Bool → Bool} (h : ∀ a b, g a b = (f a b).map fun c => .bool (n c)) : ∀ x y d, g x y = some d → ∃ c, d = .bool c := by
  intro x y d e
  rw [h] at e
  cases z : f x y with
  | none => rw [z] at e; cases e
  | some c => rw [z] at e; cases e; exact ⟨_, rfl⟩
theorem op_eqAll {k : Nat} (hr : Room k X.A) : OpR X (compareOp .Eq) (rEqAll X.K) := op_eq.or (op_eqD hr.units)
theorem op_neAll {k : Nat} (hr : Room k X.A) : OpR X (compareOp .NotEq) (rNeAll X.K) := op_ne.or (op_neD hr.units)

/-! ### is None -/
theorem isNB_sem {K β O H} {x y : V} {dx dy : D} {c : Bool} (rx : Rp K β O H x dx) (ry : Rp K β O H y dy) (e : isNB dx dy = some c) : y = .non ∧ decide (x = .non) = c := by
  cases ry with
  | non =>
    cases rx with
    | non => cases e; exact ⟨rfl, rfl⟩
    | bl => cases e; exact ⟨rfl, rfl⟩
    | int => cases e; exact ⟨rfl, rfl⟩
    | str => cases e; exact ⟨rfl, rfl⟩
    | lst => cases e; exact ⟨rfl, rfl⟩
    | tup => cases e; exact ⟨rfl, rfl⟩
    | box => cases e; exact ⟨rfl, rfl⟩
    | rolT => cases e; exact ⟨rfl, rfl⟩
    | rolW => cases e; exact ⟨rfl, rfl⟩
    | exc => cases e; exact ⟨rfl, rfl⟩
    | dct => cases e; exact ⟨rfl, rfl⟩
  | _ => cases rx <;> cases e
theorem isND_sem : R2S X.K (fun x y H Q => y = .non ∧ Q (.bl (decide (x = .non))) H) false isND := by
  intro β O H bx x y dx dy d p rx ry e Q k
  unfold isND at e
  cases z : isNB dx dy with
  | none => rw [z] at e; cases e
  | some c =>
    rw [z] at e; cases e
    obtain ⟨a, b⟩ := isNB_sem rx ry z
    exact ⟨a, by rw [b]; exact k _ _ (aft_same p (.bl _))⟩
theorem notND_sem : R2S X.K (fun x y H Q => y = .non ∧ Q (.bl (!decide (x = .non))) H) false notND := by
  intro β O H bx x y dx dy d p rx ry e Q k
  unfold notND at e
  cases z : isNB dx dy with
  | none => rw [z] at e; cases e
  | some c =>
    rw [z] at e; cases e
    obtain ⟨a, b⟩ := isNB_sem rx ry z
    exact ⟨a, by rw [b]; exact k _ _ (aft_same p (.bl _))⟩

/-! ### in -/
theorem flatS_V {K β O H} {x : V} {d : D} (r : Rp K β O H x d) (f : flatS d = true) : flatV x = true ∧ ∀ {y : V} {e : D}, Rp K β O H y e → flatS e = true → eqV y x = PyData.eqv e d := by
  refine ⟨by (cases r <;> first | rfl | (cases f; done)), fun {y e} r2 f2 => ?_⟩
  cases r <;> first | (cases f; done) | (cases r2 <;> first | (cases f2; done) | rfl | (unfold PyData.eqv; rfl) | (simp [eqV, PyData.eqv]; done))
theorem inItems_V {K β O H} {x : V} {d : D} (r : Rp K β O H x d) (f : flatS d = true) : ∀ {xs : List V} {ds : List D}, RpA K β O H xs ds → ds.all flatS = true → xs.all flatV = true ∧ inV x xs = inItems d ds
  | _, _, .nil, _ => ⟨rfl, rfl⟩
  | _, _, .cons a b, g => by
    rw [List.all_cons, Bool.and_eq_true] at g
    obtain ⟨h1, h2⟩ := inItems_V r f b g.2
    refine ⟨by rw [List.all_cons, (flatS_V a g.1).1, h1]; rfl, ?_⟩
    unfold inV inItems at *
    rw [List.any_cons, List.any_cons, h2, (flatS_V r f).2 a g.1]
abbrev rInAll (K : PySem.W.Frag) (neg : Bool) : R2 := fun x y H Q => (∃ (c : Nat) (z : Str), x = .str ⟨#[c]⟩ ∧ y = .str z ∧ Q (.bl (if neg then !decide (c ∈ z.cps.toList) else decide (c ∈ z.cps.toList))) H) ∨ rIn K neg x y H Q
theorem inB_sem {K β O H bx} {x y : V} {dx dy : D} {c : Bool} (neg : Bool) (p : Pre β O H bx) (rx : Rp K β O H x dx) (ry : Rp K β O H y dy) (e : inB dx dy = some c) {Q : VK} (k : Q (.bl (if neg then !c else c)) H) : rInAll K neg x y H Q := by
  unfold inB at e
  split at e
  · rename_i a z
    cases rx; cases ry
    split at e
    · rename_i ch he
      cases e
      have : a = ⟨#[ch]⟩ := by
        obtain ⟨cps⟩ := a
        simp only at he
        rw [← Array.toArray_toList (xs := cps), he]
      subst this
      exact .inl ⟨ch, z, rfl, rfl, k⟩
    · cases e
  · rename_i ys
    by_cases z : (flatS dx && ys.all flatS) = true
    · rw [if_pos z] at e; cases e
      rw [Bool.and_eq_true] at z
      cases ry with
      | lst a b c =>
        obtain ⟨h1, h2⟩ := inItems_V rx z.1 c z.2
        exact .inr ⟨_, _, rfl, .inl (SqL.of a), (flatS_V rx z.1).1, h1, by rw [h2]; exact k⟩
    · rw [if_neg z] at e; cases e
  · rename_i ys
    by_cases z : (flatS dx && ys.all flatS) = true
    · rw [if_pos z] at e; cases e
      rw [Bool.and_eq_true] at z
      cases ry with
      | tup a c =>
        obtain ⟨h1, h2⟩ := inItems_V rx z.1 c z.2
        exact .inr ⟨_, _, rfl, .inr (SqT.of a), (flatS_V rx z.1).1, h1, by rw [h2]; exact k⟩
    · rw [if_neg z] at e; cases e
  · cases e
theorem op_inAll : OpR X (compareOp .In) (rInAll X.K false) := op_in_sign.or op_in_seq
theorem op_ninAll : OpR X (compareOp .NotIn) (rInAll X.K true) := op_notIn_sign.or op_notIn_seq
theorem inD_sem : R2S X.K (rInAll X.K false) false inD := by
  intro β O H bx x y dx dy d p rx ry e Q k
  unfold inD at e
  cases z : inB dx dy with
  | none => rw [z] at e; cases e
  | some c => rw [z] at e; cases e; exact inB_sem false p rx ry z (k _ _ (aft_same p (.bl _)))
theorem ninD_sem : R2S X.K (rInAll X.K true) false ninD := by
  intro β O H bx x y dx dy d p rx ry e Q k
  unfold ninD at e
  cases z : inB dx dy with
  | none => rw [z] at e; cases e
  | some c => rw [z] at e; cases e; exact inB_sem true p rx ry z (k _ _ (aft_same p (.bl _)))
end
end MD
end

section
set_option Elab.async false
set_option linter.all false
set_option maxRecDepth 100000
namespace MD
open PySem PySem.Spec PyProof.Rows L2

/-! ### subscripts -/
def ixD : D → D → Option D
  | .list ds, .int i => atI ds i
  | .tuple ds, .int i => atI ds i
  | .str z, .int i => if z.length ≤ sizeLine then (atI z.cps.toList i).map fun c => .str ⟨#[c]⟩ else none
  | .dict [(.none, .list ds)], .int i => atI ds i
  | _, _ => none
def boxAt : Bx → Int → Option D
  | some (x, y, z), i => atI [.int x, .int y, .int z] i
  | none, _ => none
def ixM (x y : D) : M D := fun bx => match x, y with
  | .dict [], .int i => (boxAt bx i).map (·, bx)
  | _, _ => opt (ixD x y) bx
theorem ixM_inv {x y d : D} {bx bx' : Bx} (h : ixM x y bx = some (d, bx')) : bx' = bx ∧ (ixD x y = some d ∨ (x = .dict [] ∧ ∃ i, y = .int i ∧ boxAt bx i = some d)) := by
  unfold ixM at h
  split at h
  · rename_i i
    cases z : boxAt bx i with
    | none => rw [z] at h; cases h
    | some d' => rw [z] at h; cases h; exact ⟨rfl, .inr ⟨rfl, i, rfl, z⟩⟩
  · obtain ⟨q3, q4⟩ := opt_some h
    exact ⟨q4, .inl q3⟩
def eIx (a b : Ef) : Ef := fun env => bnd (a env) fun x => bnd (b env) fun y => ixM x y
theorem atI_rp {K β O H} {vs : List V} {ds : List D} (r : RpA K β O H vs ds) {i : Int} {d : D} (e : atI ds i = some d) : ∃ v, atI vs i = some v ∧ Rp K β O H v d := by
  unfold atI at e ⊢
  rw [r.length]
  cases z : ixN ds.length i with
  | none => rw [z] at e; cases e
  | some j =>
    rw [z] at e
    exact r.get e
/-! ### slices -/
def cutL {α : Type} (xs : List α) (lo hi : Option Int) : List α := (xs.drop (HT.sIx xs.length 0 lo)).take (HT.sIx xs.length xs.length hi - HT.sIx xs.length 0 lo)
theorem cut_rp {K β O H} {vs : List V} {ds : List D} (r : RpA K β O H vs ds) (lo hi : Option Int) : RpA K β O H (cutV vs lo hi) (cutL ds lo hi) := by
  unfold cutV cutL
  rw [r.length]
  exact (r.drop _).take _
def slD : D → Option Int → Option Int → Option D
  | .str z, lo, hi => if z.length ≤ sizeLine then some (.str (cutS z lo hi)) else none
  | .list ds, lo, hi => some (.list (cutL ds lo hi))
  | .tuple ds, lo, hi => some (.tuple (cutL ds lo hi))
  | .dict [(.none, .list ds)], lo, hi => some (.list (cutL ds lo hi))
  | _, _, _ => none
def slLD : D → Option Int → Option Int → Option D
  | .list ds, lo, hi => some (.list (cutL ds lo hi))
  | .dict [(.none, .list ds)], lo, hi => some (.list (cutL ds lo hi))
  | _, _, _ => none
abbrev Pf := Ev → M (Option Int)
def pNo : Pf := fun _ => ret none
def intD : D → Option (Option Int)
  | .int i => some (some i)
  | _ => none
def pSo (a : Ef) : Pf := fun env => bnd (a env) fun x => opt (intD x)
def eSl (g : D → Option Int → Option Int → Option D) (a : Ef) (l u : Pf) : Ef := fun env => bnd (a env) fun x => bnd (l env) fun lo => bnd (u env) fun hi => opt (g x lo hi)
structure SO (X : Cx) (e : Option Expr) (f : Pf) : Prop where
  run : ∃ t, PO X e t ∧ ∀ β O H σ env bx d bx', EnvR X.K β O H env σ → Pre β O H bx → f env bx = some (d, bx') → ∀ Q : Option Int → Hp → Prop, (∀ H', Kp (bO β) H H' → BoxOk β H' bx' → Q d H') → t σ H Q
section
variable {X : Cx}
theorem so_no : SO X none pNo := ⟨_, po_none, fun β O H σ env bx d bx' E p q Q k => by
  have q : some (none, bx) = some (d, bx') := q
  cases q
  exact k H .refl p.box⟩
theorem so_so {e : Expr} {fr : Bool} {f : Ef} (A : SE X fr e f) : SO X (some e) (pSo f) := by
  obtain ⟨t, pe, r⟩ := A.run
  refine ⟨_, po_some pe, fun β O H σ env bx d bx' E p q Q k => ?_⟩
  obtain ⟨x, bx1, q1, q⟩ := bnd_some q
  obtain ⟨q3, q4⟩ := opt_some q
  have q4 : bx' = bx1 := q4
  subst q4
  refine r β O H σ env bx x bx' E p q1 _ fun v H1 a1 => ?_
  cases a1.rp with
  | int i =>
    have q3 : some (some i) = some d := q3
    cases q3
    exact ⟨i, rfl, k H1 a1.kp a1.box⟩
  | _ => cases q3
theorem se_ix {ea eb : Expr} {fa fb : Bool} {a b : Ef} {pos : Pos} (A : SE X fa ea a) (B : SE X fb eb b) (hs : PlainIx eb := by exact fun _ _ => rfl) : SE X false (.Subscript ea eb pos) (eIx a b) := by
  obtain ⟨ta, pa, ra⟩ := A.run
  obtain ⟨tb, pb, rb⟩ := B.run
  refine ⟨_, pe_ix ix_seq pa pb hs, fun β O H σ env bx d bx' E p q Q k => ?_⟩
  obtain ⟨x, bx1, q1, q⟩ := bnd_some q
  obtain ⟨y, bx2, q2, q⟩ := bnd_some q
  refine ra β O H σ env bx x bx1 E p q1 _ fun v H1 a1 => ?_
  have p1 := p.step a1.kp a1.box
  refine rb β O H1 σ env bx1 y bx2 (E.step (p.kO a1.kp)) p1 q2 _ fun u H2 a2 => ?_
  have p2 := p1.step a2.kp a2.box
  have rx := a1.rp.kp (p1.kO a2.kp)
  have ry := a2.rp
  have fin : ∀ w, Rp X.K β O H2 w d → bx' = bx2 → Q w H2 := fun w r e => by
    subst e
    exact k w H2 ⟨a1.kp.trans a2.kp, a2.box, r, fun z => nomatch z⟩
  have oth : ixD x y = some d ∧ bx' = bx2 → rIx X.K v u H2 Q := fun ⟨e, e2⟩ => by
    cases rx with
    | str z =>
      cases ry with
      | int i =>
        have e : (if z.length ≤ sizeLine then (atI z.cps.toList i).map (fun c => PyData.str ⟨#[c]⟩) else none) = some d := e
        by_cases h : z.length ≤ sizeLine
        · rw [if_pos h] at e
          cases h2 : atI z.cps.toList i with
          | none => rw [h2] at e; cases e
          | some c => rw [h2] at e; cases e; exact .inr (.inr ⟨z, i, c, rfl, rfl, h, h2, fin _ (.str _) e2⟩)
        · rw [if_neg h] at e; cases e
      | _ => cases e
    | lst a b c =>
      cases ry with
      | int i =>
        obtain ⟨w, h1, h2⟩ := atI_rp c e
        exact .inl ⟨_, _, i, w, rfl, rfl, SqL.of a, h1, fin w h2 e2⟩
      | _ => cases e
    | tup a c =>
      cases ry with
      | int i =>
        obtain ⟨w, h1, h2⟩ := atI_rp c e
        exact .inr (.inl ⟨_, _, i, w, rfl, rfl, SqT.of a, h1, fin w h2 e2⟩)
      | _ => cases e
    | rolT a b c =>
      cases ry with
      | int i =>
        obtain ⟨w, h1, h2⟩ := atI_rp c e
        exact .inl ⟨_, _, i, w, rfl, rfl, .inl a, h1, fin w h2 e2⟩
      | _ => cases e
    | rolW a c =>
      cases ry with
      | int i =>
        obtain ⟨w, h1, h2⟩ := atI_rp c e
        exact .inl ⟨_, _, i, w, rfl, rfl, a _, h1, fin w h2 e2⟩
      | _ => cases e
    | _ => cases e
  obtain ⟨q4, q5 | ⟨ex, i, ey, h⟩⟩ := ixM_inv q
  · exact oth ⟨q5, q4⟩
  · subst ex ey q4
    cases rx with
    | box e =>
      cases ry with
      | int =>
        have bo := a2.box
        unfold BoxOk at bo
        subst e
        match bx', bo, h, fin with
        | some (x, y, z), bo, h, fin =>
          have h : atI [PyData.int x, .int y, .int z] i = some d := h
          obtain ⟨w, h1, h2⟩ := atI_rp (K := X.K) (O := O) (H := H2) (vs := [.int x, .int y, .int z]) (.cons (.int x) (.cons (.int y) (.cons (.int z) .nil))) h
          exact .inl ⟨_, _, i, w, rfl, rfl, SqL.of bo, h1, fin w h2 rfl⟩
abbrev rSlAll (K : PySem.W.Frag) : V → Option Int → Option Int → Hp → VK → Prop := fun x lo hi H Q => rSlL K x lo hi H Q ∨ rSlS x lo hi H Q ∨ rSlA K x lo hi H Q
theorem slD_sem {β O H bx} {x : V} {dx d : D} {lo hi : Option Int} (p : Pre β O H bx) (rx : Rp X.K β O H x dx) (e : slD dx lo hi = some d) {Q : VK} (k : ∀ v H', Aft X.K β O H bx d false v H' → Q v H') : rSlAll X.K x lo hi H Q := by
  cases rx with
  | str z =>
    have e : (if z.length ≤ sizeLine then some (PyData.str (cutS z lo hi)) else none) = some d := e
    by_cases h : z.length ≤ sizeLine
    · rw [if_pos h] at e; cases e; exact .inr (.inl ⟨z, rfl, h, k _ _ (aft_same p (.str _))⟩)
    · rw [if_neg h] at e; cases e
  | lst a b c =>
    cases e
    refine .inl ⟨_, _, rfl, SqL.of a, fun q hq => ?_⟩
    have z := aft_new_lst p (cut_rp c lo hi) hq
    exact k _ _ ⟨z.kp, z.box, z.rp, fun w => nomatch w⟩
  | rolT a b c =>
    cases e
    refine .inl ⟨_, _, rfl, .inl a, fun q hq => ?_⟩
    have z := aft_new_lst p (cut_rp c lo hi) hq
    exact k _ _ ⟨z.kp, z.box, z.rp, fun w => nomatch w⟩
  | rolW a c =>
    cases e
    refine .inl ⟨_, _, rfl, a _, fun q hq => ?_⟩
    have z := aft_new_lst p (cut_rp c lo hi) hq
    exact k _ _ ⟨z.kp, z.box, z.rp, fun w => nomatch w⟩
  | tup a c =>
    cases e
    rename_i xs ds
    refine .inr (.inr ⟨_, _, rfl, SqT.of a, fun ⟨h1, h2⟩ => ?_, fun _ q hq => k _ _ (aft_new_tup p (cut_rp c lo hi) hq)⟩)
    have : cutL ds lo hi = ds := by
      unfold cutL
      rw [c.length] at h1 h2
      rw [h1, h2]
      simp
    rw [this] at k
    exact k _ _ (aft_same p (.tup a c))
  | _ => cases e
theorem slLD_sem {β O H bx} {x : V} {dx d : D} {lo hi : Option Int} (p : Pre β O H bx) (rx : Rp X.K β O H x dx) (e : slLD dx lo hi = some d) {Q : VK} (k : ∀ v H', Aft X.K β O H bx d true v H' → Q v H') : rSlL X.K x lo hi H Q := by
  cases rx with
  | lst a b c => cases e; exact ⟨_, _, rfl, SqL.of a, fun q hq => k _ _ (aft_new_lst p (cut_rp c lo hi) hq)⟩
  | rolT a b c => cases e; exact ⟨_, _, rfl, .inl a, fun q hq => k _ _ (aft_new_lst p (cut_rp c lo hi) hq)⟩
  | rolW a c => cases e; exact ⟨_, _, rfl, a _, fun q hq => k _ _ (aft_new_lst p (cut_rp c lo hi) hq)⟩
  | _ => cases e
theorem se_slG {r : V → Option Int → Option Int → Hp → VK → Prop} {g : D → Option Int → Option Int → Option D} {fr : Bool} (hr : SlR X r)
    (hs : ∀ β O H bx x dx d lo hi, Pre β O H bx → Rp X.K β O H x dx → g dx lo hi = some d → ∀ Q : VK, (∀ v H', Aft X.K β O H bx d fr v H' → Q v H') → r x lo hi H Q)
    {e : Expr} {lo hi : Option Expr} {fa : Bool} {a : Ef} {l u : Pf} {p2 pos : Pos} (A : SE X fa e a) (L : SO X lo l) (U : SO X hi u) : SE X fr (.Subscript e (.Slice lo hi none p2) pos) (eSl g a l u) := by
  obtain ⟨ta, pa, ra⟩ := A.run
  obtain ⟨tl, pl, rl⟩ := L.run
  obtain ⟨tu, pu, ru⟩ := U.run
  refine ⟨_, pe_slice hr pa pl pu, fun β O H σ env bx d bx' E p q Q k => ?_⟩
  obtain ⟨x, bx1, q1, q⟩ := bnd_some q
  obtain ⟨lo', bx2, q2, q⟩ := bnd_some q
  obtain ⟨hi', bx3, q3, q⟩ := bnd_some q
  obtain ⟨q5, q6⟩ := opt_some q
  have q6 : bx' = bx3 := q6
  subst q6
  refine ra β O H σ env bx x bx1 E p q1 _ fun v H1 a1 => ?_
  have p1 := p.step a1.kp a1.box
  have E1 := E.step (p.kO a1.kp)
  refine rl β O H1 σ env bx1 lo' bx2 E1 p1 q2 _ fun H2 k2 b2 => ?_
  have p2 := p1.step k2 b2
  refine ru β O H2 σ env bx2 hi' bx' (E1.step (p1.kO k2)) p2 q3 _ fun H3 k3 b3 => ?_
  have p3 := p2.step k3 b3
  refine hs β O H3 bx' v x d lo' hi' p3 ((a1.rp.kp (p1.kO k2)).kp (p2.kO k3)) q5 _ fun w H4 a4 => ?_
  refine k w H4 ⟨a1.kp.trans (k2.trans (k3.trans a4.kp)), a4.box, a4.rp, fun z => ?_⟩
  obtain ⟨q, ds, e1, e2, e3, e4⟩ := a4.fr z
  exact ⟨q, ds, e1, e2, p.none (a1.kp.trans (k2.trans k3)) b3 e3, e4⟩
theorem se_sl {e : Expr} {lo hi : Option Expr} {fa : Bool} {a : Ef} {l u : Pf} {p2 pos : Pos} (A : SE X fa e a) (L : SO X lo l) (U : SO X hi u) : SE X false (.Subscript e (.Slice lo hi none p2) pos) (eSl slD a l u) :=
  se_slG (sl_list.or (sl_str.or sl_tupA)) (fun β O H bx x dx d lo hi p rx e Q k => slD_sem p rx e k) A L U
theorem se_slL {e : Expr} {lo hi : Option Expr} {fa : Bool} {a : Ef} {l u : Pf} {p2 pos : Pos} (A : SE X fa e a) (L : SO X lo l) (U : SO X hi u) : SE X true (.Subscript e (.Slice lo hi none p2) pos) (eSl slLD a l u) :=
  se_slG sl_list (fun β O H bx x dx d lo hi p rx e Q k => slLD_sem p rx e k) A L U

/-! ### built-in functions by their arguments -/
theorem se_callB {id : String} {x : Str} {p pos : Pos} {e : Expr} {es : List Expr} {r : List V → Hp → VK → Prop} {fr : Bool} {g : List D → Option D} {as : Ev → M (List D)} (hc : CallR X (.builtin id) r) (hs : RAS X.K r fr g) (A : SA X (e :: es) as)
    (hm : X.mg x = none) (hv : bootBuiltins x = some (.builtin id) := by decide +kernel) (hg : Gl X x := by rfl) (hn : x ≠ "__name__" := by decide) (hdb : (x == ("__debug__" : Str)) = false := by decide)
    (he : starEach (e :: es) X.env = (false, eval e X.env) :: starEach es X.env := by rfl) (hpl : (backTo pos (starEach es X.env)).any (·.1) = false := by rfl) : SE X fr (.Call (.Name x p) (e :: es) [] pos) (eA g as) :=
  se_args A (fun ta pa => pe_callB hc hg hm hv pa hn hdb he hpl) hs
theorem se_callTy {T : String} {x : Str} {p pos : Pos} {e : Expr} {es : List Expr} {r : List V → Hp → VK → Prop} {fr : Bool} {g : List D → Option D} {as : Ev → M (List D)} (hc : CallR X (.type T) r) (hs : RAS X.K r fr g) (A : SA X (e :: es) as)
    (hm : X.mg x = none) (hv : bootBuiltins x = some (.type T) := by decide +kernel) (hg : Gl X x := by rfl) (hn : x ≠ "__name__" := by decide) (hdb : (x == ("__debug__" : Str)) = false := by decide)
    (he : starEach (e :: es) X.env = (false, eval e X.env) :: starEach es X.env := by rfl) (hpl : (backTo pos (starEach es X.env)).any (·.1) = false := by rfl) : SE X fr (.Call (.Name x p) (e :: es) [] pos) (eA g as) :=
  se_args A (fun ta pa => pe_callTy hc hg hm hv pa hn hdb he hpl) hs
def lenD : List D → Option D
  | [.str z] => if z.length ≤ sizeLine then some (.int z.length) else none
  | [.list ds] => some (.int ds.length)
  | [.tuple ds] => some (.int ds.length)
  | [.dict [(.none, .list ds)]] => some (.int ds.length)
  | _ => none
theorem RpA.one {K β O H} {xs : List V} {d : D} (r : RpA K β O H xs [d]) : ∃ v, xs = [v] ∧ Rp K β O H v d := by
  cases r with
  | cons a b => cases b; exact ⟨_, rfl, a⟩
theorem RpA.two {K β O H} {xs : List V} {d e : D} (r : RpA K β O H xs [d, e]) : ∃ v w, xs = [v, w] ∧ Rp K β O H v d ∧ Rp K β O H w e := by
  cases r with
  | cons a b =>
    obtain ⟨w, rfl, h⟩ := b.one
    exact ⟨_, w, rfl, a, h⟩
theorem lenD_sem : RAS X.K (fun xs H Q => ∃ x n, xs = [x] ∧ LenV X.K x H n ∧ Q (.int n) H) false lenD := by
  intro β O H bx xs ds d p r e Q k
  unfold lenD at e
  split at e
  · obtain ⟨v, rfl, h⟩ := r.one
    cases h
    rename_i z
    by_cases h : z.length ≤ sizeLine
    · rw [if_pos h] at e; cases e; exact ⟨_, _, rfl, ⟨h, rfl⟩, k _ _ (aft_same p (.int _))⟩
    · rw [if_neg h] at e; cases e
  · obtain ⟨v, rfl, h⟩ := r.one
    cases h with
    | lst a b c => cases e; exact ⟨_, _, rfl, .inl ⟨_, SqL.of a, c.length.symm⟩, k _ _ (aft_same p (.int _))⟩
  · obtain ⟨v, rfl, h⟩ := r.one
    cases h with
    | tup a c => cases e; exact ⟨_, _, rfl, .inr ⟨_, SqT.of a, c.length.symm⟩, k _ _ (aft_same p (.int _))⟩
  · obtain ⟨v, rfl, h⟩ := r.one
    cases h with
    | rolT a b c => cases e; exact ⟨_, _, rfl, .inl ⟨_, .inl a, c.length.symm⟩, k _ _ (aft_same p (.int _))⟩
    | rolW a c => cases e; exact ⟨_, _, rfl, .inl ⟨_, a _, c.length.symm⟩, k _ _ (aft_same p (.int _))⟩
  · cases e
def absD : List D → Option D
  | [.int i] => some (.int (if i < 0 then -i else i))
  | _ => none
theorem absD_sem : RAS X.K (fun xs H Q => ∃ i, xs = [.int i] ∧ Q (.int (if i < 0 then -i else i)) H) false absD := by
  intro β O H bx xs ds d p r e Q k
  unfold absD at e
  split at e
  · obtain ⟨v, rfl, h⟩ := r.one
    cases h; cases e
    exact ⟨_, rfl, k _ _ (aft_same p (.int _))⟩
  · cases e
def intFD : List D → Option D
  | [.int i] => some (.int i)
  | [.bool k] => some (.int (if k then 1 else 0))
  | _ => none
theorem intFD_sem : RAS X.K (fun xs H Q => (∃ i, xs = [.int i] ∧ Q (.int i) H) ∨ ∃ k, xs = [.bl k] ∧ Q (.int (if k then 1 else 0)) H) false intFD := by
  intro β O H bx xs ds d p r e Q k
  unfold intFD at e
  split at e
  · obtain ⟨v, rfl, h⟩ := r.one
    cases h; cases e
    exact .inl ⟨_, rfl, k _ _ (aft_same p (.int _))⟩
  · obtain ⟨v, rfl, h⟩ := r.one
    cases h; cases e
    exact .inr ⟨_, rfl, k _ _ (aft_same p (.int _))⟩
  · cases e
def listFD : List D → Option D
  | [.list ds] => some (.list ds)
  | [.tuple ds] => some (.list ds)
  | [.dict [(.none, .list ds)]] => some (.list ds)
  | _ => none
theorem listFD_sem : RAS X.K (fun xs H Q => ∃ p ys, xs = [.ref p] ∧ (SqL X.K H p ys ∨ SqT X.K H p ys) ∧ ∀ l, H l = none → Q (.ref l) (upd H l (.lst ys))) true listFD := by
  intro β O H bx xs ds d p r e Q k
  unfold listFD at e
  split at e
  · obtain ⟨v, rfl, h⟩ := r.one
    cases h with
    | lst a b c => cases e; exact ⟨_, _, rfl, .inl (SqL.of a), fun q hq => k _ _ (aft_new_lst p c hq)⟩
  · obtain ⟨v, rfl, h⟩ := r.one
    cases h with
    | tup a c => cases e; exact ⟨_, _, rfl, .inr (SqT.of a), fun q hq => k _ _ (aft_new_lst p c hq)⟩
  · obtain ⟨v, rfl, h⟩ := r.one
    cases h with
    | rolT a b c => cases e; exact ⟨_, _, rfl, .inl (.inl a), fun q hq => k _ _ (aft_new_lst p c hq)⟩
    | rolW a c => cases e; exact ⟨_, _, rfl, .inl (a _), fun q hq => k _ _ (aft_new_lst p c hq)⟩
  · cases e
def tupFD : List D → Option D
  | [.list ds] => some (.tuple ds)
  | [.tuple ds] => some (.tuple ds)
  | _ => none
theorem tupFD_sem : RAS X.K (fun xs H Q => ∃ p ys, xs = [.ref p] ∧ ((SqL X.K H p ys ∧ ∀ l, H l = none → Q (.ref l) (upd H l (.tup ys))) ∨ (SqT X.K H p ys ∧ Q (.ref p) H))) false tupFD := by
  intro β O H bx xs ds d p r e Q k
  unfold tupFD at e
  split at e
  · obtain ⟨v, rfl, h⟩ := r.one
    cases h with
    | lst a b c => cases e; exact ⟨_, _, rfl, .inl ⟨SqL.of a, fun q hq => k _ _ (aft_new_tup p c hq)⟩⟩
  · obtain ⟨v, rfl, h⟩ := r.one
    cases h with
    | tup a c => cases e; exact ⟨_, _, rfl, .inr ⟨SqT.of a, k _ _ (aft_same p (.tup a c))⟩⟩
  · cases e
/-- bools of a list -/
def boolsD : List D → Option (List Bool)
  | [] => some []
  | .bool b :: r => (boolsD r).map (b :: ·)
  | _ => none
theorem bools_rp {K β O H} : ∀ {vs : List V} {ds : List D} {bs : List Bool}, RpA K β O H vs ds → boolsD ds = some bs → vs = bs.map V.bl
  | [], _, _, h, e => by cases h; cases e; rfl
  | v :: vs, _, bs, h, e => by
    cases h with
    | cons a b =>
      cases a with
      | bl c =>
        rename_i ds
        have e : (boolsD ds).map (c :: ·) = some bs := e
        cases z : boolsD ds with
        | none => rw [z] at e; cases e
        | some r => rw [z] at e; cases e; rw [bools_rp b z]; rfl
      | _ => cases e
def allFD : List D → Option D
  | [.list ds] => (boolsD ds).map fun bs => .bool (bs.all id)
  | _ => none
def anyFD : List D → Option D
  | [.list ds] => (boolsD ds).map fun bs => .bool (bs.any id)
  | _ => none
theorem allFD_sem : RAS X.K (rAll X.K) false allFD := by
  intro β O H bx xs ds d p r e Q k
  unfold allFD at e
  split at e
  · obtain ⟨v, rfl, h⟩ := r.one
    rename_i ds
    cases z : boolsD ds with
    | none => rw [z] at e; cases e
    | some bs =>
      rw [z] at e; cases e
      cases h with
      | lst a b c => exact ⟨_, bs, rfl, by rw [← bools_rp c z]; exact SqL.of a, k _ _ (aft_same p (.bl _))⟩
  · cases e
theorem anyFD_sem : RAS X.K (rAny X.K) false anyFD := by
  intro β O H bx xs ds d p r e Q k
  unfold anyFD at e
  split at e
  · obtain ⟨v, rfl, h⟩ := r.one
    rename_i ds
    cases z : boolsD ds with
    | none => rw [z] at e; cases e
    | some bs =>
      rw [z] at e; cases e
      cases h with
      | lst a b c => exact ⟨_, bs, rfl, by rw [← bools_rp c z]; exact SqL.of a, k _ _ (aft_same p (.bl _))⟩
  · cases e
/-- ints of a list, texts of a list -/
def intsD : List D → Option (List Int)
  | [] => some []
  | .int b :: r => (intsD r).map (b :: ·)
  | _ => none
def strsD : List D → Option (List Str)
  | [] => some []
  | .str b :: r => (strsD r).map (b :: ·)
  | _ => none
theorem ints_rp {K β O H} : ∀ {vs : List V} {ds : List D} {bs : List Int}, RpA K β O H vs ds → intsD ds = some bs → vs = bs.map V.int
  | [], _, _, h, e => by cases h; cases e; rfl
  | v :: vs, _, bs, h, e => by
    cases h with
    | cons a b =>
      cases a with
      | int c =>
        rename_i ds
        have e : (intsD ds).map (c :: ·) = some bs := e
        cases z : intsD ds with
        | none => rw [z] at e; cases e
        | some r => rw [z] at e; cases e; rw [ints_rp b z]; rfl
      | _ => cases e
theorem strs_rp {K β O H} : ∀ {vs : List V} {ds : List D} {bs : List Str}, RpA K β O H vs ds → strsD ds = some bs → vs = bs.map V.str
  | [], _, _, h, e => by cases h; cases e; rfl
  | v :: vs, _, bs, h, e => by
    cases h with
    | cons a b =>
      cases a with
      | str c =>
        rename_i ds
        have e : (strsD ds).map (c :: ·) = some bs := e
        cases z : strsD ds with
        | none => rw [z] at e; cases e
        | some r => rw [z] at e; cases e; rw [strs_rp b z]; rfl
      | _ => cases e
def sumFD : List D → Option D
  | [.list ds] => (intsD ds).map fun bs => .int bs.sum
  | _ => none
def maxL : List Int → Option Int
  | [] => none
  | a :: r => match maxL r with
    | none => some a
    | some b => some (if a < b then b else a)
theorem maxL_spec : ∀ {l : List Int} {m : Int}, maxL l = some m → m ∈ l ∧ ∀ y ∈ l, y ≤ m
  | [], _, h => by cases h
  | a :: r, m, h => by
    unfold maxL at h
    cases z : maxL r with
    | none =>
      rw [z] at h
      cases h
      have : r = [] := by
        cases r with
        | nil => rfl
        | cons b r' =>
          unfold maxL at z
          cases z2 : maxL r' <;> rw [z2] at z <;> cases z
      subst this
      exact ⟨by simp, fun y hy => by simp at hy; omega⟩
    | some b =>
      rw [z] at h
      obtain ⟨h1, h2⟩ := maxL_spec z
      have h : some (if a < b then b else a) = some m := h
      cases h
      by_cases c : a < b
      · rw [if_pos c]
        exact ⟨List.mem_cons_of_mem _ h1, fun y hy => by
          rcases List.mem_cons.mp hy with rfl | hy
          · omega
          · exact h2 y hy⟩
      · rw [if_neg c]
        exact ⟨List.mem_cons_self, fun y hy => by
          rcases List.mem_cons.mp hy with rfl | hy
          · omega
          · have := h2 y hy; omega⟩
def maxFD : List D → Option D
  | [.list ds] => match intsD ds with
    | none => none
    | some l => (maxL l).map .int
  | _ => none
theorem sumFD_sem : RAS X.K (rSum X.K) false sumFD := by
  intro β O H bx xs ds d p r e Q k
  unfold sumFD at e
  split at e
  · obtain ⟨v, rfl, h⟩ := r.one
    rename_i ds
    cases z : intsD ds with
    | none => rw [z] at e; cases e
    | some bs =>
      rw [z] at e; cases e
      cases h with
      | lst a b c => exact ⟨_, bs, rfl, by rw [← ints_rp c z]; exact SqL.of a, k _ _ (aft_same p (.int _))⟩
  · cases e
theorem maxFD_sem : RAS X.K (rMax X.K) false maxFD := by
  intro β O H bx xs ds d p r e Q k
  unfold maxFD at e
  split at e
  · obtain ⟨v, rfl, h⟩ := r.one
    rename_i ds
    cases z : intsD ds with
    | none => rw [z] at e; cases e
    | some bs =>
      rw [z] at e
      have e : (maxL bs).map PyData.int = some d := e
      cases z2 : maxL bs with
      | none => rw [z2] at e; cases e
      | some m =>
        rw [z2] at e; cases e
        obtain ⟨h1, h2⟩ := maxL_spec z2
        cases h with
        | lst a b c =>
          refine ⟨_, bs, rfl, by rw [← ints_rp c z]; exact SqL.of a, List.length_pos_of_mem h1, fun m' g1 g2 => ?_⟩
          have : m' = m := by
            have := g2 m h1
            have := h2 m' g1
            omega
          subst this
          exact k _ _ (aft_same p (.int _))
  · cases e

/-! ### isinstance -/
def tyD : D → Option String
  | .none => some "NoneType"
  | .bool _ => some "bool"
  | .int _ => some "int"
  | .str _ => some "str"
  | .list _ => some "list"
  | .tuple _ => some "tuple"
  | .dict _ => none
theorem tyD_X {K β O H} {x : V} {d : D} {t : String} (r : Rp K β O H x d) (e : tyD d = some t) : TyX K H x (.type t) := by
  cases r with
  | non => cases e; exact .base .non
  | bl b => cases e; exact .base (.bl b)
  | int b => cases e; exact .base (.int b)
  | str b => cases e; exact .base (.str b)
  | lst a b c => cases e; exact .base (.lst a)
  | tup a c => cases e; exact .base (.tup a)
  | _ => cases e
def isiAny (t : String) : List String → Option Bool
  | [] => some false
  | c :: cs => match kitB t c with
    | some true => some true
    | some false => isiAny t cs
    | none => none
def isiD (cs : List String) (d : D) : Option D := (tyD d).bind fun t => (isiAny t cs).map .bool
theorem isiAny_kit {K : PySem.W.Frag} {t : String} : ∀ {cs : List String} {b : Bool}, isiAny t cs = some b → PySem.W.kitAny K (.type t) (cs.map Value.type) = some b
  | [], b, h => by cases h; exact kitAny_nil
  | c :: cs, b, h => by
    unfold isiAny at h
    split at h
    · rename_i z
      cases h
      exact kitAny_cons (kit_ty z) (fun q => nomatch q) fun _ => rfl
    · rename_i z
      exact kitAny_cons (kit_ty z) (fun _ => isiAny_kit h) fun q => nomatch q
    · cases h
theorem isi_one {t c : String} {b : Bool} (h : isiAny t [c] = some b) : kitB t c = some b := by
  unfold isiAny at h
  split at h
  · rename_i z; rw [z]; exact h
  · rename_i z; rw [z]; exact h
  · cases h
theorem se_isi {ea : Expr} {fa : Bool} {a : Ef} {c : String} {cn : Str} {p pos pc : Pos} (A : SE X fa ea a) (hm : X.mg "isinstance" = none) (hmc : X.mg cn = none) (hvc : bootBuiltins cn = some (.type c) := by decide +kernel) (hg : Gl X "isinstance" := by rfl) (hgc : Gl X cn := by rfl)
    (hn : cn ≠ "__name__" := by decide) (hdb : (cn == ("__debug__" : Str)) = false := by decide)
    (he : starEach [ea, .Name cn pc] X.env = (false, eval ea X.env) :: starEach [.Name cn pc] X.env := by rfl) (hpl : (backTo pos (starEach [.Name cn pc] X.env)).any (·.1) = false := by rfl) (he2 : starEach [.Name cn pc] X.env = (false, eval (.Name cn pc) X.env) :: starEach [] X.env := by rfl) :
    SE X false (.Call (.Name "isinstance" p) [ea, .Name cn pc] [] pos) (e1 (isiD [c]) a) := by
  obtain ⟨ta, pa, ra⟩ := A.run
  refine ⟨_, pe_callB call_isi hg hm (by decide +kernel) (pa_cons pa (pa_cons (pe_bltn (v := .ty c) hgc hmc hvc rfl hn hdb) pa_nil he2) he) (by decide) (by decide) he hpl, fun β O H σ env bx d bx' E p q Q k => ?_⟩
  obtain ⟨x, bx1, q1, q⟩ := bnd_some q
  obtain ⟨q3, q4⟩ := opt_some q
  have q4 : bx' = bx1 := q4
  subst q4
  refine ra β O H σ env bx x bx' E p q1 _ fun v H1 a1 => ?_
  unfold isiD at q3
  cases z : tyD x with
  | none => rw [z] at q3; cases q3
  | some t =>
    rw [z] at q3
    have q3 : (isiAny t [c]).map PyData.bool = some d := q3
    cases z2 : isiAny t [c] with
    | none => rw [z2] at q3; cases q3
    | some b =>
      rw [z2] at q3; cases q3
      exact ⟨v, .ty c, .type t, .type c, b, rfl, .ty c, tyD_X a1.rp z, kit_ty (isi_one z2), k _ H1 ⟨a1.kp, a1.box, .bl _, fun z => nomatch z⟩⟩
theorem se_isi2 {ea : Expr} {fa : Bool} {a : Ef} {c c' : String} {cn cn' : Str} {p pos pc pc' pt : Pos} {x1} (A : SE X fa ea a) (hm : X.mg "isinstance" = none) (hmc : X.mg cn = none) (hmc' : X.mg cn' = none) (hvc : bootBuiltins cn = some (.type c) := by decide +kernel) (hvc' : bootBuiltins cn' = some (.type c') := by decide +kernel)
    (hg : Gl X "isinstance" := by rfl) (hgc : Gl X cn := by rfl) (hgc' : Gl X cn' := by rfl)
    (hn : cn ≠ "__name__" := by decide) (hdb : (cn == ("__debug__" : Str)) = false := by decide) (hn' : cn' ≠ "__name__" := by decide) (hdb' : (cn' == ("__debug__" : Str)) = false := by decide)
    (he : starEach [ea, .Tuple [.Name cn pc, .Name cn' pc'] x1 pt] X.env = (false, eval ea X.env) :: starEach [.Tuple [.Name cn pc, .Name cn' pc'] x1 pt] X.env := by rfl)
    (hpl : (backTo pos (starEach [.Tuple [.Name cn pc, .Name cn' pc'] x1 pt] X.env)).any (·.1) = false := by rfl)
    (he2 : starEach [.Tuple [.Name cn pc, .Name cn' pc'] x1 pt] X.env = (false, eval (.Tuple [.Name cn pc, .Name cn' pc'] x1 pt) X.env) :: starEach [] X.env := by rfl)
    (he3 : starEach [.Name cn pc, .Name cn' pc'] X.env = (false, eval (.Name cn pc) X.env) :: starEach [.Name cn' pc'] X.env := by rfl) (he4 : starEach [.Name cn' pc'] X.env = (false, eval (.Name cn' pc') X.env) :: starEach [] X.env := by rfl) :
    SE X false (.Call (.Name "isinstance" p) [ea, .Tuple [.Name cn pc, .Name cn' pc'] x1 pt] [] pos) (e1 (isiD [c, c']) a) := by
  obtain ⟨ta, pa, ra⟩ := A.run
  refine ⟨_, pe_callB call_isiT hg hm (by decide +kernel) (pa_cons pa (pa_cons (pe_tup (pa_cons (pe_bltn (v := .ty c) hgc hmc hvc rfl hn hdb) (pa_cons (pe_bltn (v := .ty c') hgc' hmc' hvc' rfl hn' hdb') pa_nil he4) he3)) pa_nil he2) he) (by decide) (by decide) he hpl, fun β O H σ env bx d bx' E p q Q k => ?_⟩
  obtain ⟨x, bx1, q1, q⟩ := bnd_some q
  obtain ⟨q3, q4⟩ := opt_some q
  have q4 : bx' = bx1 := q4
  subst q4
  refine ra β O H σ env bx x bx' E p q1 _ fun v H1 a1 => ?_
  unfold isiD at q3
  cases z : tyD x with
  | none => rw [z] at q3; cases q3
  | some t =>
    rw [z] at q3
    have q3 : (isiAny t [c, c']).map PyData.bool = some d := q3
    cases z2 : isiAny t [c, c'] with
    | none => rw [z2] at q3; cases q3
    | some b =>
      rw [z2] at q3; cases q3
      refine ⟨by show 2 ≤ sizeLine; decide, fun q hq => ?_⟩
      have p1 := p.step a1.kp a1.box
      have an := aft_new_tup (K := X.K) p1 (xs := []) (ds := []) .nil hq
      have kk : Kp (bO β) H1 (upd H1 q (.tup [.ty c, .ty c'])) := Kp.new hq
      have bb : BoxOk β (upd H1 q (.tup [.ty c, .ty c'])) bx' := by
        have b := p1.box
        unfold BoxOk at b ⊢
        split at b
        · trivial
        · rw [upd_ne (fun z => by rw [z, hq] at b; cases b)]; exact b
        · exact b.elim
      have rr := a1.rp.kp (p1.kO kk)
      exact ⟨v, q, [.ty c, .ty c'], .type t, [.type c, .type c'], b, rfl, upd_same, .cons (.ty c) (.cons (.ty c') .nil), tyD_X rr z, isiAny_kit z2, k _ _ ⟨a1.kp.trans kk, bb, .bl _, fun z => nomatch z⟩⟩

/-! ### texts -/
def joinD : D → D → Option D
  | .str a, .list ys => match strsD ys with
    | none => none
    | some l => if (l.map (·.length)).sum + l.length * a.length ≤ 16777216 then some (.str (Txt.join a l)) else none
  | _, _ => none
def startsD : D → D → Option D
  | .str a, .str b => some (.bool (Txt.startswith a b))
  | _, _ => none
theorem joinD_inv {x y d : D} (h : joinD x y = some d) : ∃ z ys l, x = .str z ∧ y = .list ys ∧ strsD ys = some l ∧ (l.map (·.length)).sum + l.length * z.length ≤ 16777216 ∧ d = .str (Txt.join z l) := by
  unfold joinD at h
  split at h
  · rename_i z ys
    cases z2 : strsD ys with
    | none => rw [z2] at h; cases h
    | some l =>
      rw [z2] at h
      have h : (if (l.map (·.length)).sum + l.length * z.length ≤ 16777216 then some (PyData.str (Txt.join z l)) else none) = some d := h
      by_cases c : (l.map (·.length)).sum + l.length * z.length ≤ 16777216
      · rw [if_pos c] at h; cases h; exact ⟨z, ys, l, rfl, rfl, z2, c, rfl⟩
      · rw [if_neg c] at h; cases h
  · cases h
theorem startsD_inv {x y d : D} (h : startsD x y = some d) : ∃ a b, x = .str a ∧ y = .str b ∧ d = .bool (Txt.startswith a b) := by
  unfold startsD at h
  split at h
  · cases h; exact ⟨_, _, rfl, rfl, rfl⟩
  · cases h
theorem se_join {o e : Expr} {fa fb : Bool} {a b : Ef} {apos pos : Pos} (A : SE X fa o a) (B : SE X fb e b) (hs : starEach [e] X.env = [(false, eval e X.env)] := by rfl) (hbase : attributeBase o "join" X.env (eval o X.env) = eval o X.env := by rfl) (hline : (apos.endLine == pos.line) = true := by rfl) :
    SE X false (.Call (.Attribute o "join" apos) [e] [] pos) (e2 joinD a b) := by
  obtain ⟨ta, pa, ra⟩ := A.run
  obtain ⟨tb, pb, rb⟩ := B.run
  refine ⟨_, pe_join pa pb hs hbase hline, fun β O H σ env bx d bx' E p q Q k => ?_⟩
  obtain ⟨x, bx1, q1, q⟩ := bnd_some q
  obtain ⟨y, bx2, q2, q⟩ := bnd_some q
  obtain ⟨q3, q4⟩ := opt_some q
  have q4 : bx' = bx2 := q4
  subst q4
  refine ra β O H σ env bx x bx1 E p q1 _ fun v H1 a1 => ?_
  have p1 := p.step a1.kp a1.box
  obtain ⟨z, ys, l, rfl, rfl, z2, h, rfl⟩ := joinD_inv q3
  have ev : v = .str z := by cases a1.rp; rfl
  subst ev
  refine ⟨⟨z, rfl⟩, rb β O H1 σ env bx1 _ bx' (E.step (p.kO a1.kp)) p1 q2 _ fun u H2 a2 => ?_⟩
  cases a2.rp with
  | lst a b c =>
    exact ⟨z, _, l, rfl, rfl, .inl (by rw [← strs_rp c z2]; exact SqL.of a), h, k _ H2 ⟨a1.kp.trans a2.kp, a2.box, .str _, fun z => nomatch z⟩⟩
theorem se_starts {o e : Expr} {fa fb : Bool} {a b : Ef} {apos pos : Pos} (A : SE X fa o a) (B : SE X fb e b) (hs : starEach [e] X.env = [(false, eval e X.env)] := by rfl) (hbase : attributeBase o "startswith" X.env (eval o X.env) = eval o X.env := by rfl) (hline : (apos.endLine == pos.line) = true := by rfl) :
    SE X false (.Call (.Attribute o "startswith" apos) [e] [] pos) (e2 startsD a b) := by
  obtain ⟨ta, pa, ra⟩ := A.run
  obtain ⟨tb, pb, rb⟩ := B.run
  refine ⟨_, pe_m1 F.slot_str_startswith F.type_str_startswith mt_startswith pa pb hs hbase hline, fun β O H σ env bx d bx' E p q Q k => ?_⟩
  obtain ⟨x, bx1, q1, q⟩ := bnd_some q
  obtain ⟨y, bx2, q2, q⟩ := bnd_some q
  obtain ⟨q3, q4⟩ := opt_some q
  have q4 : bx' = bx2 := q4
  subst q4
  refine ra β O H σ env bx x bx1 E p q1 _ fun v H1 a1 => ?_
  have p1 := p.step a1.kp a1.box
  obtain ⟨z, w, rfl, rfl, rfl⟩ := startsD_inv q3
  have ev : v = .str z := by cases a1.rp; rfl
  subst ev
  refine ⟨⟨z, rfl⟩, rb β O H1 σ env bx1 _ bx' (E.step (p.kO a1.kp)) p1 q2 _ fun u H2 a2 => ?_⟩
  cases a2.rp
  exact ⟨z, w, rfl, rfl, k _ H2 ⟨a1.kp.trans a2.kp, a2.box, .bl _, fun z => nomatch z⟩⟩
/-- a constant of the module -/
theorem se_gstr {x : Str} {z : Str} {t : Tok} {pos : Pos} (hm : X.mg x = some (.str z t)) (hg : Gl X x := by rfl) (hd : (x == ("__debug__" : Str)) = false := by decide) : SE X false (.Name x pos) (eC (.str z)) :=
  se_c (pe_glob (v := .str z) hg hm (show RelV (.str z) (.str z t) from ⟨t, rfl⟩) hd) fun _ _ _ _ => .str z
end
end MD
end

section
set_option Elab.async false
set_option linter.all false
set_option maxRecDepth 100000
namespace MD
open PySem PySem.Spec PyProof.Rows L2

/-! ### zip of two texts -/
def ItzS (x y : Str) : It :=
  ⟨fun i _ => i < min x.cps.size y.cps.size, fun i H v H' => ∃ T c d, v = .ref T ∧ H T = none ∧ H' = upd H T (.tup [.str ⟨#[c]⟩, .str ⟨#[d]⟩]) ∧ x.cps[i]? = some c ∧ y.cps[i]? = some d, fun i _ => i = min x.cps.size y.cps.size⟩
theorem turn_zipS {P : Program} {w : World} {K : PySem.W.Frag} {elts : List Expr} {kk : Nat} {tpos : Pos} {x y : Str} {t u : Tok} {z TI TO i1 i2 : Addr} (D : ZipSep2 z TI TO i1 i2 [i1] [i2]) :
    Turn P w K (.Tuple elts kk tpos) (ItzS x y) [z, TI, TO, i1, i2] z (fun i h => IsZip h z TI TO .none ∧ IsTupOf2 h TI (.ref i1) (.ref i2) ∧ (∃ a b, IsTupOf2 h TO a b) ∧ h.IsStrIter i1 (strIterType x) x t i ∧ h.IsStrIter i2 (strIterType y) y u i) where
  mem := by simp
  obj := fun i h st c hc => by
    obtain ⟨hz, hTI, ⟨a, b, hTO⟩, ⟨o1, e1, _, d1⟩, ⟨o2, e2, _, d2⟩⟩ := st
    have e' : c = z ∨ c = TI ∨ c = TO ∨ c = i1 ∨ c = i2 := by simpa using hc
    rcases e' with q | q | q | q | q
    · rw [q]; exact ⟨_, hz, fun v q => nomatch q⟩
    · rw [q]; exact ⟨_, hTI, fun v q => nomatch q⟩
    · rw [q]; exact ⟨_, hTO, fun v q => nomatch q⟩
    · rw [q]; exact ⟨o1, e1, fun v q => by rw [d1] at q; cases q⟩
    · rw [q]; exact ⟨o2, e2, fun v q => by rw [d2] at q; cases q⟩
  keep := fun i h h' st k => by
    obtain ⟨hz, hTI, ⟨a, b, hTO⟩, ⟨o1, e1, r1⟩, ⟨o2, e2, r2⟩⟩ := st
    exact ⟨k z (by simp) _ hz, k TI (by simp) _ hTI, ⟨a, b, k TO (by simp) _ hTO⟩, ⟨o1, k i1 (by simp) _ e1, r1⟩, ⟨o2, k i2 (by simp) _ e2, r2⟩⟩
  item := by
    intro X hP hw hK hc i pins s σ H E I hf st hg
    subst hP hw hK
    obtain ⟨hz, hTI, ⟨a0, b0, hTO⟩, h1, h2⟩ := st
    have hg : i < min x.cps.size y.cps.size := hg
    have hzl : z < s.heap.objs.size := Heap.lt_size hz
    have D1 := Draws.text (prog := X.prog) (w := X.w) (A := X.A.in1) (I.ok.hd hc) i1 x t
    have D2 := Draws.text (prog := X.prog) (w := X.w) (A := X.A.in1) (I.ok.hd hc) i2 y u
    refine wpAny_pyNext_zipD2_item D D1 D2 hz hTI hTO h1 h2 (by omega) (by omega) fun x1 x2 h' tk q1 q2 z' TO' h1' h2' hT hsz hk => ?_
    obtain ⟨c, ut, hc1, rfl⟩ := q1
    obtain ⟨d, ut2, hc2, rfl⟩ := q2
    refine ⟨_, rfl, wpAny_letOwnedTupleGo_zip (s := { s with heap := h', toks := tk }) z' fun h'' z'' sb => ?_⟩
    have hT2 : h''.get? s.heap.objs.size = some { cls := .type "tuple", data := .seq #[.str ⟨#[c]⟩ ut, .str ⟨#[d]⟩ ut2] } := (sb.2 _ (Nat.ne_of_gt hzl)).trans hT
    have new : ObjOk X.prog X.w (upd H s.heap.objs.size (.tup [.str ⟨#[c]⟩, .str ⟨#[d]⟩])) h'' s.heap.objs.size (.tup [.str ⟨#[c]⟩, .str ⟨#[d]⟩]) :=
      ⟨by show 2 ≤ sizeLine; decide, [_, _], .cons ⟨ut, rfl⟩ (.cons ⟨ut2, rfl⟩ .nil), ⟨_, hT2, rfl, _, rfl⟩⟩
    have I1 : Inv X pins σ (upd H s.heap.objs.size (.tup [.str ⟨#[c]⟩, .str ⟨#[d]⟩])) { s with heap := h'', toks := tk } :=
      I.turnedNew (t' := tk) (ch := [z, TI, TO, i1, i2]) (fun c o hb q => (sb.2 c (fun q' => hb (by simp [q']))).trans (hk c o (fun q' => hb (by simp [q'])) (fun q' => hb (by simp [q'])) (fun q' => hb (by simp [q'])) (fun q' => hb (by simp [q'])) q)) hf (Nat.le_refl _) new
    refine ⟨.ref s.heap.objs.size, _, I1, rfl, ⟨_, c, d, rfl, I.hok.fresh (Nat.le_refl _), rfl, hc1, hc2⟩, ⟨z'', ?_, ⟨.str ⟨#[c]⟩ ut, .str ⟨#[d]⟩ ut2, ?_⟩, ?_, ?_⟩, fun c hcm => ?_⟩
    · exact (sb.2 _ D.TIz).trans (hk _ _ D.TIz D.TITO D.TIi1 D.TIi2 hTI)
    · exact (sb.2 _ D.TOz).trans TO'
    · obtain ⟨o1, e1, r1⟩ := h1'
      exact ⟨o1, (sb.2 _ D.zi1.symm).trans e1, r1⟩
    · obtain ⟨o1, e1, r1⟩ := h2'
      exact ⟨o1, (sb.2 _ D.zi2.symm).trans e1, r1⟩
    · have hlt : c < s.heap.objs.size := by
        have e' : c = z ∨ c = TI ∨ c = TO ∨ c = i1 ∨ c = i2 := by simpa using hcm
        rcases e' with q | q | q | q | q
        · rw [q]; exact hzl
        · rw [q]; exact Heap.lt_size hTI
        · rw [q]; exact Heap.lt_size hTO
        · rw [q]; obtain ⟨_, e1, _⟩ := h1; exact Heap.lt_size e1
        · rw [q]; obtain ⟨_, e2, _⟩ := h2; exact Heap.lt_size e2
      rw [upd_ne (Nat.ne_of_lt hlt)]
      exact (hf c hcm).1
  done := by
    intro X hP hw hK hc i pins s σ H E I hf st hg
    subst hP hw hK
    obtain ⟨hz, hTI, ⟨a0, b0, hTO⟩, h1, h2⟩ := st
    have hg : i = min x.cps.size y.cps.size := hg
    have D1 := Draws.text (prog := X.prog) (w := X.w) (A := X.A.in1) (I.ok.hd hc) i1 x t
    have D2 := Draws.text (prog := X.prog) (w := X.w) (A := X.A.in1) (I.ok.hd hc) i2 y u
    exact wpAny_pyNext_zipD2_end D D1 D2 hz hTI hTO h1 h2 (by omega) (by omega) (by omega) fun h' tk hk => ⟨rfl, I.turnedL (t' := tk) (ch := [z, TI, TO, i1, i2]) (fun c o hb q =>
      hk c o (fun q' => hb (by simp [q'])) (fun q' => hb (by simp [q'])) (fun q' => hb (by simp [q'])) (fun q' => hb (by simp [q'])) q) hf⟩
  self := fun A i s Q E st h => wpAny_pyIter_zip st.1 h
def iZipS (ta : TA) : TI := fun σ H R => ta σ H fun vs H1 => ∃ x y, vs = [.str x, .str y] ∧ R (ItzS x y) H1
theorem pi_zipS {X : Cx} {e e2 : Expr} {ta : TA} {p pos tpos : Pos} {elts : List Expr} {kk : Nat} (hg : Gl X "zip") (hm : X.mg "zip" = none) (ha : PA X [e, e2] ta)
    (hs : starEach [e, e2] X.env = (false, eval e X.env) :: starEach [e2] X.env := by rfl) (hpl : (backTo pos (starEach [e2] X.env)).any (·.1) = false := by rfl) :
    PI X (.Tuple elts kk tpos) (.Call (.Name "zip" p) [e, e2] [] pos) (iZipS ta) := by
  refine ⟨fun pins s σ H R I h => ?_⟩
  refine Call_ (ld_blt I hg hm PyProof.Rows.boot_zip (PyProof.Rows.callWith_type1 (thn (ha.run pos pins s σ H _ I h) fun us s1 ⟨vs, H1, I1, r1, q1⟩ => ?_) hs hpl))
  obtain ⟨x, y, ex, q⟩ := q1
  subst ex
  obtain ⟨u1, u2, rfl, ⟨t, rfl⟩, ⟨u, rfl⟩⟩ := vals2 r1
  refine zip_begins2 (begins_text x t) (begins_text y u) trivial trivial fun h' hz hTI hTO h1 h2 hsz hk => wpAny_pyIter_zip hz ?_
  have I2 : Inv X pins σ H1 { s1 with heap := h' } := I1.kept (t' := s1.toks) hk
  have sep : ZipSep2 (s1.heap.objs.size + 4) (s1.heap.objs.size + 2) (s1.heap.objs.size + 3) s1.heap.objs.size (s1.heap.objs.size + 1) [s1.heap.objs.size] [s1.heap.objs.size + 1] := by
    constructor <;> simp
  refine ⟨s1.heap.objs.size + 4, [s1.heap.objs.size + 4, s1.heap.objs.size + 2, s1.heap.objs.size + 3, s1.heap.objs.size, s1.heap.objs.size + 1], _, _, H1, rfl, I2, turn_zipS (x := x) (y := y) (t := t) (u := u) sep, ⟨hz, hTI, ⟨_, _, hTO⟩, ⟨_, h1, rfl, rfl⟩, ⟨_, h2, rfl, rfl⟩⟩, fun c hcm => ?_, q⟩
  have e' : c = s1.heap.objs.size + 4 ∨ c = s1.heap.objs.size + 2 ∨ c = s1.heap.objs.size + 3 ∨ c = s1.heap.objs.size ∨ c = s1.heap.objs.size + 1 := by simpa using hcm
  have hle : s1.heap.objs.size ≤ c := by
    rcases e' with z | z | z | z | z <;> rw [z] <;> first | exact Nat.le_add_right _ _ | exact Nat.le_refl _
  exact I1.fpOk hle (I1.hok.fresh hle)
theorem walk_zipS {x y : Str} : Walk (ItzS x y) (min x.cps.size y.cps.size) (fun _ => True) (YPair (fun i => x.cps[i]?.map fun c => .str ⟨#[c]⟩) (fun i => y.cps[i]?.map fun c => .str ⟨#[c]⟩)) :=
  ⟨fun _ _ h _ => h, fun _ _ => rfl, fun i H v H' _ _ q => by
    obtain ⟨T, c, d, h1, h2, h3, h4, h5⟩ := q
    exact ⟨T, _, _, h1, h2, h3, by show Option.map _ x.cps[i]? = _; rw [h4]; rfl, by show Option.map _ y.cps[i]? = _; rw [h5]; rfl⟩⟩

/-! ### z[::-1] of a text -/
def revS (z : Str) : Str := ⟨z.cps.toList.reverse.toArray⟩
def tRevS (te : TE) : TE := fun σ H Q => te σ H fun x H1 => ∃ z, x = .str z ∧ z.length ≤ sizeLine ∧ Q (.str (revS z)) H1
theorem strSlice_rev (z : Str) : ((Builtin.Str.strSliceIndices none none (-1) z.length).filterMap (z.cps[·]?)).toArray = z.cps.toList.reverse.toArray := by
  rw [picked_rev, filterMap_get]
  · congr 1
    apply List.ext_getElem
    · simp [Str.length]
    · intro i h1 h2
      have h3 : i < z.cps.size := by simpa [Str.length] using h1
      have h4 : z.cps.size - 1 - i < z.cps.size := by omega
      simp [Str.length, Array.getD, h4]
  · intro i hi
    obtain ⟨k, hk, rfl⟩ := List.mem_map.mp hi
    have hk' : k < z.length := List.mem_range.mp hk
    show z.length - 1 - k < z.length
    omega
theorem pe_revS {X : Cx} {e : Expr} {te : TE} {k : Nat} {p1 p2 p3 pos : Pos} (he : PE X e te) : PE X (.Subscript e (.Slice none none (some (.UnaryOp .USub (.Constant (.int 1) k p1) p2)) p3) pos) (tRevS te) := by
  refine ⟨fun pins s σ H Q I h => ?_⟩
  refine Subscript_ (thn (he.run pins s σ H _ I h) fun v s1 ⟨x, H1, I1, r1, q1⟩ => ?_)
  obtain ⟨z, ex, hz, q⟩ := q1
  subst ex
  obtain ⟨t, rfl⟩ := r1
  have hst : PO X (some (.UnaryOp .USub (.Constant (.int 1) k p1) p2)) (tPart (tUn (rU fun i => .int (-i)) (tC (.int 1)))) := po_some (pe_un un_neg pe_int)
  refine wpAny_Slice (thn (po_none.run pins s1 σ H1 (fun o H2 => o = none ∧ H2 = H1) I1 ⟨rfl, rfl⟩) fun vl s2 ⟨l, H2, I2, pl, el, e2⟩ => ?_)
  subst el e2
  refine thn (po_none.run pins s2 σ H2 (fun o H3 => o = none ∧ H3 = H2) I2 ⟨rfl, rfl⟩) fun vu s3 ⟨u, H3, I3, pu, eu, e3⟩ => ?_
  subst eu e3
  refine thn (hst.run pins s3 σ H3 (fun o H4 => o = some (-1) ∧ H4 = H3) I3 ⟨1, rfl, -1, rfl, rfl, rfl⟩) fun vs s4 ⟨o, H4, I4, ps, eo, e4⟩ => ?_
  subst eo e4
  have I5 : Inv X pins σ H4 { s4 with heap := s4.heap.push { cls := .type "slice", data := .fields #[vl, vu, vs] } } := I4.kept (t' := s4.toks) fun b ob q => Heap.get?_push_of_some _ q
  obtain ⟨l', rfl, hl'⟩ := IsPart.raw pl
  obtain ⟨u', rfl, hu'⟩ := IsPart.raw pu
  obtain ⟨st', rfl, hst'⟩ := IsPart.raw ps
  show wpAny (model X.prog X.w) X.A (subscriptTail e (.Slice none none (some (.UnaryOp .USub (.Constant (.int 1) k p1) p2)) p3) (.str z t) (.ref s4.heap.objs.size)) (EP X pins σ Q) X.xe { s4 with heap := s4.heap.push { cls := .type "slice", data := .fields #[partValue l', partValue u', partValue st'] } }
  refine tail_any (ops := [.str z t, .ref s4.heap.objs.size]) (typeIs_str _ _ _) (F.slot_str_getitem.lookup) ?_ (by with_unfolding_all rfl)
  refine wpAny_getItem_str_slice (l := l') (u := u') (st := st') ⟨_, Heap.get?_push_size _ rfl, rfl, rfl⟩ (by rw [hst']; rfl) ?_
  have e1 : (slicePicked z l' u' st') = Builtin.Str.strSliceIndices none none (-1) z.length := by
    unfold slicePicked
    rw [hl', hu', hst']
    rfl
  unfold sliceMade
  rw [hst', e1]
  rw [if_neg (by simp)]
  have e2 := strSlice_rev z
  show ((Builtin.Str.strSliceIndices none none (-1) z.length).filterMap (z.cps[·]?)).toArray.size ≤ sizeLine ∧ _
  rw [e2]
  refine ⟨?_, .str _, H4, I5.tok _, ⟨_, rfl⟩, q⟩
  rw [List.size_toArray, List.length_reverse, Array.length_toList]
  exact hz
end MD
end

section
set_option Elab.async false
set_option linter.all false
set_option maxRecDepth 100000
namespace MD
open PySem PySem.Spec PyProof.Rows L2

/-! ### one reading for all contexts -/
def tE (K : PySem.W.Frag) (fr : Bool) (f : Ef) : TE := fun σ H Q => ∃ β O env bx d bx', EnvR K β O H env σ ∧ Pre β O H bx ∧ f env bx = some (d, bx') ∧ ∀ v H', Aft K β O H bx' d fr v H' → Q v H'
def tT (f : Tf) (K : PySem.W.Frag) : TT := fun σ H Q => ∃ β O env bx c bx', EnvR K β O H env σ ∧ Pre β O H bx ∧ f env bx = some (c, bx') ∧ ∀ H', Kp (bO β) H H' → BoxOk β H' bx' → Q c H'
theorem SE.pe {X : Cx} {fr e f} (A : SE X fr e f) : PE X e (tE X.K fr f) := by
  obtain ⟨t, pe, r⟩ := A.run
  refine ⟨fun pins s σ H Q I h => ?_⟩
  obtain ⟨β, O, env, bx, d, bx', E, p, q, k⟩ := h
  exact pe.run pins s σ H Q I (r β O H σ env bx d bx' E p q Q k)
theorem ST.pt {X : Cx} {e f} (A : ST X e f) : PT X e (tT f X.K) := by
  obtain ⟨t, pe, r⟩ := A.run
  refine ⟨fun pins s σ H Q I h => ?_⟩
  obtain ⟨β, O, env, bx, d, bx', E, p, q, k⟩ := h
  exact pe.run pins s σ H Q I (r β O H σ env bx d bx' E p q Q k)

/-! ### targets -/
inductive Sets (K : PySem.W.Frag) (β : Option Addr) (O : Addr → Prop) (H : Hp) : List Nat → Ev → L2.St → Ev → L2.St → Prop
  | nil {env σ} : Sets K β O H [] env σ env σ
  | cons {i is env σ env' σ' v d} : Rp K β O H v d → Sets K β O H is (env.set i (some d)) (σ.set i (some v)) env' σ' → Sets K β O H (i :: is) env σ env' σ'
def setN (i : Nat) : D → Ev → Option Ev := fun d env => some (env.set i (some d))
def setL : List Nat → List D → Ev → Option Ev
  | [], [], env => some env
  | i :: is, d :: ds, env => setL is ds (env.set i (some d))
  | _, _, _ => none
def setT (is : List Nat) : D → Ev → Option Ev := fun d env => match d with
  | .tuple ds => setL is ds env
  | .list ds => setL is ds env
  | _ => none
def gO (is : List Nat) (set : D → Ev → Option Ev) (K : PySem.W.Frag) : TG := fun x σ H Q => ∃ β O d env env', Rp K β O H x d ∧ set d env = some env' ∧ σ.length = env.length ∧ ∀ σ', Sets K β O H is env σ env' σ' → Q σ' H
structure SG (X : Cx) (tg : Expr) (is : List Nat) (set : D → Ev → Option Ev) : Prop where
  run : PG X tg (gO is set X.K)
theorem PG.imp {X : Cx} {tg : Expr} {g g' : TG} (h : PG X tg g) (i : ∀ v σ H Q, g' v σ H Q → g v σ H Q) : PG X tg g' := ⟨fun pins s σ H v u Q I r q => h.run pins s σ H v u Q I r (i v σ H Q q)⟩
section
variable {X : Cx}
theorem sg_name {i : Nat} {x : Str} {pos : Pos} (hN : X.N.Nodup) (hi : X.N[i]? = some x := by rfl) (hx : Loc X.env.scope x := by first | exact Or.inl rfl | exact Or.inr rfl) (hf : X.fn x = true ∨ X.env.scope.names.lookup x = some .local := by first | exact .inl rfl | exact .inr rfl) : SG X (.Name x pos) [i] (setN i) :=
  ⟨PG.imp (pg_name hN hi hx hf) fun v σ H Q ⟨β, O, d, env, env', r, e, l, k⟩ => by
    have e : some (env.set i (some d)) = some env' := e
    cases e
    exact k _ (.cons r .nil)⟩
/-- the names of a tuple -/
structure SGs (X : Cx) (es : List Expr) (is : List Nat) : Prop where
  run : PGs X es (fun vs σ H Q => ∃ K β O ds env env', RpA K β O H vs ds ∧ setL is ds env = some env' ∧ ∀ σ', Sets K β O H is env σ env' σ' → Q σ' H)
theorem PGs.imp {X : Cx} {tg : List Expr} {g g' : TGs} (h : PGs X tg g) (i : ∀ v σ H Q, g' v σ H Q → g v σ H Q) : PGs X tg g' := ⟨fun pins s σ H v u Q I r q => h.run pins s σ H v u Q I r (i v σ H Q q)⟩
theorem sgs_nil : SGs X [] [] := ⟨PGs.imp pgs_nil fun vs σ H Q ⟨K, β, O, ds, env, env', r, e, k⟩ => by
  cases ds with
  | nil =>
    cases r
    have e : some env = some env' := e
    cases e
    exact ⟨rfl, k _ .nil⟩
  | cons d ds => cases e⟩
theorem sgs_cons {i : Nat} {x : Str} {pos : Pos} {es : List Expr} {is : List Nat} (R : SGs X es is) (hN : X.N.Nodup) (hi : X.N[i]? = some x := by rfl) (hx : Loc X.env.scope x := by first | exact Or.inl rfl | exact Or.inr rfl) (hf : X.fn x = true ∨ X.env.scope.names.lookup x = some .local := by first | exact .inl rfl | exact .inr rfl) : SGs X (.Name x pos :: es) (i :: is) :=
  ⟨PGs.imp (pgs_cons (pg_name hN hi hx hf) R.run) fun vs σ H Q ⟨K, β, O, ds, env, env', r, e, k⟩ => by
    cases ds with
    | nil => cases e
    | cons d ds =>
      cases r with
      | cons a b =>
        exact ⟨_, _, rfl, K, β, O, ds, _, env', b, e, fun σ' z => k σ' (.cons a z)⟩⟩
theorem setL_len : ∀ (is : List Nat) (ds : List D) (env env' : Ev), setL is ds env = some env' → ds.length = is.length := by
  intro is
  induction is with
  | nil => intro ds env env' e; cases ds with | nil => rfl | cons => cases e
  | cons i is ih => intro ds env env' e; cases ds with | nil => cases e | cons d ds => simp [ih _ _ _ e]
theorem sg_tup {es : List Expr} {is : List Nat} {k : Nat} {pos : Pos} (hc : X.calm = true) (R : SGs X es is) (hl : (assignEach es X.env).length = is.length := by rfl) (hst : (assignEach es X.env).findIdx? (·.1) = none := by rfl) : SG X (.Tuple es k pos) is (setT is) :=
  ⟨PG.imp (g := fun v σ H Q => L2.gTup X.K (assignEach es X.env).length _ v σ H Q ∨ L2.gUnl X.K (assignEach es X.env).length _ v σ H Q) ⟨fun pins s σ H v u Q I r h => h.elim (fun h => (pg_tup hc R.run (hst := hst)).run pins s σ H v u Q I r h) (fun h => (pg_unl hc R.run (hst := hst)).run pins s σ H v u Q I r h)⟩ fun v σ H Q ⟨β, O, d, env, env', r, e, l, k⟩ => by
    cases r with
    | @tup _ xs ds a b =>
      have e : setL is ds env = some env' := e
      exact .inl ⟨_, xs, rfl, SqT.of a, by rw [b.length, setL_len _ _ _ _ e, hl], X.K, β, O, ds, env, env', b, e, k⟩
    | @lst _ xs ds a c b =>
      have e : setL is ds env = some env' := e
      exact .inr ⟨_, xs, rfl, SqL.of a, by rw [b.length, setL_len _ _ _ _ e, hl], X.K, β, O, ds, env, env', b, e, k⟩
    | _ => cases e⟩
theorem Sets.len {K β O H is env σ env' σ'} (h : Sets K β O H is env σ env' σ') : env'.length = env.length ∧ σ'.length = σ.length := by
  induction h with
  | nil => exact ⟨rfl, rfl⟩
  | cons r _ ih => simpa using ih
theorem Sets.envR {K β O H is env σ env' σ'} (h : Sets K β O H is env σ env' σ') (E : EnvR K β O H env σ) : EnvR K β O H env' σ' := by
  induction h with
  | nil => exact E
  | @cons i is env σ env' σ' v d r _ ih =>
    refine ih ⟨by simpa using E.1, fun j d' e => ?_⟩
    by_cases c : i = j
    · subst c
      by_cases hlt : i < env.length
      · rw [List.getElem?_set_self hlt] at e
        cases e
        exact ⟨v, by rw [List.getElem?_set_self (by rw [E.1]; exact hlt)], r⟩
      · rw [List.getElem?_eq_none (by simpa using hlt)] at e; cases e
    · rw [List.getElem?_set_ne c] at e ⊢
      exact E.2 j d' e
theorem wipe_get {σ : L2.St} {vs : List Nat} {j : Nat} : (wipe σ vs)[j]? = if j ∈ vs then (if j < σ.length then some none else none) else σ[j]? := by
  induction vs with
  | nil => simp [wipe]
  | cons v vs ih =>
    unfold wipe
    by_cases c : v = j
    · subst c
      rw [if_pos (by simp)]
      by_cases h : v < σ.length
      · rw [List.getElem?_set_self (by rw [wipe_length]; exact h), if_pos h]
      · rw [List.getElem?_eq_none (by rw [List.length_set, wipe_length]; omega), if_neg h]
    · rw [List.getElem?_set_ne c, ih]
      by_cases m : j ∈ vs
      · rw [if_pos m, if_pos (List.mem_cons_of_mem _ m)]
      · rw [if_neg m, if_neg (by simp only [List.mem_cons, not_or]; exact ⟨fun z => c z.symm, m⟩)]
theorem Sets.wipe {K β O H is env σ env' σ'} (h : Sets K β O H is env σ env' σ') {vs : List Nat} (s : ∀ i ∈ is, i ∈ vs) : L2.wipe σ' vs = L2.wipe σ vs := by
  induction h with
  | nil => rfl
  | @cons i is env σ env' σ' v d r _ ih =>
    rw [ih fun j hj => s j (List.mem_cons_of_mem _ hj)]
    apply List.ext_getElem?
    intro j
    rw [wipe_get, wipe_get]
    by_cases m : j ∈ vs
    · rw [if_pos m, if_pos m, List.length_set]
    · rw [if_neg m, if_neg m]
      exact List.getElem?_set_ne fun z => m (by rw [← z]; exact s i List.mem_cons_self)
end
/-- the environment without the slots vs -/
def maskE (vs : List Nat) (env : Ev) : Ev := vs.foldl (fun e v => e.set v none) env
theorem maskE_get {vs : List Nat} : ∀ {env : Ev} {j : Nat} {d : D}, (maskE vs env)[j]? = some (some d) → env[j]? = some (some d) ∧ j ∉ vs := by
  induction vs with
  | nil => intro env j d h; exact ⟨h, by simp⟩
  | cons v vs ih =>
    intro env j d h
    obtain ⟨h1, h2⟩ := ih (env := env.set v none) h
    by_cases c : v = j
    · subst c
      by_cases hl : v < env.length
      · rw [List.getElem?_set_self hl] at h1; cases h1
      · rw [List.getElem?_eq_none (by simpa using hl)] at h1; cases h1
    · rw [List.getElem?_set_ne c] at h1
      exact ⟨h1, by simp only [List.mem_cons, not_or]; exact ⟨fun z => c z.symm, h2⟩⟩
theorem maskE_len {vs : List Nat} : ∀ {env : Ev}, (maskE vs env).length = env.length := by
  induction vs with
  | nil => intro env; rfl
  | cons v vs ih => intro env; show (maskE vs (env.set v none)).length = _; rw [ih, List.length_set]
theorem EnvR.mask {K β O H env σ} (E : EnvR K β O H env σ) (vs : List Nat) : EnvR K β O H (maskE vs env) (wipe σ vs) :=
  ⟨by rw [wipe_length, maskE_len]; exact E.1, fun i d h => by
    obtain ⟨h1, h2⟩ := maskE_get h
    obtain ⟨v, a, b⟩ := E.2 i d h1
    exact ⟨v, by rw [wipe_get, if_neg h2]; exact a, b⟩⟩

/-! ### what is walked -/
structure SI (X : Cx) (tg iter : Expr) (pr : Bool) (f : Ev → M (List D)) : Prop where
  run : ∃ w, PI X tg iter w ∧ ∀ β O H σ env bx ds bx', EnvR X.K β O H env σ → Pre β O H bx → f env bx = some (ds, bx') → ∀ R : It → Hp → Prop,
    (∀ J H1 Y, Kp (bO β) H H1 → BoxOk β H1 bx' → Walk J ds.length (fun Hn => pr = true ∨ Kp O H1 Hn) Y →
      (∀ i Hn x H', i < ds.length → (pr = true ∨ Kp O H1 Hn) → Y i Hn x H' → Same Hn H' ∧ ∃ d, ds[i]? = some d ∧ ∀ O' : Addr → Prop, (pr = true ∨ ∀ q o, H1 q = some o → ¬ O q → ¬ O' q) → Rp X.K β O' H' x d) → R J H1) → w σ H R
def signs (z : Str) : List D := z.cps.toList.map fun c => .str ⟨#[c]⟩
def itemsD : D → Option (List D)
  | .list ds => some ds
  | .tuple ds => some ds
  | .str z => some (signs z)
  | .dict [(.none, .list ds)] => some ds
  | _ => none
def itemsS : D → Option (List D)
  | .str z => some (signs z)
  | _ => none
abbrev Lf := Ev → M (List D)
def iOf (g : D → Option (List D)) (a : Ef) : Lf := fun env => bnd (a env) fun x => opt (g x)
def iArgs (g : List D → Option (List D)) (as : Ev → M (List D)) : Lf := fun env => bnd (as env) fun xs => opt (g xs)
theorem pi_or {X : Cx} {tg it : Expr} {w w' : TI} (h : PI X tg it w) (h' : PI X tg it w') : PI X tg it (fun σ H R => w σ H R ∨ w' σ H R) :=
  ⟨fun pins s σ H R I q => q.elim (h.run pins s σ H R I) (h'.run pins s σ H R I)⟩
theorem signs_len (z : Str) : (signs z).length = z.cps.size := by simp [signs]
theorem signs_get {z : Str} {i c : Nat} (h : z.cps[i]? = some c) : (signs z)[i]? = some (.str ⟨#[c]⟩) := by
  unfold signs
  rw [List.getElem?_map, Array.getElem?_toList, h]
  rfl
section
variable {X : Cx}
theorem si_of {tg e : Expr} {fr : Bool} {f : Ef} (A : SE X fr e f) : SI X tg e false (iOf itemsD f) := by
  obtain ⟨t, pe, r⟩ := A.run
  refine ⟨_, pi_or (pi_list pe) (pi_or (pi_tup pe) (pi_str pe)), fun β O H σ env bx ds bx' E p q R k => ?_⟩
  obtain ⟨x, bx1, q1, q⟩ := bnd_some q
  obtain ⟨q3, q4⟩ := opt_some q
  have q4 : bx' = bx1 := q4
  subst q4
  have q3 : itemsD x = some ds := q3
  have lists : ∀ {a : Addr} {vs : List V} {H1 : Hp}, Kp (bO β) H H1 → BoxOk β H1 bx' → (∀ Hn, Kp O H1 Hn → SqL X.K Hn a vs) → RpA X.K β O H1 vs ds → R (Itl X.K a) H1 := by
    intro a vs H1 k1 b1 hs rv
    refine k _ H1 (YAt vs) k1 b1 ?_ ?_
    · rw [← rv.length]
      exact walk_list.mono (fun Hn z => hs Hn (z.elim (fun w => nomatch w) id)) fun i H x H' _ _ y => y
    · intro i Hn x H' hi hk y
      obtain ⟨e1, e2⟩ := y
      subst e1
      obtain ⟨d, h1, h2⟩ := rv.getV e2
      have hk : Kp O H1 H' := hk.elim (fun w => nomatch w) id
      exact ⟨Same.refl _, d, h1, fun O' ho => Rp.map hk (ho.elim (fun w => nomatch w) id) _ _ h2⟩
  have run := r β O H σ env bx x bx' E p q1
  cases x with
  | list l =>
    cases q3
    refine .inl (run _ fun v H1 a => ?_)
    cases a.rp with
    | lst h1 h2 h3 =>
      exact ⟨_, rfl, ⟨_, SqL.of h1⟩, lists a.kp a.box (fun Hn z => SqL.of (z _ _ h1 fun w => (h2 w).elim)) h3⟩
  | dict l =>
    match l, q3 with
    | [(.none, .list _)], q3 =>
      cases q3
      refine .inl (run _ fun v H1 a => ?_)
      cases a.rp with
      | rolT h1 h2 h3 =>
        exact ⟨_, rfl, ⟨_, .inl h1⟩, lists a.kp a.box (fun Hn z => .inl (Rd.kp z h2 h1)) h3⟩
      | rolW h1 h3 =>
        exact ⟨_, rfl, ⟨_, h1 _⟩, lists a.kp a.box (fun Hn z => h1 _) h3⟩
  | tuple l =>
    cases q3
    refine .inr (.inl (run _ fun v H1 a => ?_))
    cases a.rp with
    | tup h1 h3 =>
      rename_i xs
      refine ⟨_, rfl, ⟨_, SqT.of h1⟩, k _ H1 (YAt xs) a.kp a.box ?_ ?_⟩
      · rw [← h3.length]
        exact walk_tup.mono (fun Hn z => SqT.of ((z.elim (fun w => nomatch w) id : Kp O H1 Hn) _ _ h1 fun _ => rfl)) fun i H x H' _ _ y => y
      · intro i Hn x H' hi hk y
        obtain ⟨e1, e2⟩ := y
        subst e1
        obtain ⟨d, g1, g2⟩ := h3.getV e2
        have hk : Kp O H1 H' := hk.elim (fun w => nomatch w) id
        exact ⟨Same.refl _, d, g1, fun O' ho => Rp.map hk (ho.elim (fun w => nomatch w) id) _ _ g2⟩
  | str z =>
    cases q3
    refine .inr (.inr (run _ fun v H1 a => ?_))
    have ev : v = .str z := by cases a.rp; rfl
    subst ev
    refine ⟨z, rfl, k _ H1 (fun i H v H' => H' = H ∧ ∃ c, z.cps[i]? = some c ∧ v = .str ⟨#[c]⟩) a.kp a.box ?_ ?_⟩
    · rw [signs_len]
      exact walk_str.mono (fun _ _ => trivial) fun i H x H' _ _ y => y
    · intro i Hn x H' hi hk y
      obtain ⟨e1, c, e2, e3⟩ := y
      subst e1 e3
      exact ⟨Same.refl _, _, signs_get e2, fun O' _ => .str _⟩
  | _ => cases q3
/-- a text alone: nothing of the heap -/
theorem si_str {tg e : Expr} {fr : Bool} {f : Ef} (A : SE X fr e f) : SI X tg e true (iOf itemsS f) := by
  obtain ⟨t, pe, r⟩ := A.run
  refine ⟨_, pi_str pe, fun β O H σ env bx ds bx' E p q R k => ?_⟩
  obtain ⟨x, bx1, q1, q⟩ := bnd_some q
  obtain ⟨q3, q4⟩ := opt_some q
  have q4 : bx' = bx1 := q4
  subst q4
  have q3 : itemsS x = some ds := q3
  cases x with
  | str z =>
    cases q3
    refine r β O H σ env bx _ bx' E p q1 _ fun v H1 a => ?_
    have ev : v = .str z := by cases a.rp; rfl
    subst ev
    refine ⟨z, rfl, k _ H1 (fun i H v H' => H' = H ∧ ∃ c, z.cps[i]? = some c ∧ v = .str ⟨#[c]⟩) a.kp a.box ?_ ?_⟩
    · rw [signs_len]
      exact walk_str.mono (fun _ _ => trivial) fun i H x H' _ _ y => y
    · intro i Hn x H' hi hk y
      obtain ⟨e1, c, e2, e3⟩ := y
      subst e1 e3
      exact ⟨Same.refl _, _, signs_get e2, fun O' _ => .str _⟩
  | _ => cases q3
def rangeItems (lo : Int) (n : Nat) : List D := (List.range n).map fun (k : Nat) => .int (lo + k)
def rangeD : List D → Option (List D)
  | [.int j] => if -(2 ^ 62) ≤ j ∧ j < 2 ^ 62 then some (rangeItems 0 j.toNat) else none
  | [.int i, .int j] => if -(2 ^ 62) ≤ i ∧ i < 2 ^ 62 ∧ -(2 ^ 62) ≤ j ∧ j < 2 ^ 62 then some (rangeItems i (j - i).toNat) else none
  | _ => none
theorem range_items {K β bx'} {O : Addr → Prop} {H : Hp} {lo : Int} {n : Nat} {R : It → Hp → Prop}
    (k : ∀ J H1 Y, Kp (bO β) H H1 → BoxOk β H1 bx' → Walk J (rangeItems lo n).length (fun Hn => true = true ∨ Kp O H1 Hn) Y →
      (∀ i Hn x H', i < (rangeItems lo n).length → (true = true ∨ Kp O H1 Hn) → Y i Hn x H' → Same Hn H' ∧ ∃ d, (rangeItems lo n)[i]? = some d ∧ ∀ O' : Addr → Prop, (true = true ∨ ∀ q o, H1 q = some o → ¬ O q → ¬ O' q) → Rp K β O' H' x d) → R J H1)
    {H1 : Hp} (k1 : Kp (bO β) H H1) (b1 : BoxOk β H1 bx') : R (Itr lo n) H1 := by
  have len : (rangeItems lo n).length = n := by simp [rangeItems]
  refine k _ H1 (YFn fun i => .int (lo + i)) k1 b1 ?_ ?_
  · rw [len]
    exact walk_range.mono (fun _ _ => trivial) fun i H x H' _ _ y => y
  · intro i Hn x H' hi hk y
    obtain ⟨e1, e2⟩ := y
    subst e1 e2
    rw [len] at hi
    exact ⟨Same.refl _, .int (lo + i), by simp [rangeItems, hi], fun O' _ => .int _⟩
theorem rangeD_one {x : D} {ds : List D} (h : rangeD [x] = some ds) : ∃ j, x = .int j ∧ (-(2 ^ 62) ≤ j ∧ j < 2 ^ 62) ∧ ds = rangeItems 0 j.toNat := by
  unfold rangeD at h
  split at h
  · rename_i j e
    cases e
    by_cases c : -(2 ^ 62) ≤ j ∧ j < 2 ^ 62
    · rw [if_pos c] at h; cases h; exact ⟨j, rfl, c, rfl⟩
    · rw [if_neg c] at h; cases h
  · rename_i e; cases e
  · cases h
theorem rangeD_two {x y : D} {ds : List D} (h : rangeD [x, y] = some ds) : ∃ i j, x = .int i ∧ y = .int j ∧ (-(2 ^ 62) ≤ i ∧ i < 2 ^ 62 ∧ -(2 ^ 62) ≤ j ∧ j < 2 ^ 62) ∧ ds = rangeItems i (j - i).toNat := by
  unfold rangeD at h
  split at h
  · rename_i e; cases e
  · rename_i i j e
    cases e
    by_cases c : -(2 ^ 62) ≤ i ∧ i < 2 ^ 62 ∧ -(2 ^ 62) ≤ j ∧ j < 2 ^ 62
    · rw [if_pos c] at h; cases h; exact ⟨i, j, rfl, rfl, c, rfl⟩
    · rw [if_neg c] at h; cases h
  · cases h
theorem aCons_some {a : Ef} {as : Ev → M (List D)} {env : Ev} {bx bx' : Bx} {ds : List D} (h : aCons a as env bx = some (ds, bx')) : ∃ d bx1 es, a env bx = some (d, bx1) ∧ as env bx1 = some (es, bx') ∧ ds = d :: es := by
  obtain ⟨x, bx1, q1, q⟩ := bnd_some h
  obtain ⟨y, bx2, q2, q⟩ := bnd_some q
  have q : some (x :: y, bx2) = some (ds, bx') := q
  cases q
  exact ⟨x, bx1, y, q1, q2, rfl⟩
theorem aNil_some {env : Ev} {bx bx' : Bx} {ds : List D} (h : aNil env bx = some (ds, bx')) : ds = [] ∧ bx' = bx := by
  have q : some ([], bx) = some (ds, bx') := h
  cases q
  exact ⟨rfl, rfl⟩
theorem si_range1 {tg a : Expr} {p pos : Pos} {f : Ef} (A : SA X [a] (aCons f aNil)) (hm : X.mg "range" = none) (hg : Gl X "range" := by rfl) (hs : starEach [a] X.env = [(false, eval a X.env)] := by rfl) : SI X tg (.Call (.Name "range" p) [a] [] pos) true (iArgs rangeD (aCons f aNil)) := by
  obtain ⟨t, pe, r⟩ := A.run
  refine ⟨_, pi_range1 hg hm pe hs, fun β O H σ env bx ds bx' E p q R k => ?_⟩
  obtain ⟨xs, bx1, q1, q⟩ := bnd_some q
  obtain ⟨q3, q4⟩ := opt_some q
  have q4 : bx' = bx1 := q4
  subst q4
  refine r β O H σ env bx xs bx' E p q1 _ fun vs H1 a => ?_
  obtain ⟨d, _, es, _, e2, rfl⟩ := aCons_some q1
  obtain ⟨rfl, _⟩ := aNil_some e2
  obtain ⟨j, rfl, c, rfl⟩ := rangeD_one q3
  obtain ⟨v, rfl, h⟩ := a.rp.one
  cases h
  exact ⟨j, rfl, c.1, c.2, range_items k a.kp a.box⟩
theorem si_range2 {tg a b : Expr} {p pos : Pos} {f g : Ef} (A : SA X [a, b] (aCons f (aCons g aNil))) (hm : X.mg "range" = none) (hg : Gl X "range" := by rfl) (hs : starEach [a, b] X.env = [(false, eval a X.env), (false, eval b X.env)] := by rfl) (hs2 : starEach [b] X.env = [(false, eval b X.env)] := by rfl) :
    SI X tg (.Call (.Name "range" p) [a, b] [] pos) true (iArgs rangeD (aCons f (aCons g aNil))) := by
  obtain ⟨t, pe, r⟩ := A.run
  refine ⟨_, pi_range2 hg hm pe hs hs2, fun β O H σ env bx ds bx' E p q R k => ?_⟩
  obtain ⟨xs, bx1, q1, q⟩ := bnd_some q
  obtain ⟨q3, q4⟩ := opt_some q
  have q4 : bx' = bx1 := q4
  subst q4
  refine r β O H σ env bx xs bx' E p q1 _ fun vs H1 a => ?_
  obtain ⟨d, _, es, _, e2, rfl⟩ := aCons_some q1
  obtain ⟨d2, _, es, _, e3, rfl⟩ := aCons_some e2
  obtain ⟨rfl, _⟩ := aNil_some e3
  obtain ⟨i, j, rfl, rfl, c, rfl⟩ := rangeD_two q3
  obtain ⟨v, w, rfl, h1, h2⟩ := a.rp.two
  cases h1; cases h2
  exact ⟨i, j, rfl, c, range_items k a.kp a.box⟩
/-! enumerate, zip -/
theorem pair_new {K β} {O : Addr → Prop} {Hn : Hp} {T : Addr} {x y : V} {dx dy : D} (hT : Hn T = none) (rx : Rp K β O Hn x dx) (ry : Rp K β O Hn y dy) : Rp K β O (upd Hn T (.tup [x, y])) (.ref T) (.tuple [dx, dy]) :=
  .tup upd_same (.cons (rx.kp (Kp.new hT)) (.cons (ry.kp (Kp.new hT)) .nil))
theorem same_new {Hn : Hp} {T : Addr} {o : HO} (hT : Hn T = none) : Same Hn (upd Hn T o) := fun b u e => by rw [upd_ne (ne_of_none e hT)]; exact e
def enumItems (ds : List D) : List D := (List.range ds.length).zipWith (fun (k : Nat) d => .tuple [.int k, d]) ds
theorem enum_get {ds : List D} {i : Nat} {d : D} (h : ds[i]? = some d) : (enumItems ds)[i]? = some (.tuple [.int i, d]) := by
  obtain ⟨h1, h2⟩ := List.getElem?_eq_some_iff.mp h
  unfold enumItems
  rw [List.getElem?_zipWith, h, List.getElem?_range h1]
theorem enum_len {ds : List D} : (enumItems ds).length = ds.length := by simp [enumItems]
def enumD : List D → Option (List D)
  | [.list ds] => some (enumItems ds)
  | [.dict [(.none, .list ds)]] => some (enumItems ds)
  | _ => none
theorem enumD_inv {x : D} {ds : List D} (h : enumD [x] = some ds) : ∃ es, ds = enumItems es ∧ (x = .list es ∨ x = .dict [(.none, .list es)]) := by
  unfold enumD at h
  split at h
  · rename_i e; cases e; cases h; exact ⟨_, rfl, .inl rfl⟩
  · rename_i e; cases e; cases h; exact ⟨_, rfl, .inr rfl⟩
  · cases h
theorem si_enum {a : Expr} {p pos tpos : Pos} {elts : List Expr} {kk : Nat} {f : Ef} (A : SA X [a] (aCons f aNil)) (hm : X.mg "enumerate" = none) (hg : Gl X "enumerate" := by rfl) (hs : starEach [a] X.env = [(false, eval a X.env)] := by rfl) :
    SI X (.Tuple elts kk tpos) (.Call (.Name "enumerate" p) [a] [] pos) false (iArgs enumD (aCons f aNil)) := by
  obtain ⟨t, pe, r⟩ := A.run
  refine ⟨_, pi_enum hg hm pe hs, fun β O H σ env bx ds bx' E p q R k => ?_⟩
  obtain ⟨xs, bx1, q1, q⟩ := bnd_some q
  obtain ⟨q3, q4⟩ := opt_some q
  have q4 : bx' = bx1 := q4
  subst q4
  refine r β O H σ env bx xs bx' E p q1 _ fun vs H1 a => ?_
  obtain ⟨d, _, es, _, e2, rfl⟩ := aCons_some q1
  obtain ⟨rfl, _⟩ := aNil_some e2
  obtain ⟨es, hd, hx⟩ := enumD_inv q3
  have hd : ds = enumItems es := hd
  subst hd
  obtain ⟨v, rfl, h⟩ := a.rp.one
  have go : ∀ {p : Addr} {vs : List V}, (∀ Hn, Kp O H1 Hn → SqL X.K Hn p vs) → RpA X.K β O H1 vs es → R (Ite X.K p) H1 := by
    intro p vs hsq rv
    refine k _ H1 (YPair (fun i => some (.int (i : Nat))) (fun i => vs[i]?)) a.kp a.box ?_ ?_
    · rw [enum_len, ← rv.length]
      exact walk_enum.mono (fun Hn z => hsq Hn (z.elim (fun w => nomatch w) id)) fun i H x H' _ _ y => y
    · intro i Hn x H' hi hk y
      obtain ⟨T, x1, y1, rfl, hT, rfl, e1, e2⟩ := y
      cases e1
      obtain ⟨d, g1, g2⟩ := rv.getV e2
      have hk : Kp O H1 Hn := hk.elim (fun w => nomatch w) id
      exact ⟨same_new hT, _, enum_get g1, fun O' ho => pair_new hT (.int _) (Rp.map hk (ho.elim (fun w => nomatch w) id) _ _ g2)⟩
  rcases hx with rfl | rfl
  · cases h with
    | lst h1 h2 h3 => exact ⟨_, _, rfl, SqL.of h1, go (fun Hn z => SqL.of (z _ _ h1 fun w => (h2 w).elim)) h3⟩
  · cases h with
    | rolT h1 h2 h3 => exact ⟨_, _, rfl, .inl h1, go (fun Hn z => .inl (Rd.kp z h2 h1)) h3⟩
    | rolW h1 h3 => exact ⟨_, _, rfl, h1 _, go (fun Hn z => h1 _) h3⟩
def zipItems (ds es : List D) : List D := ds.zipWith (fun a b => .tuple [a, b]) es
theorem zip_get {ds es : List D} {i : Nat} {d e : D} (h : ds[i]? = some d) (h2 : es[i]? = some e) : (zipItems ds es)[i]? = some (.tuple [d, e]) := by
  unfold zipItems
  rw [List.getElem?_zipWith, h, h2]
theorem zip_len {ds es : List D} : (zipItems ds es).length = min ds.length es.length := by simp [zipItems]
def zipD : List D → Option (List D)
  | [.list ds, .list es] => some (zipItems ds es)
  | [.tuple ds, .tuple es] => some (zipItems ds es)
  | [.str x, .str y] => some (zipItems (signs x) (signs y))
  | _ => none
def zipDS : List D → Option (List D)
  | [.str x, .str y] => some (zipItems (signs x) (signs y))
  | _ => none
theorem zipD_inv {x y : D} {ds : List D} (h : zipD [x, y] = some ds) : (∃ a b, x = .list a ∧ y = .list b ∧ ds = zipItems a b) ∨ (∃ a b, x = .tuple a ∧ y = .tuple b ∧ ds = zipItems a b) ∨ (∃ a b, x = .str a ∧ y = .str b ∧ ds = zipItems (signs a) (signs b)) := by
  unfold zipD at h
  split at h
  · rename_i e; cases e; cases h; exact .inl ⟨_, _, rfl, rfl, rfl⟩
  · rename_i e; cases e; cases h; exact .inr (.inl ⟨_, _, rfl, rfl, rfl⟩)
  · rename_i e; cases e; cases h; exact .inr (.inr ⟨_, _, rfl, rfl, rfl⟩)
  · cases h
theorem zipDS_inv {x y : D} {ds : List D} (h : zipDS [x, y] = some ds) : ∃ a b, x = .str a ∧ y = .str b ∧ ds = zipItems (signs a) (signs b) := by
  unfold zipDS at h
  split at h
  · rename_i e; cases e; cases h; exact ⟨_, _, rfl, rfl, rfl⟩
  · cases h
abbrev YzS (x y : Str) : Nat → Hp → V → Hp → Prop := YPair (fun i => x.cps[i]?.map fun c => .str ⟨#[c]⟩) (fun i => y.cps[i]?.map fun c => .str ⟨#[c]⟩)
theorem zipS_items {K β} {x y : Str} {i : Nat} {Hn H' : Hp} {v : V} (h : YzS x y i Hn v H') : Same Hn H' ∧ ∃ d, (zipItems (signs x) (signs y))[i]? = some d ∧ ∀ O' : Addr → Prop, Rp K β O' H' v d := by
  obtain ⟨T, x1, y1, rfl, hT, rfl, e1, e2⟩ := h
  have e1 : Option.map _ x.cps[i]? = some x1 := e1
  have e2 : Option.map _ y.cps[i]? = some y1 := e2
  cases c1 : x.cps[i]? with
  | none => rw [c1] at e1; cases e1
  | some a =>
    cases c2 : y.cps[i]? with
    | none => rw [c2] at e2; cases e2
    | some b =>
      rw [c1] at e1; rw [c2] at e2
      cases e1; cases e2
      exact ⟨same_new hT, _, zip_get (signs_get c1) (signs_get c2), fun O' => pair_new hT (.str _) (.str _)⟩
theorem si_zipP {a b : Expr} {p pos tpos : Pos} {elts : List Expr} {kk : Nat} {f g : Ef} (A : SA X [a, b] (aCons f (aCons g aNil))) (hm : X.mg "zip" = none) (hg : Gl X "zip" := by rfl)
    (hs : starEach [a, b] X.env = (false, eval a X.env) :: starEach [b] X.env := by rfl) (hpl : (backTo pos (starEach [b] X.env)).any (·.1) = false := by rfl) :
    SI X (.Tuple elts kk tpos) (.Call (.Name "zip" p) [a, b] [] pos) true (iArgs zipDS (aCons f (aCons g aNil))) := by
  obtain ⟨t, pe, r⟩ := A.run
  refine ⟨_, pi_zipS hg hm pe hs hpl, fun β O H σ env bx ds bx' E p q R k => ?_⟩
  obtain ⟨xs, bx1, q1, q⟩ := bnd_some q
  obtain ⟨q3, q4⟩ := opt_some q
  have q4 : bx' = bx1 := q4
  subst q4
  refine r β O H σ env bx xs bx' E p q1 _ fun vs H1 a => ?_
  obtain ⟨d, _, es, _, e2, rfl⟩ := aCons_some q1
  obtain ⟨d2, _, es, _, e3, rfl⟩ := aCons_some e2
  obtain ⟨rfl, _⟩ := aNil_some e3
  obtain ⟨x, y, rfl, rfl, hd⟩ := zipDS_inv q3
  have hd : ds = zipItems (signs x) (signs y) := hd
  subst hd
  obtain ⟨v, w, rfl, h1, h2⟩ := a.rp.two
  cases h1; cases h2
  refine ⟨x, y, rfl, k _ H1 (YzS x y) a.kp a.box ?_ fun i Hn x H' hi hk y => ?_⟩
  · rw [zip_len, signs_len, signs_len]
    exact walk_zipS.mono (fun _ _ => trivial) fun i H x H' _ _ y => y
  · obtain ⟨s, d, g1, g2⟩ := zipS_items (K := X.K) (β := β) y
    exact ⟨s, d, g1, fun O' _ => g2 O'⟩
theorem si_zip {a b : Expr} {p pos tpos : Pos} {elts : List Expr} {kk : Nat} {f g : Ef} (A : SA X [a, b] (aCons f (aCons g aNil))) (hm : X.mg "zip" = none) (hg : Gl X "zip" := by rfl)
    (hs : starEach [a, b] X.env = (false, eval a X.env) :: starEach [b] X.env := by rfl) (hpl : (backTo pos (starEach [b] X.env)).any (·.1) = false := by rfl) :
    SI X (.Tuple elts kk tpos) (.Call (.Name "zip" p) [a, b] [] pos) false (iArgs zipD (aCons f (aCons g aNil))) := by
  obtain ⟨t, pe, r⟩ := A.run
  refine ⟨_, pi_or (RZ.pi_zipA hg hm pe hs hpl) (pi_zipS hg hm pe hs hpl), fun β O H σ env bx ds bx' E p q R k => ?_⟩
  obtain ⟨xs, bx1, q1, q⟩ := bnd_some q
  obtain ⟨q3, q4⟩ := opt_some q
  have q4 : bx' = bx1 := q4
  subst q4
  have run := r β O H σ env bx xs bx' E p q1
  obtain ⟨d, _, es, _, e2, rfl⟩ := aCons_some q1
  obtain ⟨d2, _, es, _, e3, rfl⟩ := aCons_some e2
  obtain ⟨rfl, _⟩ := aNil_some e3
  have pairs : ∀ {xs ys : List V} {l m : List D} {H1 : Hp}, RpA X.K β O H1 xs l → RpA X.K β O H1 ys m → ∀ i Hn x H', (false = true ∨ Kp O H1 Hn) → YPair (fun i => xs[i]?) (fun i => ys[i]?) i Hn x H' → Same Hn H' ∧ ∃ d, (zipItems l m)[i]? = some d ∧ ∀ O' : Addr → Prop, (false = true ∨ ∀ q o, H1 q = some o → ¬ O q → ¬ O' q) → Rp X.K β O' H' x d := by
    intro xs ys l m H1 r1 r2 i Hn x H' hk y
    obtain ⟨T, x1, y1, rfl, hT, rfl, e1, e2⟩ := y
    obtain ⟨d, g1, g2⟩ := r1.getV e1
    obtain ⟨d', g3, g4⟩ := r2.getV e2
    have hk : Kp O H1 Hn := hk.elim (fun w => nomatch w) id
    exact ⟨same_new hT, _, zip_get g1 g3, fun O' ho => pair_new hT (Rp.map hk (ho.elim (fun w => nomatch w) id) _ _ g2) (Rp.map hk (ho.elim (fun w => nomatch w) id) _ _ g4)⟩
  rcases zipD_inv q3 with ⟨l, m, rfl, rfl, hd⟩ | ⟨l, m, rfl, rfl, hd⟩ | ⟨x, y, rfl, rfl, hd⟩
  · have hd : ds = zipItems l m := hd
    subst hd
    refine .inl (run _ fun vs H1 a => ?_)
    obtain ⟨v, w, rfl, h1, h2⟩ := a.rp.two
    cases h1 with
    | lst a1 b1 c1 =>
      cases h2 with
      | lst a2 b2 c2 =>
        refine ⟨_, _, _, _, rfl, .inl ⟨SqL.of a1, SqL.of a2, k _ H1 _ a.kp a.box ?_ fun i Hn x H' hi => pairs c1 c2 i Hn x H'⟩⟩
        refine (walk_zip (by rw [zip_len, c1.length, c2.length])).mono (fun Hn z => ?_) fun i H x H' _ _ y => y
        have z : Kp O H1 Hn := z.elim (fun w => nomatch w) id
        exact ⟨SqL.of (z _ _ a1 fun w => (b1 w).elim), SqL.of (z _ _ a2 fun w => (b2 w).elim)⟩
  · have hd : ds = zipItems l m := hd
    subst hd
    refine .inl (run _ fun vs H1 a => ?_)
    obtain ⟨v, w, rfl, h1, h2⟩ := a.rp.two
    cases h1 with
    | tup a1 c1 =>
      cases h2 with
      | tup a2 c2 =>
        rename_i xs _ ys
        refine ⟨_, _, _, _, rfl, .inr ⟨SqT.of a1, SqT.of a2, k _ H1 (YPair (fun i => xs[i]?) (fun i => ys[i]?)) a.kp a.box ⟨fun i Hn hi z => ?_, fun Hn z => ?_, fun i Hn v H' hi z y => ?_⟩ fun i Hn x H' hi => pairs c1 c2 i Hn x H'⟩⟩
        · have z : Kp O H1 Hn := z.elim (fun w => nomatch w) id
          rw [zip_len, ← c1.length, ← c2.length] at hi
          have l1 : i < xs.length := by omega
          have l2 : i < ys.length := by omega
          exact ⟨xs, ys, xs[i], ys[i], SqT.of (z _ _ a1 fun _ => rfl), SqT.of (z _ _ a2 fun _ => rfl), by simp [l1], by simp [l2]⟩
        · have z : Kp O H1 Hn := z.elim (fun w => nomatch w) id
          refine ⟨xs, ys, SqT.of (z _ _ a1 fun _ => rfl), SqT.of (z _ _ a2 fun _ => rfl), ?_⟩
          rw [zip_len, ← c1.length, ← c2.length]
          omega
        · have z : Kp O H1 Hn := z.elim (fun w => nomatch w) id
          obtain ⟨T, x, w, h1, h2, h3, h4, h5⟩ := y
          exact ⟨T, x, w, h1, h2, h3, h4 xs (SqT.of (z _ _ a1 fun _ => rfl)), h5 ys (SqT.of (z _ _ a2 fun _ => rfl))⟩
  · have hd : ds = zipItems (signs x) (signs y) := hd
    subst hd
    refine .inr (run _ fun vs H1 a => ?_)
    obtain ⟨v, w, rfl, h1, h2⟩ := a.rp.two
    cases h1; cases h2
    refine ⟨x, y, rfl, k _ H1 (YzS x y) a.kp a.box ?_ fun i Hn x H' hi hk y => ?_⟩
    · rw [zip_len, signs_len, signs_len]
      exact walk_zipS.mono (fun _ _ => trivial) fun i H x H' _ _ y => y
    · obtain ⟨s, d, g1, g2⟩ := zipS_items (K := X.K) (β := β) y
      exact ⟨s, d, g1, fun O' _ => g2 O'⟩
end
end MD
end

section
set_option Elab.async false
set_option linter.all false
set_option maxRecDepth 100000
namespace MD
open PySem PySem.Spec PyProof.Rows L2

/-! ### comprehensions -/
def compL (set : D → Ev → Option Ev) (tt : Tf) (el : Ef) (env0 : Ev) : List D → M (List D)
  | [] => ret []
  | d :: ds => bnd (opt (set d env0)) fun env1 => bnd (tt env1) fun c => if c = true then bnd (el env1) fun y => bnd (compL set tt el env0 ds) fun ys => ret (y :: ys) else compL set tt el env0 ds
def tYesF : Tf := fun _ => ret true
def eLc (vs : List Nat) (set : D → Ev → Option Ev) (it : Lf) (tt : Tf) (el : Ef) : Ef := fun env => bnd (it env) fun ds => if ds.length ≤ sizeLine then bnd (compL set tt el (maskE vs env) ds) fun ys => ret (.list ys) else fail

theorem BoxOk.same {β H H' bx} (b : BoxOk β H bx) (s : Same H H') : BoxOk β H' bx := by
  unfold BoxOk at b ⊢
  split at b
  · trivial
  · exact s _ _ b
  · exact b.elim
theorem BoxOk.upd {β H bx} (b : BoxOk β H bx) {p : Addr} {o : HO} (h : β ≠ some p) : BoxOk β (upd H p o) bx := by
  unfold BoxOk at b ⊢
  split at b
  · trivial
  · rw [upd_ne (fun z => h (by rw [z]))]; exact b
  · exact b.elim
theorem EnvR.map {K β O O' H H' env σ} (E : EnvR K β O H env σ) (k : Kp O H H') (ho : ∀ q o, H q = some o → ¬ O q → ¬ O' q) : EnvR K β O' H' env σ :=
  ⟨E.1, fun i d h =>
    let ⟨v, a, b⟩ := E.2 i d h
    ⟨v, a, Rp.map k ho _ _ b⟩⟩
theorem Kp.updM {O : Addr → Prop} {H : Hp} {p : Addr} {u o : HO} (hp : H p = some u) (hu : MutB u = true) (h : O p) : Kp O H (upd H p o) := fun q w e n => by
  by_cases c : q = p
  · subst c
    rw [hp] at e; cases e
    rw [n h] at hu
    exact Bool.noConfusion hu
  · rw [upd_ne c]; exact e
theorem Kp.updO {O : Addr → Prop} {H : Hp} {p : Addr} {xs : List V} {o : HO} (hp : H p = some (.lst xs)) (h : O p) : Kp O H (upd H p o) := Kp.updM hp rfl h
theorem Kp.upd0 {O : Addr → Prop} {H H1 : Hp} (k : Kp O H H1) {p : Addr} {o : HO} (hp : H p = none) : Kp O H (upd H1 p o) := fun q u e n => by
  rw [upd_ne (ne_of_none e hp)]; exact k q u e n

theorem wipe_wipe {σ : L2.St} {vs : List Nat} : wipe (wipe σ vs) vs = wipe σ vs := by
  apply List.ext_getElem?
  intro j
  rw [wipe_get]
  by_cases m : j ∈ vs
  · rw [if_pos m, wipe_get, if_pos m, wipe_length]
  · rw [if_neg m]
/-- the tests of a comprehension -/
structure TtOk (K : PySem.W.Frag) (tt : Tf) (t : TT) : Prop where
  run : ∀ β O H σ env bx c bx', EnvR K β O H env σ → Pre β O H bx → tt env bx = some (c, bx') → ∀ Q : Bool → Hp → Prop, (∀ H', Kp (bO β) H H' → BoxOk β H' bx' → Q c H') → t σ H Q
theorem ttYes {K : PySem.W.Frag} : TtOk K tYesF tYes := ⟨fun β O H σ env bx c bx' E p q Q k => by
  have q : some (true, bx) = some (c, bx') := q
  cases q
  exact k H .refl p.box⟩
theorem ttT {K : PySem.W.Frag} {f : Tf} : TtOk K f (tT f K) := ⟨fun β O H σ env bx c bx' E p q Q k => ⟨β, O, env, bx, c, bx', E, p, q, k⟩⟩

section
variable {X : Cx}
/-- what a comprehension's reading asks, from the plain function -/
theorem lc_sem {pr : Bool} {own : List Nat} {is : List Nat} {set : D → Ev → Option Ev} {it : Lf} {tt : Tf} {ttr : TT} {el : Ef} {w : TI}
    (hw : ∀ β O H σ env bx ds bx', EnvR X.K β O H env σ → Pre β O H bx → it env bx = some (ds, bx') → ∀ R : It → Hp → Prop,
      (∀ J H1 Y, Kp (bO β) H H1 → BoxOk β H1 bx' → Walk J ds.length (fun Hn => pr = true ∨ Kp O H1 Hn) Y →
        (∀ i Hn x H', i < ds.length → (pr = true ∨ Kp O H1 Hn) → Y i Hn x H' → Same Hn H' ∧ ∃ d, ds[i]? = some d ∧ ∀ O' : Addr → Prop, (pr = true ∨ ∀ q o, H1 q = some o → ¬ O q → ¬ O' q) → Rp X.K β O' H' x d) → R J H1) → w σ H R)
    (hs : ∀ i ∈ is, i ∈ own) (ht : TtOk X.K tt ttr) :
    ∀ β O H σ env bx d bx', EnvR X.K β O H env σ → Pre β O H bx → eLc own set it tt el env bx = some (d, bx') → ∀ Q : VK, (∀ v H', Aft X.K β O H bx' d true v H' → Q v H') → tLc w (gO is set X.K) ttr (tE X.K false el) own σ H Q := by
  intro β O H σ env bx d bx' E p q Q k
  obtain ⟨ds, bx1, q1, q⟩ := bnd_some q
  by_cases hz : ds.length ≤ sizeLine
  case neg => rw [if_neg hz] at q; cases q
  rw [if_pos hz] at q
  obtain ⟨ys, bx2, q2, q⟩ := bnd_some q
  have q : some (PyData.list ys, bx2) = some (d, bx') := q
  cases q
  refine hw β O H σ env bx ds bx1 E p q1 _ fun J H1 Y k1 b1 W hy L hL => ?_
  have p1 := p.step k1 b1
  have hbL : β ≠ some L := fun e => by
    obtain ⟨xs, z⟩ := b1.there e
    rw [hL] at z; cases z
  let O' : Addr → Prop := fun q => O q ∨ q = L
  have hO' : ∀ q o, H1 q = some o → ¬ O q → ¬ O' q := fun q o e n z => z.elim n fun w => by rw [w, hL] at e; cases e
  refine lc_it W (fun i Hn => ∃ acc accD bxi rest, Hn L = some (.lst acc) ∧ RpA X.K β O' Hn acc accD ∧ Kp (bO β) H1 Hn ∧ BoxOk β Hn bxi ∧ compL set tt el (maskE own env) (ds.drop i) bxi = some (rest, bx') ∧ accD ++ rest = ys ∧ accD.length ≤ i)
    ⟨[], [], bx1, ys, upd_same, .nil, Kp.refl.upd0 hL, b1.upd hbL, by simpa using q2, rfl, Nat.zero_le _⟩ ?_ ?_ ?_
  · rintro i Hn hi ⟨acc, accD, bxi, rest, h1, h2, h3, h4, h5, h6⟩
    exact .inr (h3.mono p1.bo)
  · rintro i x Hn H' hi ⟨acc, accD, bxi, rest, h1, h2, h3, h4, h5, h6, h7⟩ y
    obtain ⟨sm, dx, g1, g2⟩ := hy i Hn x H' hi (.inr (h3.mono p1.bo)) y
    have g2 := g2 O' (.inr hO')
    have hdrop : ds.drop i = dx :: ds.drop (i + 1) := by
      obtain ⟨e1, e2⟩ := List.getElem?_eq_some_iff.mp g1
      rw [List.drop_eq_getElem_cons e1, e2]
    rw [hdrop] at h5
    obtain ⟨env1, bxa, s1, h5a⟩ := bnd_some h5
    obtain ⟨s3, s4⟩ := opt_some s1
    have s3 : set dx (maskE own env) = some env1 := s3
    have s4 : bxa = bxi := s4
    subst s4
    obtain ⟨c, bxb, t1, h5b⟩ := bnd_some h5a
    have kH' : Kp (bO β) H1 H' := h3.trans (Kp.same sm)
    have p' : Pre β O' H' bxa := by
      have pz := p1.step kH' (h4.same sm)
      refine ⟨fun q hq => hq.elim (pz.occ q) fun z => ⟨.lst acc, by rw [z]; exact sm _ _ h1⟩, fun b e => .inl (pz.bo b e), pz.box⟩
    have E' : EnvR X.K β O' H' (maskE own env) (wipe σ own) := (EnvR.map (E.mask own) (p.kO k1) (fun _ _ _ n => n)).map (p1.kO kH') hO'
    refine ⟨β, O', dx, maskE own env, env1, g2, s3, E'.1, fun σ2 st => ⟨(st.wipe hs).trans ?_, ?_⟩⟩
    · exact wipe_wipe
    have E2 := st.envR E'
    refine ht.run β O' H' σ2 env1 bxa c bxb E2 p' t1 _ fun H3 k3 b3 => ?_
    have p3 := p'.step k3 b3
    have h3' : Kp (bO β) H1 H3 := kH'.trans k3
    have hL3 : H3 L = some (.lst acc) := k3 _ _ (sm _ _ h1) fun z => (hbL z).elim
    have rp3 : RpA X.K β O' H3 acc accD := (h2.kp (Kp.same sm)).kp (p'.kO k3)
    cases c with
    | false =>
      refine iteF ⟨acc, accD, bxb, rest, hL3, rp3, h3', b3, ?_, h6, by omega⟩
      simpa using h5b
    | true =>
      refine iteT ?_
      have h5 : bnd (el env1) (fun y => bnd (compL set tt el (maskE own env) (ds.drop (i + 1))) fun ys => ret (y :: ys)) bxb = some (rest, bx') := by simpa using h5b
      obtain ⟨yv, bxc, e1, h5⟩ := bnd_some h5
      obtain ⟨rs, bxd, e2, h5⟩ := bnd_some h5
      have h5 : some (yv :: rs, bxd) = some (rest, bx') := h5
      cases h5
      refine ⟨β, O', env1, bxb, yv, bxc, E2.step (p'.kO k3), p3, e1, fun v H4 a => ?_⟩
      have hL4 : H4 L = some (.lst acc) := a.kp _ _ hL3 fun z => (hbL z).elim
      refine ⟨acc, hL4, ?_, acc ++ [v], accD ++ [yv], bxc, rs, upd_same, ?_, ?_, a.box.upd hbL, e2, by rw [← h6]; simp, by simp; omega⟩
      · rw [rp3.length]
        omega
      · exact ((rp3.kp (p3.kO a.kp)).snoc a.rp).kp (Kp.updO hL4 (.inr rfl))
      · exact (h3'.trans a.kp).upd0 hL
  · rintro Hn ⟨acc, accD, bxi, rest, h1, h2, h3, h4, h5, h6, h7⟩
    rw [List.drop_length] at h5
    have h5 : some (([] : List D), bxi) = some (rest, bx') := h5
    cases h5
    rw [List.append_nil] at h6
    subst h6
    have kk : Kp (bO β) H Hn := k1.trans h3
    refine k _ Hn ⟨kk, h4, .lst h1 (p1.no hL) (h2.less fun q z => .inl z), fun _ => ⟨L, _, rfl, rfl, p.none k1 b1 hL, acc, h1, h2⟩⟩
theorem se_lc {elt tg iter : Expr} {ifs : List Expr} {scope : Scope} {own : List (Str × Nat)} {pos : Pos} {pr fe : Bool} {is : List Nat} {set : D → Ev → Option Ev} {it : Lf} {tt : Tf} {ttr : TT} {el : Ef} (hc : X.calm = true) (hN : X.N.Nodup)
    (I : SI X tg iter pr it) (ok : BlkOk X.N X.env.scope scope own) (hg : ∀ (s : Shared) (H : Hp) (C : Addr) (cl : List (Str × Addr)) (fp : List Addr), SG (X.blk s H scope (compEnvC scope cl C X.env) fp) tg is set)
    (ht : TtOk X.K tt ttr) (hts : ∀ (s : Shared) (H : Hp) (C : Addr) (cl : List (Str × Addr)) (fp : List Addr), PTs (X.blk s H scope (compEnvC scope cl C X.env) fp) ifs ttr)
    (he : ∀ (s : Shared) (H : Hp) (C : Addr) (cl : List (Str × Addr)) (fp : List Addr), SE (X.blk s H scope (compEnvC scope cl C X.env) fp) fe elt el) (hin : ∀ i ∈ is, i ∈ own.map (·.2) := by decide) (hs : ∀ x, foldedSetIterable iter X.env x = pure x := by intro _; rfl) :
    SE X true (.ListComp elt [⟨tg, iter, ifs, 0⟩] scope pos) (eLc (own.map (·.2)) set it tt el) := by
  obtain ⟨w, pi, hw⟩ := I.run
  exact ⟨_, pe_lc (g := gO is set X.K) (te := tE X.K false el) hc hN pi ok (fun s H C cl fp => (hg s H C cl fp).run) hts (fun s H C cl fp => (he s H C cl fp).weak.pe) hs, lc_sem hw hin ht⟩

/-! ### name = e: what is stored -/
structure SAs (X : Cx) (st : Stmt) (i : Nat) (fr : Bool) (f : Ef) : Prop where
  run : ∃ te, PS X st (tAsg te (gName i)) ∧ ∀ β O H σ env bx d bx', EnvR X.K β O H env σ → Pre β O H bx → f env bx = some (d, bx') → ∀ Q : VK, (∀ v H', Aft X.K β O H bx' d fr v H' → Q v H') → te σ H Q
theorem sas_set {i : Nat} {x : Str} {e : Expr} {fr : Bool} {f : Ef} {pos' pos : Pos} (hN : X.N.Nodup) (A : SE X fr e f) (hi : X.N[i]? = some x := by rfl) (hx : Loc X.env.scope x := by first | exact Or.inl rfl | exact Or.inr rfl) (hs : swapsWith e (some (.Name x pos')) pos.line X.env = pure false := by rfl)
    (hf : X.fn x = true ∨ X.env.scope.names.lookup x = some .local := by first | exact .inl rfl | exact .inr rfl) : SAs X (.Assign [.Name x pos'] e pos) i fr f := by
  obtain ⟨t, pe, r⟩ := A.run
  exact ⟨t, ps_set hN hi hx pe hs hf, r⟩
theorem sas_lc {i : Nat} {y : Str} {py spos : Pos} {elt tg iter : Expr} {ifs : List Expr} {scope : Scope} {own : List (Str × Nat)} {pos : Pos} {pr fe : Bool} {is : List Nat} {set : D → Ev → Option Ev} {it : Lf} {tt : Tf} {ttr : TT} {el : Ef} (hc : X.calm = true) (hN : X.N.Nodup)
    (I : SI X tg iter pr it) (ok : BlkOk X.N X.env.scope scope own) (hg : ∀ (s : Shared) (H : Hp) (C : Addr) (cl : List (Str × Addr)) (fp : List Addr), SG (X.blk s H scope (compEnvC scope cl C X.env) fp) tg is set)
    (ht : TtOk X.K tt ttr) (hts : ∀ (s : Shared) (H : Hp) (C : Addr) (cl : List (Str × Addr)) (fp : List Addr), PTs (X.blk s H scope (compEnvC scope cl C X.env) fp) ifs ttr)
    (he : ∀ (s : Shared) (H : Hp) (C : Addr) (cl : List (Str × Addr)) (fp : List Addr), SE (X.blk s H scope (compEnvC scope cl C X.env) fp) fe elt el)
    (hsw : swapsWith (.ListComp elt [⟨tg, iter, ifs, 0⟩] scope pos) (some (.Name y py)) spos.line X.env = pure true) (hy : X.N[i]? = some y := by rfl) (hyl : X.env.scope.names.lookup y = some .local := by rfl)
    (hin : ∀ i ∈ is, i ∈ own.map (·.2) := by decide) (hs : ∀ x, foldedSetIterable iter X.env x = pure x := by intro _; rfl) :
    SAs X (.Assign [.Name y py] (.ListComp elt [⟨tg, iter, ifs, 0⟩] scope pos) spos) i true (eLc (own.map (·.2)) set it tt el) := by
  obtain ⟨w, pi, hw⟩ := I.run
  exact ⟨_, ps_setLc (g := gO is set X.K) (te := tE X.K false el) hc hN hy hyl hsw pi ok (fun s H C cl fp => (hg s H C cl fp).run) hts (fun s H C cl fp => (he s H C cl fp).weak.pe) hs, lc_sem hw hin ht⟩
end
end MD
end

section
set_option Elab.async false
set_option linter.all false
set_option maxRecDepth 100000
namespace MD
open PySem PySem.Spec PyProof.Rows L2

theorem nem {own : List Nat} {i j : Nat} (m : i ∉ own) (h : j ∈ own) : i ≠ j := fun z => m (by rw [z]; exact h)
inductive Fl where
  | nx (e : Ev) | rt (d : D) | bk (e : Ev) | ct (e : Ev)
abbrev Sf := Ev → M Fl
/-- the lists that are a caller's, and those that the slots own own -/
def Ow (Ob : Addr → Prop) (own : List Nat) (σ : L2.St) (q : Addr) : Prop := Ob q ∨ ∃ i, i ∈ own ∧ σ[i]? = some (some (.ref q))
structure StR (K : PySem.W.Frag) (β : Option Addr) (Ob : Addr → Prop) (own : List Nat) (H0 H : Hp) (env : Ev) (σ : L2.St) : Prop where
  len : σ.length = env.length
  imm : ∀ (i : Nat) (d : D), i ∉ own → env[i]? = some (some d) → ∃ v, σ[i]? = some (some v) ∧ Rp K β (Ow Ob own σ) H v d
  ownd : ∀ i, i ∈ own → ∃ p o d, env[i]? = some (some d) ∧ σ[i]? = some (some (.ref p)) ∧ H p = some o ∧ OwnR K β (Ow Ob own σ) H o d ∧ ¬ Ob p ∧ H0 p = none
  inj : ∀ (i j : Nat) (p : Addr), i ∈ own → j ∈ own → σ[i]? = some (some (.ref p)) → σ[j]? = some (some (.ref p)) → i = j
  frame : Kp (bO β) H0 H
theorem StR.ownL {K β Ob own H0 H env σ} (s : StR K β Ob own H0 H env σ) {i : Nat} (m : i ∈ own) {ds : List D} (h : env[i]? = some (some (.list ds))) : ∃ p vs ds', env[i]? = some (some (.list ds')) ∧ σ[i]? = some (some (.ref p)) ∧ H p = some (.lst vs) ∧ RpA K β (Ow Ob own σ) H vs ds' ∧ ¬ Ob p ∧ H0 p = none := by
  obtain ⟨p, o, d, e1, e2, e3, e4, e5, e6⟩ := s.ownd i m
  rw [h] at e1
  cases e1
  cases e4 with
  | lst a => exact ⟨p, _, ds, h, e2, e3, a, e5, e6⟩
structure PreS (β : Option Addr) (Ob : Addr → Prop) (H0 : Hp) : Prop where
  bo : ∀ b, β = some b → Ob b
  occ : ∀ q, Ob q → ∃ o : HO, H0 q = some o
/-- what a statement may change -/
structure Stp (Ob : Addr → Prop) (own : List Nat) (σ : L2.St) (H : Hp) (own' : List Nat) (σ' : L2.St) (H' : Hp) : Prop where
  kp : Kp (Ow Ob own σ) H H'
  dom : ∀ q o, H q = some o → ∃ o', H' q = some o'
  ow : ∀ q, Ow Ob own' σ' q → Ow Ob own σ q ∨ H q = none
theorem Stp.refl {Ob own σ H} : Stp Ob own σ H own σ H := ⟨.refl, fun q o h => ⟨o, h⟩, fun q h => .inl h⟩
theorem Stp.trans {Ob own σ H own' σ' H' own2 σ2 H2} (a : Stp Ob own σ H own' σ' H') (b : Stp Ob own' σ' H' own2 σ2 H2) : Stp Ob own σ H own2 σ2 H2 := by
  refine ⟨fun q o h n => ?_, fun q o h => ?_, fun q h => ?_⟩
  · refine b.kp q o (a.kp q o h n) fun z => ?_
    rcases a.ow q z with z | z
    · exact n z
    · rw [h] at z; cases z
  · obtain ⟨o1, h1⟩ := a.dom q o h
    exact b.dom q o1 h1
  · rcases b.ow q h with z | z
    · exact a.ow q z
    · refine .inr ?_
      cases e : H q with
      | none => rfl
      | some o =>
        obtain ⟨o1, h1⟩ := a.dom q o e
        rw [z] at h1; cases h1
theorem dom_of {β H H' bx'} (k : Kp (bO β) H H') (b : BoxOk β H' bx') : ∀ q o, H q = some o → ∃ o', H' q = some o' := fun q o h => by
  by_cases c : β = some q
  · obtain ⟨xs, z⟩ := b.there c; exact ⟨_, z⟩
  · exact ⟨o, k q o h fun z => (c z).elim⟩
section
variable {K : PySem.W.Frag} {β : Option Addr} {Ob : Addr → Prop} {own : List Nat} {H0 H H' : Hp} {env : Ev} {σ : L2.St} {bx bx' : Bx}
theorem StR.preM (p : PreS β Ob H0) (s : StR K β Ob own H0 H env σ) (b : BoxOk β H bx) : Pre β (Ow Ob own σ) H bx := by
  refine ⟨fun q hq => ?_, fun c e => .inl (p.bo c e), b⟩
  rcases hq with hq | ⟨i, hi, e⟩
  · by_cases c : β = some q
    · exact b.thereO c
    · obtain ⟨xs, z⟩ := p.occ q hq
      exact ⟨xs, s.frame _ _ z fun w => (c w).elim⟩
  · obtain ⟨q', vs, ds, e1, e2, e3, _⟩ := s.ownd i hi
    rw [e] at e2; cases e2
    exact ⟨_, e3⟩
theorem StR.preV (p : PreS β Ob H0) (s : StR K β Ob own H0 H env σ) (b : BoxOk β H bx) : Pre β Ob H bx :=
  ⟨fun q hq => (s.preM p b).occ q (.inl hq), p.bo, b⟩
theorem StR.envV (s : StR K β Ob own H0 H env σ) : EnvR K β Ob H env σ := ⟨s.len, fun i d h => by
  by_cases m : i ∈ own
  · obtain ⟨q, vs, ds, e1, e2, e3, e4, e5, _⟩ := s.ownd i m
    rw [h] at e1; cases e1
    exact ⟨_, e2, (e4.less fun q z => .inl z).rp e3 e5⟩
  · obtain ⟨v, a, b⟩ := s.imm i d m h
    exact ⟨v, a, b.less fun q z => .inl z⟩⟩
theorem StR.envM (s : StR K β Ob own H0 H env σ) : EnvR K β (Ow Ob own σ) H (maskE own env) σ := ⟨by rw [maskE_len]; exact s.len, fun i d h => by
  obtain ⟨h1, h2⟩ := maskE_get h
  exact s.imm i d h2 h1⟩
theorem StR.after (p : PreS β Ob H0) (s : StR K β Ob own H0 H env σ) (k : Kp (bO β) H H') : StR K β Ob own H0 H' env σ := by
  have kO : Kp (Ow Ob own σ) H H' := k.mono fun q e => .inl (p.bo q e)
  refine ⟨s.len, fun i d m h => ?_, fun i m => ?_, s.inj, s.frame.trans k⟩
  · obtain ⟨v, a, b⟩ := s.imm i d m h
    exact ⟨v, a, b.kp kO⟩
  · obtain ⟨q, vs, ds, e1, e2, e3, e4, e5, e6⟩ := s.ownd i m
    exact ⟨q, vs, ds, e1, e2, k _ _ e3 fun z => (e5 (p.bo _ z)).elim, e4.kp kO, e5, e6⟩
theorem Stp.after (p : PreS β Ob H0) (k : Kp (bO β) H H') (b : BoxOk β H' bx') : Stp Ob own σ H own σ H' := ⟨k.mono fun q e => .inl (p.bo q e), dom_of k b, fun q h => .inl h⟩
theorem Ow.sub {own' : List Nat} (h : ∀ i ∈ own', i ∈ own) {q : Addr} (o : Ow Ob own' σ q) : Ow Ob own σ q := o.elim .inl fun ⟨i, a, b⟩ => .inr ⟨i, h i a, b⟩
theorem StR.drop {own' : List Nat} (s : StR K β Ob own H0 H env σ) (h : ∀ i ∈ own', i ∈ own) : StR K β Ob own' H0 H env σ := by
  refine ⟨s.len, fun i d m e => ?_, fun i m => ?_, fun i j p a b => s.inj i j p (h i a) (h j b), s.frame⟩
  · by_cases m' : i ∈ own
    · obtain ⟨q, vs, ds, e1, e2, e3, e4, e5, e6⟩ := s.ownd i m'
      rw [e] at e1; cases e1
      refine ⟨_, e2, (e4.less fun q z => z.sub h).rp e3 (fun z => ?_)⟩
      rcases z with z | ⟨j, hj, ej⟩
      · exact e5 z
      · have := s.inj i j q m' (h j hj) e2 ej
        subst this
        exact m hj
    · obtain ⟨v, a, b⟩ := s.imm i d m' e
      exact ⟨v, a, b.less fun q z => z.sub h⟩
  · obtain ⟨q, vs, ds, e1, e2, e3, e4, e5, e6⟩ := s.ownd i (h i m)
    exact ⟨q, vs, ds, e1, e2, e3, e4.less fun q z => z.sub h, e5, e6⟩
theorem Stp.drop {own' : List Nat} (h : ∀ i ∈ own', i ∈ own) : Stp Ob own σ H own' σ H := ⟨.refl, fun q o h => ⟨o, h⟩, fun q z => .inl (z.sub h)⟩
theorem Ow.set {i : Nat} {v : V} (m : i ∉ own) {q : Addr} : Ow Ob own (σ.set i (some v)) q ↔ Ow Ob own σ q := by
  unfold Ow
  refine or_congr Iff.rfl ⟨fun ⟨j, a, b⟩ => ⟨j, a, ?_⟩, fun ⟨j, a, b⟩ => ⟨j, a, ?_⟩⟩
  · rw [List.getElem?_set_ne (nem m a)] at b; exact b
  · rw [List.getElem?_set_ne (nem m a)]; exact b
theorem StR.set {i : Nat} {v : V} {d : D} (s : StR K β Ob own H0 H env σ) (m : i ∉ own) (r : Rp K β (Ow Ob own σ) H v d) : StR K β Ob own H0 H (env.set i (some d)) (σ.set i (some v)) := by
  have ho : ∀ q, Ow Ob own (σ.set i (some v)) q → Ow Ob own σ q := fun q => (Ow.set m).mp
  refine ⟨by simpa using s.len, fun j e mj h => ?_, fun j mj => ?_, fun j k p a b => ?_, s.frame⟩
  · by_cases c : i = j
    · subst c
      by_cases hl : i < env.length
      · rw [List.getElem?_set_self hl] at h
        cases h
        exact ⟨v, by rw [List.getElem?_set_self (by rw [s.len]; exact hl)], r.less ho⟩
      · rw [List.getElem?_eq_none (by simpa using hl)] at h; cases h
    · rw [List.getElem?_set_ne c] at h ⊢
      obtain ⟨w, a, b⟩ := s.imm j e mj h
      exact ⟨w, a, b.less ho⟩
  · have c : i ≠ j := nem m mj
    rw [List.getElem?_set_ne c, List.getElem?_set_ne c]
    obtain ⟨q, vs, ds, e1, e2, e3, e4, e5, e6⟩ := s.ownd j mj
    exact ⟨q, vs, ds, e1, e2, e3, e4.less ho, e5, e6⟩
  · rw [List.getElem?_set_ne (nem m a), List.getElem?_set_ne (nem m b)]
    exact s.inj j k p a b
theorem Stp.set {i : Nat} {v : V} (m : i ∉ own) : Stp Ob own σ H own (σ.set i (some v)) H := ⟨.refl, fun q o h => ⟨o, h⟩, fun q z => .inl ((Ow.set m).mp z)⟩
theorem StR.sets {is : List Nat} {O : Addr → Prop} {env' : Ev} {σ' : L2.St} (h : Sets K β O H is env σ env' σ') : (∀ q, Ow Ob own σ q → O q) → (∀ i ∈ is, i ∉ own) → StR K β Ob own H0 H env σ → StR K β Ob own H0 H env' σ' ∧ Stp Ob own σ H own σ' H := by
  induction h with
  | nil => intro _ _ s; exact ⟨s, .refl⟩
  | @cons i is env σ env' σ' v d r _ ih =>
    intro ho m s
    have mi := m i List.mem_cons_self
    have s1 := s.set (v := v) (d := d) mi (r.less ho)
    obtain ⟨a, b⟩ := ih (fun q z => ho q ((Ow.set mi).mp z)) (fun j hj => m j (List.mem_cons_of_mem _ hj)) s1
    exact ⟨a, (Stp.set mi).trans b⟩
/-- a new object becomes the slot's own -/
theorem StR.setOw {i : Nat} {q : Addr} {o1 : HO} {d1 : D} (p : PreS β Ob H0) (s : StR K β Ob own H0 H env σ) (b : BoxOk β H bx) (m : i ∉ own) (hi : i < env.length) (k : Kp (bO β) H H') (hq : H q = none) (hq' : H' q = some o1) (r : OwnR K β (fun a => Ow Ob own σ a ∨ a = q) H' o1 d1) :
    StR K β Ob (i :: own) H0 H' (env.set i (some d1)) (σ.set i (some (.ref q))) := by
  have hσ : i < σ.length := by rw [s.len]; exact hi
  have kO : Kp (Ow Ob own σ) H H' := k.mono fun q e => .inl (p.bo q e)
  have pm := s.preM p b
  have ho : ∀ a, Ow Ob (i :: own) (σ.set i (some (.ref q))) a → Ow Ob own σ a ∨ a = q := by
    rintro a (z | ⟨j, hj, e⟩)
    · exact .inl (.inl z)
    · rcases List.mem_cons.mp hj with rfl | hj
      · rw [List.getElem?_set_self hσ] at e; cases e; exact .inr rfl
      · rw [List.getElem?_set_ne (nem m hj)] at e
        exact .inl (.inr ⟨j, hj, e⟩)
  have hup : ∀ a o, H a = some o → ¬ Ow Ob own σ a → ¬ Ow Ob (i :: own) (σ.set i (some (.ref q))) a := fun a o e n z => (ho a z).elim n fun w => by rw [w, hq] at e; cases e
  have hOb : ¬ Ob q := fun z => by
    obtain ⟨xs, e⟩ := pm.occ q (.inl z)
    rw [hq] at e; cases e
  refine ⟨by simpa using s.len, fun j e mj h => ?_, fun j mj => ?_, fun j l p' a b' h1 h2 => ?_, s.frame.trans k⟩
  · have c : i ≠ j := Ne.symm (nem mj List.mem_cons_self)
    rw [List.getElem?_set_ne c] at h ⊢
    obtain ⟨w, a, b⟩ := s.imm j e (fun z => mj (List.mem_cons_of_mem _ z)) h
    exact ⟨w, a, Rp.map kO hup _ _ b⟩
  · rcases List.mem_cons.mp mj with rfl | mj
    · refine ⟨q, o1, d1, List.getElem?_set_self hi, List.getElem?_set_self hσ, hq', r.less ho, hOb, ?_⟩
      cases e : H0 q with
      | none => rfl
      | some o =>
        by_cases c : β = some q
        · exact (hOb (p.bo q c)).elim
        · have := s.frame q o e fun w => (c w).elim
          rw [hq] at this; cases this
    · have c : i ≠ j := nem m mj
      rw [List.getElem?_set_ne c, List.getElem?_set_ne c]
      obtain ⟨q1, vs1, ds1, e1, e2, e3, e4, e5, e6⟩ := s.ownd j mj
      exact ⟨q1, vs1, ds1, e1, e2, k _ _ e3 fun z => (e5 (p.bo _ z)).elim, e4.map kO hup, e5, e6⟩
  · have old : ∀ j, j ∈ own → (σ.set i (some (.ref q)))[j]? = some (some (.ref q)) → False := fun j hj e => by
      rw [List.getElem?_set_ne (nem m hj)] at e
      obtain ⟨q1, vs1, ds1, e1, e2, e3, _⟩ := s.ownd j hj
      rw [e] at e2; cases e2
      rw [hq] at e3; cases e3
    rcases List.mem_cons.mp a with ja | a
    · rcases List.mem_cons.mp b' with lb | b'
      · rw [ja, lb]
      · rw [ja, List.getElem?_set_self hσ] at h1; cases h1
        exact (old l b' h2).elim
    · rcases List.mem_cons.mp b' with lb | b'
      · rw [lb, List.getElem?_set_self hσ] at h2; cases h2
        exact (old j a h1).elim
      · rw [List.getElem?_set_ne (nem m a)] at h1
        rw [List.getElem?_set_ne (nem m b')] at h2
        exact s.inj j l p' a b' h1 h2
/-- a new list becomes the slot's own -/
theorem StR.setO {i : Nat} {q : Addr} {vs : List V} {ds : List D} (p : PreS β Ob H0) (s : StR K β Ob own H0 H env σ) (b : BoxOk β H bx) (m : i ∉ own) (hi : i < env.length) (k : Kp (bO β) H H') (hq : H q = none) (hq' : H' q = some (.lst vs)) (r : RpA K β (fun a => Ow Ob own σ a ∨ a = q) H' vs ds) :
    StR K β Ob (i :: own) H0 H' (env.set i (some (.list ds))) (σ.set i (some (.ref q))) := s.setOw p b m hi k hq hq' (.lst r)
theorem Stp.setO {i : Nat} {q : Addr} (m : i ∉ own) (hi : i < σ.length) (hq : H q = none) : Stp Ob own σ H (i :: own) (σ.set i (some (.ref q))) H := ⟨.refl, fun q o h => ⟨o, h⟩, by
  rintro a (z | ⟨j, hj, e⟩)
  · exact .inl (.inl z)
  · rcases List.mem_cons.mp hj with rfl | hj
    · rw [List.getElem?_set_self hi] at e; cases e; exact .inr hq
    · rw [List.getElem?_set_ne (nem m hj)] at e
      exact .inl (.inr ⟨j, hj, e⟩)⟩
/-- an own object is changed -/
theorem StR.mutO {i : Nat} {q : Addr} {u u' : HO} {d' : D} (s : StR K β Ob own H0 H env σ) (m : i ∈ own) (e1 : σ[i]? = some (some (.ref q))) (e2 : H q = some u) (hu : MutB u = true) (r : OwnR K β (Ow Ob own σ) H u' d') :
    StR K β Ob own H0 (upd H q u') (env.set i (some d')) σ := by
  have oq : Ow Ob own σ q := .inr ⟨i, m, e1⟩
  have kO : Kp (Ow Ob own σ) H (upd H q u') := Kp.updM e2 hu oq
  obtain ⟨q1, vs1, ds1, f1, f2, f3, f4, f5, f6⟩ := s.ownd i m
  rw [e1] at f2; cases f2
  have hi : i < env.length := (List.getElem?_eq_some_iff.mp f1).1
  refine ⟨by simpa using s.len, fun j e mj h => ?_, fun j mj => ?_, s.inj, s.frame.upd0 f6⟩
  · rw [List.getElem?_set_ne (Ne.symm (nem mj m))] at h
    obtain ⟨w, a, b⟩ := s.imm j e mj h
    exact ⟨w, a, b.kp kO⟩
  · by_cases c : i = j
    · subst c
      exact ⟨q, u', d', List.getElem?_set_self hi, e1, upd_same, r.kp kO, f5, f6⟩
    · rw [List.getElem?_set_ne c]
      obtain ⟨q2, vs2, ds2, g1, g2, g3, g4, g5, g6⟩ := s.ownd j mj
      have ne : q2 ≠ q := fun z => c (s.inj i j q m mj e1 (by rw [← z]; exact g2))
      exact ⟨q2, vs2, ds2, g1, g2, by rw [upd_ne ne]; exact g3, g4.kp kO, g5, g6⟩
/-- an own list is changed -/
theorem StR.mut {i : Nat} {q : Addr} {vs vs' : List V} {ds' : List D} (s : StR K β Ob own H0 H env σ) (m : i ∈ own) (e1 : σ[i]? = some (some (.ref q))) (e2 : H q = some (.lst vs)) (r : RpA K β (Ow Ob own σ) H vs' ds') :
    StR K β Ob own H0 (upd H q (.lst vs')) (env.set i (some (.list ds'))) σ := s.mutO m e1 e2 rfl (.lst r)
theorem Stp.mutO {i : Nat} {q : Addr} {u u' : HO} (m : i ∈ own) (e1 : σ[i]? = some (some (.ref q))) (e2 : H q = some u) (hu : MutB u = true) : Stp Ob own σ H own σ (upd H q u') :=
  ⟨Kp.updM e2 hu (.inr ⟨i, m, e1⟩), fun a o h => by
    by_cases c : a = q
    · exact ⟨_, by rw [c]; exact upd_same⟩
    · exact ⟨o, by rw [upd_ne c]; exact h⟩, fun q z => .inl z⟩
theorem Stp.mut {i : Nat} {q : Addr} {vs vs' : List V} (m : i ∈ own) (e1 : σ[i]? = some (some (.ref q))) (e2 : H q = some (.lst vs)) : Stp Ob own σ H own σ (upd H q (.lst vs')) := Stp.mutO m e1 e2 rfl
end

def EndOk (K : PySem.W.Frag) (β : Option Addr) (Ob : Addr → Prop) (own : List Nat) (σ : L2.St) (H : Hp) (own' lo : List Nat) (H0 : Hp) (fl : Fl) (bx' : Bx) (E : Ends) : Prop := match fl with
  | .nx e => ∀ σ' H', StR K β Ob own' H0 H' e σ' → BoxOk β H' bx' → Stp Ob own σ H own' σ' H' → E.nx σ' H'
  | .ct e => ∀ σ' H', StR K β Ob lo H0 H' e σ' → BoxOk β H' bx' → Stp Ob own σ H lo σ' H' → E.ct σ' H'
  | .bk e => ∀ σ' H', StR K β Ob lo H0 H' e σ' → BoxOk β H' bx' → Stp Ob own σ H lo σ' H' → E.bk σ' H'
  | .rt d => ∀ v H', Kp (bO β) H0 H' → BoxOk β H' bx' → Rp K β Ob H' v d → E.rt v H'
structure SS (X : Cx) (own own' lo : List Nat) (st : Stmt) (f : Sf) : Prop where
  run : ∃ t, PS X st t ∧ ∀ β Ob H0 H σ env bx fl bx', PreS β Ob H0 → StR X.K β Ob own H0 H env σ → BoxOk β H bx → f env bx = some (fl, bx') → ∀ E : Ends, EndOk X.K β Ob own σ H own' lo H0 fl bx' E → t E σ H
structure SSs (X : Cx) (own own' lo : List Nat) (st : List Stmt) (f : Sf) : Prop where
  run : ∃ t, PSs X st t ∧ ∀ β Ob H0 H σ env bx fl bx', PreS β Ob H0 → StR X.K β Ob own H0 H env σ → BoxOk β H bx → f env bx = some (fl, bx') → ∀ E : Ends, EndOk X.K β Ob own σ H own' lo H0 fl bx' E → t E σ H
def sNil : Sf := fun env => ret (.nx env)
def sSeq (a b : Sf) : Sf := fun env => bnd (a env) fun fl => match fl with
  | .nx e => b e
  | o => ret o
def sSetM (own : List Nat) (i : Nat) (a : Ef) : Sf := fun env => bnd (a (maskE own env)) fun d => ret (.nx (env.set i (some d)))
def sSetV (i : Nat) (a : Ef) : Sf := fun env => bnd (a env) fun d => if flat d = true then ret (.nx (env.set i (some d))) else fail
def sRet (a : Ef) : Sf := fun env => bnd (a env) fun d => ret (.rt d)
def sRetN : Sf := fun _ => ret (.rt .none)
def sDrop (a : Ef) : Sf := fun env => bnd (a env) fun _ => ret (.nx env)
def sIf (c : Tf) (a b : Sf) : Sf := fun env => bnd (c env) fun k => if k = true then a env else b env
def sCt : Sf := fun env => ret (.ct env)
def getL (env : Ev) (i : Nat) : Option (List D) := match env[i]? with
  | some (some (.list ds)) => some ds
  | _ => none
theorem getL_some {env : Ev} {i : Nat} {ds : List D} (h : getL env i = some ds) : env[i]? = some (some (.list ds)) := by
  unfold getL at h
  split at h
  · cases h; assumption
  · cases h
def sApp (msk : List Nat) (vis : Bool) (i : Nat) (a : Ef) : Sf := fun env => bnd (a (maskE msk env)) fun d => bnd (opt (getL env i)) fun ds => if (vis = true → flat d = true) ∧ ds.length < sizeLine then ret (.nx (env.set i (some (.list (ds ++ [d]))))) else fail
section
variable {X : Cx} {own own' own2 lo : List Nat}
theorem sss_nil : SSs X own own lo [] sNil := ⟨_, pss_nil, fun β Ob H0 H σ env bx fl bx' p s b q E k => by
  have q : some (Fl.nx env, bx) = some (fl, bx') := q
  cases q
  exact k σ H s b .refl⟩
theorem EndOk.trans {K β Ob σ H σ1 H1 own1 H0 fl bx' E} (a : Stp Ob own σ H own1 σ1 H1) (k : EndOk K β Ob own σ H own' lo H0 fl bx' E) : EndOk K β Ob own1 σ1 H1 own' lo H0 fl bx' E := by
  cases fl with
  | nx e => exact fun σ' H' s b z => k σ' H' s b (a.trans z)
  | ct e => exact fun σ' H' s b z => k σ' H' s b (a.trans z)
  | bk e => exact fun σ' H' s b z => k σ' H' s b (a.trans z)
  | rt d => exact k
theorem sss_cons {st : Stmt} {rest : List Stmt} {f g : Sf} (A : SS X own own' lo st f) (B : SSs X own' own2 lo rest g) : SSs X own own2 lo (st :: rest) (sSeq f g) := by
  obtain ⟨ta, pa, ra⟩ := A.run
  obtain ⟨tb, pb, rb⟩ := B.run
  refine ⟨_, pss_cons pa pb, fun β Ob H0 H σ env bx fl bx' p s b q E k => ?_⟩
  obtain ⟨fl1, bx1, q1, q⟩ := bnd_some q
  refine ra β Ob H0 H σ env bx fl1 bx1 p s b q1 _ ?_
  cases fl1 with
  | nx e => exact fun σ1 H1 s1 b1 z => rb β Ob H0 H1 σ1 e bx1 fl bx' p s1 b1 q E (k.trans z)
  | ct e => have q : some (Fl.ct e, bx1) = some (fl, bx') := q; cases q; exact k
  | bk e => have q : some (Fl.bk e, bx1) = some (fl, bx') := q; cases q; exact k
  | rt d => have q : some (Fl.rt d, bx1) = some (fl, bx') := q; cases q; exact k
theorem sss_one {st : Stmt} {f : Sf} (A : SS X own own' lo st f) : SSs X own own' lo [st] f := by
  obtain ⟨ta, pa, ra⟩ := A.run
  exact ⟨_, pss_one pa, ra⟩
/-- fewer own slots from here on -/
theorem SS.less {st : Stmt} {f : Sf} (A : SS X own' own2 lo st f) (h : ∀ i ∈ own', i ∈ own := by decide) : SS X own own2 lo st f := by
  obtain ⟨t, pe, r⟩ := A.run
  exact ⟨t, pe, fun β Ob H0 H σ env bx fl bx' p s b q E k => r β Ob H0 H σ env bx fl bx' p (s.drop h) b q E (k.trans (Stp.drop h))⟩
theorem SSs.less {st : List Stmt} {f : Sf} (A : SSs X own' own2 lo st f) (h : ∀ i ∈ own', i ∈ own := by decide) : SSs X own own2 lo st f := by
  obtain ⟨t, pe, r⟩ := A.run
  exact ⟨t, pe, fun β Ob H0 H σ env bx fl bx' p s b q E k => r β Ob H0 H σ env bx fl bx' p (s.drop h) b q E (k.trans (Stp.drop h))⟩
/-- name = e, any data -/
theorem ss_setM {st : Stmt} {i : Nat} {fr : Bool} {f : Ef} (A : SAs X st i fr f) (m : i ∉ own := by decide) : SS X own own lo st (sSetM own i f) := by
  obtain ⟨t, pe, r⟩ := A.run
  refine ⟨_, pe, fun β Ob H0 H σ env bx fl bx' p s b q E k => ?_⟩
  obtain ⟨d, bx1, q1, q⟩ := bnd_some q
  have q : some (Fl.nx (env.set i (some d)), bx1) = some (fl, bx') := q
  cases q
  refine r β (Ow Ob own σ) H σ (maskE own env) bx d bx' s.envM (s.preM p b) q1 _ fun v H1 a => ?_
  exact k _ H1 ((s.after p a.kp).set m a.rp) a.box ((Stp.after p a.kp a.box).trans (Stp.set m))
/-- name = e, flat data -/
theorem ss_setV {st : Stmt} {i : Nat} {fr : Bool} {f : Ef} (A : SAs X st i fr f) (m : i ∉ own := by decide) : SS X own own lo st (sSetV i f) := by
  obtain ⟨t, pe, r⟩ := A.run
  refine ⟨_, pe, fun β Ob H0 H σ env bx fl bx' p s b q E k => ?_⟩
  obtain ⟨d, bx1, q1, q⟩ := bnd_some q
  by_cases hf : flat d = true
  case neg => rw [if_neg hf] at q; cases q
  rw [if_pos hf] at q
  have q : some (Fl.nx (env.set i (some d)), bx1) = some (fl, bx') := q
  cases q
  refine r β Ob H σ env bx d bx' s.envV (s.preV p b) q1 _ fun v H1 a => ?_
  exact k _ H1 ((s.after p a.kp).set m (a.rp.flat hf)) a.box ((Stp.after p a.kp a.box).trans (Stp.set m))
/-- name = e, a new list, from here on the slot's own -/
def sSetO (own : List Nat) (i : Nat) (a : Ef) : Sf := fun env => bnd (a (maskE own env)) fun d => if i < env.length then ret (.nx (env.set i (some d))) else fail
theorem ss_setO {st : Stmt} {i : Nat} {f : Ef} (A : SAs X st i true f) (m : i ∉ own := by decide) : SS X own (i :: own) lo st (sSetO own i f) := by
  obtain ⟨t, pe, r⟩ := A.run
  refine ⟨_, pe, fun β Ob H0 H σ env bx fl bx' p s b q E k => ?_⟩
  obtain ⟨d, bx1, q1, q⟩ := bnd_some q
  by_cases hi : i < env.length
  case neg => rw [if_neg hi] at q; cases q
  rw [if_pos hi] at q
  have q : some (Fl.nx (env.set i (some d)), bx1) = some (fl, bx') := q
  cases q
  refine r β (Ow Ob own σ) H σ (maskE own env) bx d bx' s.envM (s.preM p b) q1 _ fun v H1 a => ?_
  obtain ⟨l, ds, rfl, rfl, hl, vs, hl', rl⟩ := a.fr rfl
  refine k _ H1 (StR.setO p s b m hi a.kp hl hl' rl) a.box ?_
  refine ⟨a.kp.mono fun q e => .inl (p.bo q e), dom_of a.kp a.box, ?_⟩
  exact (Stp.setO (Ob := Ob) (H := H) m (by rw [s.len]; exact hi) hl).ow
theorem ss_ret {e : Expr} {pos : Pos} {fr : Bool} {f : Ef} (A : SE X fr e f) : SS X own own' lo (.Return (some e) pos) (sRet f) := by
  obtain ⟨t, pe, r⟩ := A.run
  refine ⟨_, ps_ret pe, fun β Ob H0 H σ env bx fl bx' p s b q E k => ?_⟩
  obtain ⟨d, bx1, q1, q⟩ := bnd_some q
  have q : some (Fl.rt d, bx1) = some (fl, bx') := q
  cases q
  exact r β Ob H σ env bx d bx' s.envV (s.preV p b) q1 _ fun v H1 a => k v H1 (s.frame.trans a.kp) a.box a.rp
theorem ss_retN {pos : Pos} : SS X own own' lo (.Return none pos) sRetN := by
  refine ⟨_, ps_retN, fun β Ob H0 H σ env bx fl bx' p s b q E k => ?_⟩
  have q : some (Fl.rt .none, bx) = some (fl, bx') := q
  cases q
  exact k _ H s.frame b .non
theorem ss_drop {e : Expr} {pos : Pos} {fr : Bool} {f : Ef} (A : SE X fr e f) (hs : swapsWith e none pos.line X.env = pure false := by rfl) : SS X own own lo (.Expr e pos) (sDrop f) := by
  obtain ⟨t, pe, r⟩ := A.run
  refine ⟨_, ps_expr pe hs, fun β Ob H0 H σ env bx fl bx' p s b q E k => ?_⟩
  obtain ⟨d, bx1, q1, q⟩ := bnd_some q
  have q : some (Fl.nx env, bx1) = some (fl, bx') := q
  cases q
  exact r β Ob H σ env bx d bx' s.envV (s.preV p b) q1 _ fun v H1 a => k σ H1 (s.after p a.kp) a.box (Stp.after p a.kp a.box)
theorem ss_pass {pos : Pos} : SS X own own lo (.Pass pos) sNil := ⟨_, ps_pass, fun β Ob H0 H σ env bx fl bx' p s b q E k => by
  have q : some (Fl.nx env, bx) = some (fl, bx') := q
  cases q
  exact k σ H s b .refl⟩
theorem ss_ct {pos : Pos} : SS X lo own' lo (.Continue pos) sCt := ⟨_, ps_continue, fun β Ob H0 H σ env bx fl bx' p s b q E k => by
  have q : some (Fl.ct env, bx) = some (fl, bx') := q
  cases q
  exact k σ H s b .refl⟩
theorem ss_if {c : Expr} {a b : List Stmt} {fc : Tf} {f g : Sf} {pos : Pos} (C : ST X c fc) (A : SSs X own own' lo a f) (B : SSs X own own' lo b g) : SS X own own' lo (.If c a b pos) (sIf fc f g) := by
  obtain ⟨tc, pc, rc⟩ := C.run
  obtain ⟨ta, pa, ra⟩ := A.run
  obtain ⟨tb, pb, rb⟩ := B.run
  refine ⟨_, ps_if pc pa pb, fun β Ob H0 H σ env bx fl bx' p s b q E k => ?_⟩
  obtain ⟨x, bx1, q1, q⟩ := bnd_some q
  refine rc β Ob H σ env bx x bx1 s.envV (s.preV p b) q1 _ fun H1 a1 b1 => ?_
  have st := Stp.after (own := own) (σ := σ) p a1 b1
  cases x with
  | true => exact iteT (ra β Ob H0 H1 σ env bx1 fl bx' p (s.after p a1) b1 q E (k.trans st))
  | false => exact iteF (rb β Ob H0 H1 σ env bx1 fl bx' p (s.after p a1) b1 q E (k.trans st))
/-- xs.append(e), xs an own list; e beside the own lists, or what it gives is flat -/
theorem ss_appM {i : Nat} {x : Str} {e : Expr} {fr : Bool} {f : Ef} {px apos cpos pos : Pos} (A : SE X fr e f) (m : i ∈ own)
    (mk : ∀ te, PA X [e] te → PS X (.Expr (.Call (.Attribute (.Name x px) "append" apos) [e] [] cpos) pos) (tDrop (tBM X.K "list" rAppend (tVar i) te))) (hs : starEach [e] X.env = (false, eval e X.env) :: starEach [] X.env := by rfl) :
    SS X own own lo (.Expr (.Call (.Attribute (.Name x px) "append" apos) [e] [] cpos) pos) (sApp own false i f) := by
  obtain ⟨t, pe, r⟩ := A.run
  refine ⟨_, mk _ (pa_cons pe pa_nil hs), fun β Ob H0 H σ env bx fl bx' p s b q E k => ?_⟩
  obtain ⟨d, bx1, q1, q⟩ := bnd_some q
  obtain ⟨ds, bx2, q3, q5⟩ := bnd_some q
  clear q
  obtain ⟨q2, q4⟩ := opt_some q3
  have q4 : bx2 = bx1 := q4
  subst q4
  have q2 : getL env i = some ds := q2
  by_cases hz : (false = true → flat d = true) ∧ ds.length < sizeLine
  case neg => rw [if_neg hz] at q5; cases q5
  rw [if_pos hz] at q5
  have q : some (Fl.nx (env.set i (some (.list (ds ++ [d])))), bx2) = some (fl, bx') := q5
  cases q
  obtain ⟨l, vs, ds', e1, e2, e3, e4, e5, e6⟩ := s.ownL m (getL_some q2)
  rw [getL_some q2] at e1
  cases e1
  refine ⟨_, e2, .inl ⟨rfl, vs, SqL.of e3⟩, ?_⟩
  refine r β (Ow Ob own σ) H σ (maskE own env) bx d bx' s.envM (s.preM p b) q1 _ fun v H1 a => ?_
  have s1 := s.after p a.kp
  obtain ⟨l', vs', ds', f1, f2, f3, f4, f5, f6⟩ := s1.ownL m (getL_some q2)
  rw [e2] at f2; cases f2
  rw [getL_some q2] at f1; cases f1
  refine ⟨l, vs', v, rfl, rfl, f3, by rw [f4.length]; exact hz.2, ?_⟩
  have hb : β ≠ some l := fun z => f5 (p.bo l z)
  exact k σ _ (s1.mut m e2 f3 (f4.snoc a.rp)) (a.box.upd hb) ((Stp.after p a.kp a.box).trans (Stp.mut m e2 f3))
theorem ss_appV {i : Nat} {x : Str} {e : Expr} {fr : Bool} {f : Ef} {px apos cpos pos : Pos} (A : SE X fr e f) (m : i ∈ own)
    (mk : ∀ te, PA X [e] te → PS X (.Expr (.Call (.Attribute (.Name x px) "append" apos) [e] [] cpos) pos) (tDrop (tBM X.K "list" rAppend (tVar i) te))) (hs : starEach [e] X.env = (false, eval e X.env) :: starEach [] X.env := by rfl) :
    SS X own own lo (.Expr (.Call (.Attribute (.Name x px) "append" apos) [e] [] cpos) pos) (sApp [] true i f) := by
  obtain ⟨t, pe, r⟩ := A.run
  refine ⟨_, mk _ (pa_cons pe pa_nil hs), fun β Ob H0 H σ env bx fl bx' p s b q E k => ?_⟩
  obtain ⟨d, bx1, q1, q⟩ := bnd_some q
  obtain ⟨ds, bx2, q3, q5⟩ := bnd_some q
  clear q
  obtain ⟨q2, q4⟩ := opt_some q3
  have q4 : bx2 = bx1 := q4
  subst q4
  have q2 : getL env i = some ds := q2
  by_cases hz : (true = true → flat d = true) ∧ ds.length < sizeLine
  case neg => rw [if_neg hz] at q5; cases q5
  rw [if_pos hz] at q5
  have q : some (Fl.nx (env.set i (some (.list (ds ++ [d])))), bx2) = some (fl, bx') := q5
  cases q
  obtain ⟨l, vs, ds', e1, e2, e3, e4, e5, e6⟩ := s.ownL m (getL_some q2)
  rw [getL_some q2] at e1
  cases e1
  refine ⟨_, e2, .inl ⟨rfl, vs, SqL.of e3⟩, ?_⟩
  refine r β Ob H σ env bx d bx' s.envV (s.preV p b) q1 _ fun v H1 a => ?_
  have s1 := s.after p a.kp
  obtain ⟨l', vs', ds', f1, f2, f3, f4, f5, f6⟩ := s1.ownL m (getL_some q2)
  rw [e2] at f2; cases f2
  rw [getL_some q2] at f1; cases f1
  refine ⟨l, vs', v, rfl, rfl, f3, by rw [f4.length]; exact hz.2, ?_⟩
  have hb : β ≠ some l := fun z => f5 (p.bo l z)
  exact k σ _ (s1.mut m e2 f3 (f4.snoc (a.rp.flat (hz.1 rfl)))) (a.box.upd hb) ((Stp.after p a.kp a.box).trans (Stp.mut m e2 f3))
end
end MD
end

section
set_option Elab.async false
set_option linter.all false
set_option maxRecDepth 100000
namespace MD
open PySem PySem.Spec PyProof.Rows L2

theorem bnd_opt {α γ : Type} {o : Option α} {k : α → M γ} {bx : Bx} {r : γ × Bx} (h : bnd (opt o) k bx = some r) : ∃ a, o = some a ∧ k a bx = some r := by
  obtain ⟨a, bx1, h1, h2⟩ := bnd_some h
  obtain ⟨h3, h4⟩ := opt_some h1
  have h4 : bx1 = bx := h4
  subst h4
  exact ⟨a, h3, h2⟩

/-! ### for -/
def forL (set : D → Ev → Option Ev) (body : Sf) : List D → Ev → M Fl
  | [], env => ret (.nx env)
  | d :: ds, env => bnd (opt (set d env)) fun env1 => bnd (body env1) fun fl => match fl with
    | .nx e => forL set body ds e
    | .ct e => forL set body ds e
    | .bk e => ret (.nx e)
    | .rt v => ret (.rt v)
def sFor (msk : List Nat) (set : D → Ev → Option Ev) (it : Lf) (body : Sf) : Sf := fun env => bnd (it (maskE msk env)) fun ds => forL set body ds env
section
variable {X : Cx} {own lo : List Nat}
/-- what a loop's reading asks; O the lists that its walk must not meet -/
theorem for_sem {pr : Bool} {is : List Nat} {set : D → Ev → Option Ev} {body : Sf} {tb : TS} {w : TI} {ds : List D} {β Ob} {H0 H : Hp} {σ : L2.St} {env : Ev} {bx1 bx' : Bx} {fl : Fl} {O : Addr → Prop}
    (rb : ∀ β Ob H0 H σ env bx fl bx', PreS β Ob H0 → StR X.K β Ob own H0 H env σ → BoxOk β H bx → body env bx = some (fl, bx') → ∀ E : Ends, EndOk X.K β Ob own σ H own own H0 fl bx' E → tb E σ H)
    (hm : ∀ i ∈ is, i ∉ own) (p : PreS β Ob H0) (s : StR X.K β Ob own H0 H env σ)
    (hO : pr = true ∨ O = Ow Ob own σ)
    (hw : ∀ R : It → Hp → Prop, (∀ J H1 Y, Kp (bO β) H H1 → BoxOk β H1 bx1 → Walk J ds.length (fun Hn => pr = true ∨ Kp O H1 Hn) Y →
        (∀ i Hn x H', i < ds.length → (pr = true ∨ Kp O H1 Hn) → Y i Hn x H' → Same Hn H' ∧ ∃ d, ds[i]? = some d ∧ ∀ O' : Addr → Prop, (pr = true ∨ ∀ q o, H1 q = some o → ¬ O q → ¬ O' q) → Rp X.K β O' H' x d) → R J H1) → w σ H R)
    (q : forL set body ds env bx1 = some (fl, bx')) (E : Ends) (k : EndOk X.K β Ob own σ H own lo H0 fl bx' E) : tFor w (gO is set X.K) tb E σ H := by
  refine hw _ fun J H1 Y k1 b1 W hy => ?_
  have st1 := Stp.after (own := own) (σ := σ) p k1 b1
  refine for_it W (fun i σn Hn => ∃ envn bxn, StR X.K β Ob own H0 Hn envn σn ∧ BoxOk β Hn bxn ∧ Stp Ob own σ H1 own σn Hn ∧ forL set body (ds.drop i) envn bxn = some (fl, bx'))
    ⟨env, bx1, s.after p k1, b1, .refl, by simpa using q⟩ ?_ ?_ ?_
  · rintro i σn Hn hi ⟨envn, bxn, h1, h2, h3, h4⟩
    rcases hO with h | h
    · exact .inl h
    · exact .inr (by rw [h]; exact h3.kp)
  · rintro i x σn Hn H' hi ⟨envn, bxn, h1, h2, h3, h4⟩ y
    have hG : pr = true ∨ Kp O H1 Hn := hO.elim .inl fun h => .inr (by rw [h]; exact h3.kp)
    obtain ⟨sm, dx, g1, g2⟩ := hy i Hn x H' hi hG y
    have g2 : Rp X.K β (Ow Ob own σn) H' x dx := g2 _ (hO.elim .inl fun h => .inr fun q o e n z => by
      rw [h] at n
      rcases h3.ow q z with z | z
      · exact n z
      · rw [e] at z; cases z)
    have hdrop : ds.drop i = dx :: ds.drop (i + 1) := by
      obtain ⟨e1, e2⟩ := List.getElem?_eq_some_iff.mp g1
      rw [List.drop_eq_getElem_cons e1, e2]
    rw [hdrop] at h4
    obtain ⟨env1, bxa, s1, h4a⟩ := bnd_some h4
    obtain ⟨s3, s4⟩ := opt_some s1
    have s3 : set dx envn = some env1 := s3
    have s4 : bxa = bxn := s4
    subst s4
    obtain ⟨fl1, bxb, t1, h4b⟩ := bnd_some h4a
    have kS : Kp (bO β) Hn H' := Kp.same sm
    have b2 := h2.same sm
    have sN := h1.after p kS
    refine ⟨β, Ow Ob own σn, dx, envn, env1, g2, s3, sN.len, fun σ2 st => ?_⟩
    obtain ⟨sA, sB⟩ := StR.sets st (fun q z => z) hm sN
    have toH' : Stp Ob own σ H1 own σ2 H' := (h3.trans (Stp.after p kS b2)).trans sB
    refine rb β Ob H0 H' σ2 env1 bxa fl1 bxb p sA b2 t1 _ ?_
    cases fl1 with
    | nx e => exact fun σ3 H3 s3 b3 z => ⟨e, bxb, s3, b3, toH'.trans z, h4b⟩
    | ct e => exact fun σ3 H3 s3 b3 z => ⟨e, bxb, s3, b3, toH'.trans z, h4b⟩
    | bk e =>
      have h4b : some (Fl.nx e, bxb) = some (fl, bx') := h4b
      cases h4b
      exact fun σ3 H3 s3 b3 z => k σ3 H3 s3 b3 ((st1.trans toH').trans z)
    | rt d =>
      have h4b : some (Fl.rt d, bxb) = some (fl, bx') := h4b
      cases h4b
      exact k
  · rintro σn Hn ⟨envn, bxn, h1, h2, h3, h4⟩
    rw [List.drop_length] at h4
    have h4 : some (Fl.nx envn, bxn) = some (fl, bx') := h4
    cases h4
    exact k σn Hn h1 h2 (st1.trans h3)
theorem ss_for {tg iter : Expr} {body : List Stmt} {pos : Pos} {pr : Bool} {is : List Nat} {set : D → Ev → Option Ev} {it : Lf} {f : Sf} (hp : PassesOwn (model X.prog X.w) X.A X.env X.xe) (hc : X.calm = true) (I : SI X tg iter pr it) (G : SG X tg is set) (B : SSs X own own own body f)
    (hm : ∀ i ∈ is, i ∉ own := by decide) (hs : ∀ x, foldedSetIterable iter X.env x = pure x := by intro _; rfl) : SS X own own lo (.For tg iter body [] pos) (sFor own set it f) := by
  obtain ⟨w, pi, hw⟩ := I.run
  obtain ⟨tb, pb, rb⟩ := B.run
  refine ⟨_, ps_for hp hc pi G.run pb hs, fun β Ob H0 H σ env bx fl bx' p s b q E k => ?_⟩
  obtain ⟨ds, bx1, q1, q⟩ := bnd_some q
  exact for_sem rb hm p s (.inr rfl) (hw β (Ow Ob own σ) H σ (maskE own env) bx ds bx1 s.envM (s.preM p b) q1) q E k
theorem ss_forV {tg iter : Expr} {body : List Stmt} {pos : Pos} {is : List Nat} {set : D → Ev → Option Ev} {it : Lf} {f : Sf} (hp : PassesOwn (model X.prog X.w) X.A X.env X.xe) (hc : X.calm = true) (I : SI X tg iter true it) (G : SG X tg is set) (B : SSs X own own own body f)
    (hm : ∀ i ∈ is, i ∉ own := by decide) (hs : ∀ x, foldedSetIterable iter X.env x = pure x := by intro _; rfl) : SS X own own lo (.For tg iter body [] pos) (sFor [] set it f) := by
  obtain ⟨w, pi, hw⟩ := I.run
  obtain ⟨tb, pb, rb⟩ := B.run
  refine ⟨_, ps_for hp hc pi G.run pb hs, fun β Ob H0 H σ env bx fl bx' p s b q E k => ?_⟩
  obtain ⟨ds, bx1, q1, q⟩ := bnd_some q
  exact for_sem (O := Ob) rb hm p s (.inl rfl) (hw β Ob H σ env bx ds bx1 s.envV (s.preV p b) q1) q E k

/-! ### while -/
def whileF (c : Tf) (body : Sf) : Nat → Ev → M Fl
  | 0, _ => fail
  | n + 1, env => bnd (c env) fun k => if k = true then bnd (body env) fun fl => match fl with
    | .nx e => whileF c body n e
    | .ct e => whileF c body n e
    | .bk e => ret (.nx e)
    | .rt v => ret (.rt v)
    else ret (.nx env)
theorem ss_while {c : Expr} {body : List Stmt} {pos : Pos} {fc : Tf} {f : Sf} (n : Nat) (hp : PassesOwn (model X.prog X.w) X.A X.env X.xe) (C : ST X c fc) (B : SSs X own own own body f) : SS X own own lo (.While c body [] pos) (whileF fc f n) := by
  obtain ⟨tb, pb, rb⟩ := B.run
  obtain ⟨tc, pc, rc⟩ := C.run
  refine ⟨_, ps_while hp pc pb, fun β Ob H0 H σ env bx fl bx' p s b q E k => ?_⟩
  refine ⟨fun m σn Hn => ∃ envn bxn, StR X.K β Ob own H0 Hn envn σn ∧ BoxOk β Hn bxn ∧ Stp Ob own σ H own σn Hn ∧ whileF fc f m envn bxn = some (fl, bx'), ⟨n, env, bx, s, b, .refl, q⟩, ?_⟩
  rintro m σn Hn ⟨envn, bxn, h1, h2, h3, h4⟩
  cases m with
  | zero => cases h4
  | succ m =>
    obtain ⟨cv, bx1, q1, q2⟩ := bnd_some h4
    refine rc β Ob Hn σn envn bxn cv bx1 h1.envV (h1.preV p h2) q1 _ fun H1 k1 b1 => ?_
    have s1 := h1.after p k1
    have st1 := h3.trans (Stp.after (own := own) (σ := σn) p k1 b1)
    cases cv with
    | false =>
      have q2 : some (Fl.nx envn, bx1) = some (fl, bx') := q2
      cases q2
      exact iteF (k σn H1 s1 b1 st1)
    | true =>
      have q2 : bnd (f envn) _ bx1 = some (fl, bx') := q2
      obtain ⟨fl1, bx2, q3, q4⟩ := bnd_some q2
      refine iteT ⟨fun σ' H' => ∃ envn bxn, StR X.K β Ob own H0 H' envn σ' ∧ BoxOk β H' bxn ∧ Stp Ob own σ H own σ' H' ∧ whileF fc f m envn bxn = some (fl, bx'), fun σ' H' h => ⟨m, Nat.lt_succ_self m, h⟩, ?_⟩
      refine rb β Ob H0 H1 σn envn bx1 fl1 bx2 p s1 b1 q3 _ ?_
      cases fl1 with
      | nx e => exact fun σ3 H3 s3 b3 z => ⟨e, bx2, s3, b3, st1.trans z, q4⟩
      | ct e => exact fun σ3 H3 s3 b3 z => ⟨e, bx2, s3, b3, st1.trans z, q4⟩
      | bk e =>
        have q4 : some (Fl.nx e, bx2) = some (fl, bx') := q4
        cases q4
        exact fun σ3 H3 s3 b3 z => k σ3 H3 s3 b3 (st1.trans z)
      | rt d =>
        have q4 : some (Fl.rt d, bx2) = some (fl, bx') := q4
        cases q4
        exact k

/-! ### several names at once; a name raised -/
def sPar (own : List Nat) (is : List Nat) (as : Ev → M (List D)) : Sf := fun env => bnd (as (maskE own env)) fun ds => bnd (opt (setL is ds env)) fun e => ret (.nx e)
theorem ss_par2 {i j : Nat} {a b : Expr} {as : Ev → M (List D)} {st : Stmt} (A : SA X [a, b] as) (mk : ∀ ta, PA X [a, b] ta → PS X st (tPar i j ta)) (mi : i ∉ own := by decide) (mj : j ∉ own := by decide) : SS X own own lo st (sPar own [i, j] as) := by
  obtain ⟨t, pa, r⟩ := A.run
  refine ⟨_, mk _ pa, fun β Ob H0 H σ env bx fl bx' p s b q E k => ?_⟩
  obtain ⟨ds, bx1, q1, q⟩ := bnd_some q
  obtain ⟨e1, bx2, q2, q3⟩ := bnd_some q
  obtain ⟨q4, q5⟩ := opt_some q2
  have q5 : bx2 = bx1 := q5
  subst q5
  have q4 : setL [i, j] ds env = some e1 := q4
  have q3 : some (Fl.nx e1, bx2) = some (fl, bx') := q3
  cases q3
  refine r β (Ow Ob own σ) H σ (maskE own env) bx ds bx' s.envM (s.preM p b) q1 _ fun vs H1 a => ?_
  match ds, q4, a.rp with
  | [d1, d2], q4, rp =>
    obtain ⟨v, w, rfl, h1, h2⟩ := rp.two
    have q4 : some ((env.set i (some d1)).set j (some d2)) = some e1 := q4
    cases q4
    have st := Sets.cons (K := X.K) (β := β) (O := Ow Ob own σ) (H := H1) (i := i) (env := env) (σ := σ) h1 (.cons (i := j) h2 .nil)
    obtain ⟨sA, sB⟩ := StR.sets st (fun q z => z) (by
      intro l hl
      rcases List.mem_cons.mp hl with rfl | hl
      · exact mi
      · have : l = j := by simpa using hl
        rw [this]; exact mj) (s.after p a.kp)
    exact ⟨v, w, rfl, k _ H1 sA a.box ((Stp.after p a.kp a.box).trans sB)⟩
theorem ss_par3 {i j l : Nat} {a b c : Expr} {as : Ev → M (List D)} {st : Stmt} (A : SA X [a, b, c] as) (mk : ∀ ta, PA X [a, b, c] ta → PS X st (tPar3 i j l ta)) (mi : i ∉ own := by decide) (mj : j ∉ own := by decide) (ml : l ∉ own := by decide) : SS X own own lo st (sPar own [i, j, l] as) := by
  obtain ⟨t, pa, r⟩ := A.run
  refine ⟨_, mk _ pa, fun β Ob H0 H σ env bx fl bx' p s b q E k => ?_⟩
  obtain ⟨ds, bx1, q1, q⟩ := bnd_some q
  obtain ⟨e1, bx2, q2, q3⟩ := bnd_some q
  obtain ⟨q4, q5⟩ := opt_some q2
  have q5 : bx2 = bx1 := q5
  subst q5
  have q4 : setL [i, j, l] ds env = some e1 := q4
  have q3 : some (Fl.nx e1, bx2) = some (fl, bx') := q3
  cases q3
  refine r β (Ow Ob own σ) H σ (maskE own env) bx ds bx' s.envM (s.preM p b) q1 _ fun vs H1 a => ?_
  match ds, q4, a.rp with
  | [d1, d2, d3], q4, rp =>
    cases rp with
    | cons h0 rp =>
      obtain ⟨v, w, rfl, h1, h2⟩ := rp.two
      rename_i u _ _
      have q4 : some (((env.set i (some d1)).set j (some d2)).set l (some d3)) = some e1 := q4
      cases q4
      have st := Sets.cons (K := X.K) (β := β) (O := Ow Ob own σ) (H := H1) (i := i) (env := env) (σ := σ) h0 (.cons (i := j) h1 (.cons (i := l) h2 .nil))
      obtain ⟨sA, sB⟩ := StR.sets st (fun q z => z) (by
        intro m hm
        have : m = i ∨ m = j ∨ m = l := by simpa using hm
        rcases this with rfl | rfl | rfl
        · exact mi
        · exact mj
        · exact ml) (s.after p a.kp)
      exact ⟨_, v, w, rfl, k _ H1 sA a.box ((Stp.after p a.kp a.box).trans sB)⟩
/-- targets = e -/
def sAsg (own : List Nat) (set : D → Ev → Option Ev) (a : Ef) : Sf := fun env => bnd (a (maskE own env)) fun d => bnd (opt (set d env)) fun e => ret (.nx e)
theorem ss_asg {tg e : Expr} {pos : Pos} {is : List Nat} {set : D → Ev → Option Ev} {fr : Bool} {f : Ef} (A : SE X fr e f) (G : SG X tg is set) (hm : ∀ i ∈ is, i ∉ own := by decide) (hs : swapsWithSole [tg] e pos.line X.env = pure false := by rfl) (hw : swappedStores [tg] e X.env = pure none := by rfl)
    (h1 : (assignEach [tg] X.env).map (·.2) = [assign tg X.env] := by rfl) : SS X own own lo (.Assign [tg] e pos) (sAsg own set f) := by
  obtain ⟨t, pe, r⟩ := A.run
  refine ⟨_, ps_asg pe G.run hs hw h1, fun β Ob H0 H σ env bx fl bx' p s b q E k => ?_⟩
  obtain ⟨d, bx1, q1, q⟩ := bnd_some q
  obtain ⟨e1, bx2, q2, q3⟩ := bnd_some q
  obtain ⟨q4, q5⟩ := opt_some q2
  have q5 : bx2 = bx1 := q5
  subst q5
  have q4 : set d env = some e1 := q4
  have q3 : some (Fl.nx e1, bx2) = some (fl, bx') := q3
  cases q3
  refine r β (Ow Ob own σ) H σ (maskE own env) bx d bx' s.envM (s.preM p b) q1 _ fun v H1 a => ?_
  refine ⟨β, Ow Ob own σ, d, env, e1, a.rp, q4, s.len, fun σ' st => ?_⟩
  obtain ⟨sA, sB⟩ := StR.sets st (fun q z => z) hm (s.after p a.kp)
  exact k _ H1 sA a.box ((Stp.after p a.kp a.box).trans sB)
def getI (env : Ev) (i : Nat) : Option Int := match env[i]? with
  | some (some (.int a)) => some a
  | _ => none
theorem getI_some {env : Ev} {i : Nat} {a : Int} (h : getI env i = some a) : env[i]? = some (some (.int a)) := by
  unfold getI at h
  split at h
  · cases h; assumption
  · cases h
def intD1 : D → Option Int
  | .int i => some i
  | _ => none
theorem intD1_some {d : D} {i : Int} (h : intD1 d = some i) : d = .int i := by
  unfold intD1 at h
  split at h
  · cases h; rfl
  · cases h
def sAug (g : Int → Int → Int) (i : Nat) (a : Ef) : Sf := fun env => bnd (opt (getI env i)) fun x => bnd (a env) fun d => bnd (opt (intD1 d)) fun y => ret (.nx (env.set i (some (.int (g x y)))))
theorem ss_aug {g : Int → Int → Int} {i : Nat} {x : Str} {e : Expr} {op : Operator} {px pos : Pos} {fr : Bool} {f : Ef} (ho : PIp X op (ipI g)) (hN : X.N.Nodup) (A : SE X fr e f) (m : i ∉ own := by decide) (hi : X.N[i]? = some x := by rfl) (hx : Loc X.env.scope x := by first | exact Or.inl rfl | exact Or.inr rfl)
    (hf : X.fn x = true ∨ X.env.scope.names.lookup x = some .local := by first | exact .inl rfl | exact .inr rfl) : SS X own own lo (.AugAssign (.Name x px) op e pos) (sAug g i f) := by
  obtain ⟨t, pe, r⟩ := A.run
  refine ⟨_, ps_aug hN hi hx pe ho hf, fun β Ob H0 H σ env bx fl bx' p s b q E k => ?_⟩
  obtain ⟨x0, q6, r1⟩ := bnd_opt q
  obtain ⟨d, bx1, q1, r2⟩ := bnd_some r1
  obtain ⟨y, q4, r3⟩ := bnd_opt r2
  have q4 := intD1_some q4
  subst q4
  have q3 : some (Fl.nx (env.set i (some (.int (g x0 y)))), bx1) = some (fl, bx') := r3
  cases q3
  obtain ⟨v, e1, e2⟩ := s.imm i _ m (getI_some q6)
  cases e2
  refine ⟨_, e1, r β Ob H σ env bx _ bx' s.envV (s.preV p b) q1 _ fun v H1 a => ?_⟩
  cases a.rp
  exact ⟨x0, y, rfl, rfl, k _ H1 ((s.after p a.kp).set m (.int _)) a.box ((Stp.after p a.kp a.box).trans (Stp.set m))⟩

/-! ### an own list's item stored, an own list popped; the box -/
def sPut (i : Nat) (ix a : Ef) : Sf := fun env => bnd (a env) fun d => bnd (ix env) fun k => bnd (opt (intD1 k)) fun z => bnd (opt (getL env i)) fun ds => bnd (opt (ixN ds.length z)) fun j => if flat d = true then ret (.nx (env.set i (some (.list (ds.set j d))))) else fail
theorem ss_put {i : Nat} {e ix : Expr} {st : Stmt} {fa fb : Bool} {f g : Ef} (A : SE X fa e f) (B : SE X fb ix g) (m : i ∈ own) (mk : ∀ ta ti, PE X e ta → PE X ix ti → PS X st (tAsg ta (gSub (tVar i) ti rSetL))) : SS X own own lo st (sPut i g f) := by
  obtain ⟨ta, pa, ra⟩ := A.run
  obtain ⟨ti, pi, ri⟩ := B.run
  refine ⟨_, mk _ _ pa pi, fun β Ob H0 H σ env bx fl bx' p s b q E k => ?_⟩
  obtain ⟨d, bx1, q1, r1⟩ := bnd_some q
  obtain ⟨kd, bx5, q2, r2⟩ := bnd_some r1
  obtain ⟨z, q3, r3⟩ := bnd_opt r2
  obtain ⟨ds, q4, r4⟩ := bnd_opt r3
  obtain ⟨j, q5, r5⟩ := bnd_opt r4
  clear q r1 r2 r3 r4
  have q := r5
  have q3 := intD1_some q3
  subst q3
  by_cases hf : flat d = true
  case neg => rw [if_neg hf] at q; cases q
  rw [if_pos hf] at q
  have q : some (Fl.nx (env.set i (some (.list (ds.set j d)))), bx5) = some (fl, bx') := q
  cases q
  refine ra β Ob H σ env bx d bx1 s.envV (s.preV p b) q1 _ fun v H1 a => ?_
  have s1 := s.after p a.kp
  obtain ⟨l, vs, ds', e1, e2, e3, e4, e5, e6⟩ := s1.ownL m (getL_some q4)
  rw [getL_some q4] at e1; cases e1
  refine ⟨_, e2, ri β Ob H1 σ env bx1 _ bx' s1.envV (s1.preV p a.box) q2 _ fun w H2 a2 => ?_⟩
  have s2 := s1.after p a2.kp
  obtain ⟨l', vs', ds', f1, f2, f3, f4, f5, f6⟩ := s2.ownL m (getL_some q4)
  rw [e2] at f2; cases f2
  rw [getL_some q4] at f1; cases f1
  cases a2.rp
  have hb : β ≠ some l := fun z => f5 (p.bo l z)
  refine ⟨l, vs', z, j, rfl, rfl, f3, by rw [f4.length]; exact q5, ?_⟩
  have rv : Rp X.K β (Ow Ob own σ) H2 v d := (a.rp.kp ((s1.preV p a.box).kO a2.kp)).flat hf
  exact k σ _ (s2.mut m e2 f3 (f4.set j rv)) (a2.box.upd hb) (((Stp.after p a.kp a.box).trans (Stp.after p a2.kp a2.box)).trans (Stp.mut m e2 f3))
def putB : Bx → Nat → Int → Option Bx
  | some (_, y, z), 0, n => some (some (n, y, z))
  | some (x, _, z), 1, n => some (some (x, n, z))
  | some (x, y, _), 2, n => some (some (x, y, n))
  | _, _, _ => none
def isBox (env : Ev) (i : Nat) : Bool := match env[i]? with
  | some (some (.dict [])) => true
  | _ => false
def sPutB (i : Nat) (ix a : Ef) : Sf := fun env => bnd (a env) fun d => bnd (ix env) fun k => bnd (opt (intD1 k)) fun z => bnd (opt (intD1 d)) fun n => bnd (opt (ixN 3 z)) fun j => fun bx => if isBox env i = true then (match putB bx j n with
  | none => none
  | some bx' => some (.nx env, bx')) else none
theorem ss_putB {i : Nat} {e ix : Expr} {st : Stmt} {fa fb : Bool} {f g : Ef} (A : SE X fa e f) (B : SE X fb ix g) (m : i ∉ own) (mk : ∀ ta ti, PE X e ta → PE X ix ti → PS X st (tAsg ta (gSub (tVar i) ti rSetL))) : SS X own own lo st (sPutB i g f) := by
  obtain ⟨ta, pa, ra⟩ := A.run
  obtain ⟨ti, pi, ri⟩ := B.run
  refine ⟨_, mk _ _ pa pi, fun β Ob H0 H σ env bx fl bx' p s b q E k => ?_⟩
  obtain ⟨d, bx1, q1, r1⟩ := bnd_some q
  obtain ⟨kd, bx5, q2, r2⟩ := bnd_some r1
  obtain ⟨z, q3, r3⟩ := bnd_opt r2
  obtain ⟨n, q4, r4⟩ := bnd_opt r3
  obtain ⟨j, q5, r5⟩ := bnd_opt r4
  clear q r1 r2 r3 r4
  have q := r5
  have q3 := intD1_some q3
  have q4 := intD1_some q4
  subst q3 q4
  by_cases hb : isBox env i = true
  case neg => rw [if_neg hb] at q; cases q
  rw [if_pos hb] at q
  have hi : env[i]? = some (some (.dict [])) := by
    unfold isBox at hb
    split at hb
    · assumption
    · cases hb
  cases hp : putB bx5 j n with
  | none => rw [hp] at q; cases q
  | some bx6 =>
    rw [hp] at q
    have q : some (Fl.nx env, bx6) = some (fl, bx') := q
    cases q
    refine ra β Ob H σ env bx _ bx1 s.envV (s.preV p b) q1 _ fun v H1 a => ?_
    have s1 := s.after p a.kp
    obtain ⟨w0, e1, e2⟩ := s1.imm i _ m hi
    cases e2 with
    | @box bb e =>
    refine ⟨_, e1, ri β Ob H1 σ env bx1 _ bx5 s1.envV (s1.preV p a.box) q2 _ fun w H2 a2 => ?_⟩
    have s2 := s1.after p a2.kp
    cases a.rp
    cases a2.rp
    have bo := a2.box
    have fin : ∀ xs, H2 bb = some (.lst xs) → BoxOk β (upd H2 bb (.lst (xs.set j (.int n)))) bx' → EndOk X.K β Ob own σ H own lo H0 (.nx env) bx' E → E.nx σ (upd H2 bb (.lst (xs.set j (.int n)))) := fun xs hx hbx k => by
      have kk : Kp (bO β) H2 (upd H2 bb (.lst (xs.set j (.int n)))) := Kp.updO hx e
      exact k σ _ (s2.after p kk) hbx (((Stp.after p a.kp a.box).trans (Stp.after p a2.kp a2.box)).trans (Stp.after p kk hbx))
    subst e
    match bx5, bo, hp with
    | some (x0, y0, z0), bo, hp =>
      have bo : H2 bb = some (.lst [.int x0, .int y0, .int z0]) := bo
      refine ⟨bb, _, z, j, rfl, rfl, bo, q5, fin _ bo ?_ k⟩
      match j, hp with
      | 0, hp => cases hp; exact upd_same
      | 1, hp => cases hp; exact upd_same
      | 2, hp => cases hp; exact upd_same
/-- xs.pop() -/
def sPop (i : Nat) : Sf := fun env => bnd (opt (getL env i)) fun ds => if ds = [] then fail else ret (.nx (env.set i (some (.list ds.dropLast))))
theorem RpA.dropLast {K β O H} {vs : List V} {ds : List D} (h : RpA K β O H vs ds) : RpA K β O H vs.dropLast ds.dropLast := by
  rw [List.dropLast_eq_take, List.dropLast_eq_take, h.length]
  exact h.take _
theorem ss_pop {i : Nat} {st : Stmt} (m : i ∈ own) (mk : PS X st (tDrop (tBM0 X.K "list" rPop (tVar i)))) : SS X own own lo st (sPop i) := by
  refine ⟨_, mk, fun β Ob H0 H σ env bx fl bx' p s b q E k => ?_⟩
  obtain ⟨ds, q4, r1⟩ := bnd_opt q
  clear q
  have q := r1
  by_cases hd : ds = []
  · rw [if_pos hd] at q; cases q
  rw [if_neg hd] at q
  have q : some (Fl.nx (env.set i (some (.list ds.dropLast))), bx) = some (fl, bx') := q
  cases q
  obtain ⟨l, vs, ds', e1, e2, e3, e4, e5, e6⟩ := s.ownL m (getL_some q4)
  rw [getL_some q4] at e1; cases e1
  have hl : 0 < ds.length := List.length_pos_iff.mpr hd
  have hlv := e4.length
  have hlt : vs.length - 1 < vs.length := by omega
  refine ⟨_, e2, .inl ⟨rfl, vs, SqL.of e3⟩, l, vs, vs[vs.length - 1], rfl, rfl, e3, by simp [hlt], ?_⟩
  have hb : β ≠ some l := fun z => e5 (p.bo l z)
  exact k σ _ (s.mut m e2 e3 e4.dropLast) (b.upd hb) (Stp.mut m e2 e3)
/-- targets = xs.pop() -/
def sPopT (i : Nat) (set : D → Ev → Option Ev) : Sf := fun env => bnd (opt (getL env i)) fun ds => bnd (opt ds.getLast?) fun d => bnd (opt (set d (env.set i (some (.list ds.dropLast))))) fun e => ret (.nx e)
theorem ss_popT {i : Nat} {st : Stmt} {is : List Nat} {set : D → Ev → Option Ev} (m : i ∈ own) (mk : PS X st (tAsg (tBM0 X.K "list" rPop (tVar i)) (gO is set X.K))) (hm : ∀ j ∈ is, j ∉ own := by decide) : SS X own own lo st (sPopT i set) := by
  refine ⟨_, mk, fun β Ob H0 H σ env bx fl bx' p s b q E k => ?_⟩
  obtain ⟨ds, q4, r1⟩ := bnd_opt q
  obtain ⟨d, q6, r2⟩ := bnd_opt r1
  obtain ⟨e1', q8, r3⟩ := bnd_opt r2
  have q : some (Fl.nx e1', bx) = some (fl, bx') := r3
  cases q
  obtain ⟨l, vs, ds', e1, e2, e3, e4, e5, e6⟩ := s.ownL m (getL_some q4)
  rw [getL_some q4] at e1; cases e1
  rw [List.getLast?_eq_getElem?] at q6
  obtain ⟨v, g1, g2⟩ := e4.get q6
  have hb : β ≠ some l := fun z => e5 (p.bo l z)
  rw [← e4.length] at g1
  refine ⟨_, e2, .inl ⟨rfl, vs, SqL.of e3⟩, l, vs, v, rfl, rfl, e3, g1, ?_⟩
  have s2 := s.mut m e2 e3 e4.dropLast
  have rv : Rp X.K β (Ow Ob own σ) (upd H l (.lst vs.dropLast)) v d := g2.kp (Kp.updO e3 (.inr ⟨i, m, e2⟩))
  refine ⟨β, Ow Ob own σ, d, _, e1', rv, q8, s2.len, fun σ' st => ?_⟩
  obtain ⟨sA, sB⟩ := StR.sets st (fun q z => z) hm s2
  exact k _ _ sA (b.upd hb) ((Stp.mut m e2 e3).trans sB)
end
end MD
end

section
set_option Elab.async false
set_option linter.all false
set_option maxRecDepth 100000
namespace MD
open PySem PySem.Spec PyProof.Rows L2

/-! ### what a def promises: its plain function -/
abbrev Ff := List D → M D
def spOf (K : PySem.W.Frag) (fr : Bool) (F : Ff) : Sp := fun vs H Q _ => ∃ β O bx ds d bx', RpA K β O H vs ds ∧ Pre β O H bx ∧ F ds bx = some (d, bx') ∧ ∀ v H', Aft K β O H bx' d fr v H' → Q v H'
def endF (m : M Fl) : M D := bnd m fun fl => match fl with
  | .rt d => ret d
  | .nx _ => ret .none
  | _ => fail
def mkF (n N : Nat) (body : Sf) : Ff := fun ds => if ds.length = n then endF (body (ds.map some ++ List.replicate (N - n) none)) else fail
theorem mkF_len {n N : Nat} {body : Sf} {ds : List D} {bx : Bx} {r : D × Bx} (h : mkF n N body ds bx = some r) : ds.length = n := by
  unfold mkF at h
  by_cases c : ds.length = n
  · exact c
  · rw [if_neg c] at h; cases h
theorem start_env {K β O H} {vs : List V} {ds : List D} (r : RpA K β O H vs ds) (m : Nat) : ∀ (i : Nat) (d : D), (ds.map some ++ List.replicate m none)[i]? = some (some d) → ∃ v, (vs.map some ++ List.replicate m none)[i]? = some (some v) ∧ Rp K β O H v d := by
  intro i d h
  have hl := r.length
  by_cases c : i < ds.length
  · rw [List.getElem?_append_left (by simpa using c), List.getElem?_map] at h
    cases e : ds[i]? with
    | none => rw [e] at h; cases h
    | some d' =>
      rw [e] at h; cases h
      obtain ⟨v, a, b⟩ := r.get e
      exact ⟨v, by rw [List.getElem?_append_left (by simpa [hl] using c), List.getElem?_map, a]; rfl, b⟩
  · rw [List.getElem?_append_right (by simpa using c)] at h
    rw [List.getElem?_replicate] at h
    split at h <;> cases h
theorem Ow.nil {Ob : Addr → Prop} {σ : L2.St} {q : Addr} : Ow Ob [] σ q ↔ Ob q := ⟨fun h => h.elim id fun ⟨i, a, _⟩ => (List.not_mem_nil a).elim, .inl⟩
theorem StR.start {K β O H bx} {vs : List V} {ds : List D} (p : Pre β O H bx) (r : RpA K β O H vs ds) (m : Nat) : PreS β O H ∧ StR K β O [] H H (ds.map some ++ List.replicate m none) (vs.map some ++ List.replicate m none) :=
  ⟨⟨p.bo, p.occ⟩, by simp [r.length], fun i d _ h => by
    obtain ⟨v, a, b⟩ := start_env r m i d h
    exact ⟨v, a, b.less fun q z => Ow.nil.mp z⟩, fun i a => (List.not_mem_nil a).elim, fun i j p a => (List.not_mem_nil a).elim, .refl⟩
section
variable {P : Program} {w : World} {K : PySem.W.Frag} {mg : Str → Option Value} {base : Heap}
theorem def_ok {x qual : Str} {st : Stmt} {f : Addr} {fd : FuncData} {N ps : List Str} {k n m : Nat} {own' : List Nat} {body : Sf} (hn : ps.length = n) (hm : N.length = m) (F : Fun K x qual st f fd) (S : FnScope N ps (defScope st))
    (B : ∀ (cdv : Value) (A : Around) (outer : List Env) (s : Shared) (H : Hp) (E : XK), Room k (A.deeper (envOfC qual (defScope st) s.heap.objs.size f cdv)) →
      SSs (cxOf CX0 P w K mg base N qual (defScope st) f cdv A outer s H E).nox [] own' [] (defBody st) body) : FnOk P w K mg base CX0 (k + 1) f fd ps (spOf K false (mkF n m body)) := by
  subst hn hm
  refine F.ok S (fun vs H Q E h => ?_) (fun cdv A outer s H vs Q E hr h => ?_)
  · obtain ⟨β, O, bx, ds, d, bx', r, p, q, _⟩ := h
    rw [r.length]
    exact mkF_len q
  · obtain ⟨β, O, bx, ds, d, bx', r, p, q, k⟩ := h
    obtain ⟨t, pt, rd⟩ := (B cdv A outer s H E hr).run
    refine ⟨t, pt, ?_⟩
    have hl := mkF_len q
    unfold mkF at q
    rw [if_pos hl] at q
    obtain ⟨fl, bx1, q1, q2⟩ := bnd_some q
    obtain ⟨pS, sS⟩ := StR.start p r (N.length - ps.length)
    have es : L2.start N vs = vs.map some ++ List.replicate (N.length - ps.length) none := by
      unfold L2.start
      rw [r.length, hl]
    rw [es]
    refine rd β O H H _ _ bx fl bx1 pS sS p.box q1 _ ?_
    cases fl with
    | nx e =>
      have q2 : some (PyData.none, bx1) = some (d, bx') := q2
      cases q2
      exact fun σ' H' s' b' z => k .non H' ⟨s'.frame, b', .non, fun z => nomatch z⟩
    | rt e =>
      have q2 : some (e, bx1) = some (d, bx') := q2
      cases q2
      exact fun v H' a b c => k v H' ⟨a, b, c, fun z => nomatch z⟩
    | bk e => cases q2
    | ct e => cases q2
/-- one that hands back a new list: one statement, then the return -/
theorem nort_setM {own i a} : ∀ env bx d bx', sSetM own i a env bx ≠ some (.rt d, bx') := fun env bx d bx' h => by
  obtain ⟨d1, bx1, q1, q2⟩ := bnd_some h
  cases q2
theorem nort_setV {i a} : ∀ env bx d bx', sSetV i a env bx ≠ some (.rt d, bx') := fun env bx d bx' h => by
  obtain ⟨d1, bx1, q1, q2⟩ := bnd_some h
  by_cases c : flat d1 = true
  · rw [if_pos c] at q2; cases q2
  · rw [if_neg c] at q2; cases q2
theorem def_okF {x qual : Str} {st st1 : Stmt} {e : Expr} {pos : Pos} {f : Addr} {fd : FuncData} {N ps : List Str} {k n m : Nat} {body : Sf} {g : Ef} (hn : ps.length = n) (hm : N.length = m) (F : Fun K x qual st f fd) (S : FnScope N ps (defScope st)) (hb : defBody st = [st1, .Return (some e) pos]) (hno : ∀ env bx d bx', body env bx ≠ some (.rt d, bx'))
    (B : ∀ (cdv : Value) (A : Around) (outer : List Env) (s : Shared) (H : Hp) (E : XK), Room k (A.deeper (envOfC qual (defScope st) s.heap.objs.size f cdv)) →
      SS (cxOf CX0 P w K mg base N qual (defScope st) f cdv A outer s H E).nox [] [] [] st1 body ∧ SE (cxOf CX0 P w K mg base N qual (defScope st) f cdv A outer s H E).nox true e g) :
    FnOk P w K mg base CX0 (k + 1) f fd ps (spOf K true (mkF n m (sSeq body (sRet g)))) := by
  subst hn hm
  refine F.ok S (fun vs H Q E h => ?_) (fun cdv A outer s H vs Q E hr h => ?_)
  · obtain ⟨β, O, bx, ds, d, bx', r, p, q, _⟩ := h
    rw [r.length]
    exact mkF_len q
  · obtain ⟨β, O, bx, ds, d, bx', r, p, q, k⟩ := h
    obtain ⟨B1, B2⟩ := B cdv A outer s H E hr
    obtain ⟨t, pt, rd⟩ := B1.run
    obtain ⟨te, pe, re⟩ := B2.run
    rw [hb]
    refine ⟨_, pss_cons pt (pss_one (ps_ret pe)), ?_⟩
    have hl := mkF_len q
    unfold mkF at q
    rw [if_pos hl] at q
    obtain ⟨fl, bx1, q1, q2⟩ := bnd_some q
    obtain ⟨fl0, bx0, q3, q4⟩ := bnd_some q1
    obtain ⟨pS, sS⟩ := StR.start p r (N.length - ps.length)
    have es : L2.start N vs = vs.map some ++ List.replicate (N.length - ps.length) none := by
      unfold L2.start
      rw [r.length, hl]
    rw [es]
    refine rd β O H H _ _ bx fl0 bx0 pS sS p.box q3 _ ?_
    cases fl0 with
    | nx e1 =>
      intro σ1 H1 s1 b1 z
      obtain ⟨d1, bx2, q5, q6⟩ := bnd_some (show bnd (g e1) (fun d => ret (.rt d)) bx0 = some (fl, bx1) from q4)
      have q6 : some (Fl.rt d1, bx2) = some (fl, bx1) := q6
      cases q6
      have q2 : some (d1, bx1) = some (d, bx') := q2
      cases q2
      refine re β O H1 σ1 e1 bx0 _ _ s1.envV (s1.preV pS b1) q5 _ fun v H2 a => ?_
      exact k v H2 ⟨s1.frame.trans a.kp, a.box, a.rp, fun w => by
        obtain ⟨l, ds, e1, e2, e3, e4⟩ := a.fr w
        exact ⟨l, ds, e1, e2, p.none s1.frame b1 e3, e4⟩⟩
    | rt e1 =>
      exact (hno _ _ _ _ q3).elim
    | bk e1 =>
      have q4 : some (Fl.bk e1, bx0) = some (fl, bx1) := q4
      cases q4
      cases q2
    | ct e1 =>
      have q4 : some (Fl.ct e1, bx0) = some (fl, bx1) := q4
      cases q4
      cases q2
end

/-! ### calls -/
def eCall (F : Ff) (as : Ev → M (List D)) : Ef := fun env => bnd (as env) F
def pick {α : Type} (is : List Nat) (l : List α) : List α := is.filterMap (l[·]?)
def eCallK (is : List Nat) (F : Ff) (as : Ev → M (List D)) : Ef := fun env => bnd (as env) fun ds => F (pick is ds)
theorem pick_rp {K β O H} {vs : List V} {ds : List D} (r : RpA K β O H vs ds) : ∀ is : List Nat, RpA K β O H (pick is vs) (pick is ds)
  | [] => .nil
  | i :: is => by
    have ih := pick_rp r is
    unfold pick at *
    rw [List.filterMap_cons, List.filterMap_cons]
    cases e : ds[i]? with
    | none =>
      have : vs[i]? = none := by
        rw [List.getElem?_eq_none_iff] at e ⊢
        rw [r.length]; exact e
      rw [this]
      exact ih
    | some d =>
      obtain ⟨v, a, b⟩ := r.get e
      rw [a]
      exact .cons b ih
theorem pick_vals {vs : List V} {us : List Value} (r : Vals vs us) : ∀ is : List Nat, Vals (pick is vs) (pick is us)
  | [] => .nil
  | i :: is => by
    have ih := pick_vals r is
    unfold pick at *
    rw [List.filterMap_cons, List.filterMap_cons]
    cases e : vs[i]? with
    | none =>
      rw [r.none_of e]
      exact ih
    | some d =>
      obtain ⟨v, a, b⟩ := r.get e
      rw [a]
      exact .cons b ih
section
variable {X : Cx} {k : Nat} {f : Addr} {fd : FuncData} {ps : List Str} {F : Ff} {fr : Bool} {x : Str} {p pos : Pos}
theorem se_call {e : Expr} {es : List Expr} {as : Ev → M (List D)} (G : FnOk X.prog X.w X.K X.mg X.base CX0 k f fd ps (spOf X.K fr F)) (hr : Room k X.A) (hm : X.mg x = some (.ref f)) (hk : PySem.W.keepIn X.K (.ref f) = true) (hb : Binds X.K fd ps []) (A : SA X (e :: es) as)
    (hg : Gl X x := by rfl) (hdb : (x == ("__debug__" : Str)) = false := by decide) (he : starEach (e :: es) X.env = (false, eval e X.env) :: starEach es X.env := by rfl) (hpl : (backTo pos (starEach es X.env)).any (·.1) = false := by rfl) : SE X fr (.Call (.Name x p) (e :: es) [] pos) (eCall F as) := by
  obtain ⟨t, pa, r⟩ := A.run
  refine ⟨_, pe_call G hr hg hm hk hb .nil pass0 pa hdb he hpl, fun β O H σ env bx d bx' E p q Q k => ?_⟩
  obtain ⟨ds, bx1, q1, q⟩ := bnd_some q
  refine r β O H σ env bx ds bx1 E p q1 _ fun vs H1 a => ?_
  exact ⟨β, O, bx1, ds, d, bx', by rw [List.append_nil]; exact a.rp, p.step a.kp a.box, q, fun v H2 b => k v H2 (AftA.pre p a b)⟩
theorem se_call0 (G : FnOk X.prog X.w X.K X.mg X.base CX0 k f fd ps (spOf X.K fr F)) (hr : Room k X.A) (hm : X.mg x = some (.ref f)) (hk : PySem.W.keepIn X.K (.ref f) = true) (hb : Binds X.K fd ps [])
    (hg : Gl X x := by rfl) (hdb : (x == ("__debug__" : Str)) = false := by decide) : SE X fr (.Call (.Name x p) [] [] pos) (eCall F aNil) := by
  refine ⟨_, pe_call0 G hr hg hm hk hb .nil pass0 hdb, fun β O H σ env bx d bx' E p q Q k => ?_⟩
  obtain ⟨ds, bx1, q1, q⟩ := bnd_some q
  obtain ⟨e1, e2⟩ := aNil_some q1
  subst e1 e2
  exact ⟨β, O, bx1, [], d, bx', .nil, p, q, k⟩
/-- by names alone -/
theorem pe_callK0 {ks : List Str} {sp : Sp} {CX : CXT} {E : XK} {kws : List Keyword} {tk : TA} {g : List Value → List Value → List Value} {gV : List V → List V → List V} (F : FnOk X.prog X.w X.K X.mg X.base CX k f fd ps sp) (hr : Room k X.A) (hg : Gl X x) (hm : X.mg x = some (.ref f)) (hk : PySem.W.keepIn X.K (.ref f) = true) (hb : KBinds X.K fd ps ks g gV) (hx : Passes CX X E)
    (hkw : PK X kws tk) (hall : (backToKw pos (keywordEach kws X.env)).all (·.1.isSome) = true := by rfl) (hks : (backToKw pos (keywordEach kws X.env)).filterMap (·.1) = ks := by rfl)
    (hdb : (x == ("__debug__" : Str)) = false := by decide) (hpl : ((backTo pos (starEach [] X.env)).any (·.1) || (backToKw pos (keywordEach kws X.env)).any (·.1.isNone)) = false := by rfl) :
    PE X (.Call (.Name x p) [] kws pos) (tCallK sp gV E tNil tk) := by
  refine ⟨fun pins s σ H Q I h => ?_⟩
  refine wpAny_Call_Name_kw (ld_glob I hg hm ?_ hdb)
  refine PySem.W.callWith_KW0 (h₀ := X.base) I.ok.mod.kin hk hall ?_ hpl
  refine thn (hkw.run pos pins s σ H _ I h) fun ws s2 ⟨zs, H2, I2, rz, q2⟩ => ⟨I2.kIn, ?_⟩
  rw [hks]
  exact run_fnk (us := []) (vs := []) F hr hb hx I2 .nil rz q2
structure SK (X : Cx) (kws : List Keyword) (f : Ev → M (List D)) : Prop where
  run : ∃ t, PK X kws t ∧ ∀ β O H σ env bx ds bx', EnvR X.K β O H env σ → Pre β O H bx → f env bx = some (ds, bx') → ∀ Q : List V → Hp → Prop, (∀ vs H', AftA X.K β O H bx' ds vs H' → Q vs H') → t σ H Q
theorem sk_nil : SK X [] aNil := ⟨_, pk_nil, fun β O H σ env bx d bx' E p q Q k => by
  have q : some ([], bx) = some (d, bx') := q
  cases q
  exact k [] H ⟨.refl, p.box, .nil⟩⟩
theorem sk_cons {fa : Bool} {e : Expr} {nm : Option Str} {kpos : Pos} {kws : List Keyword} {a : Ef} {as : Ev → M (List D)} (A : SE X fa e a) (R : SK X kws as) : SK X (⟨nm, e, kpos⟩ :: kws) (aCons a as) := by
  obtain ⟨ta, pa, ra⟩ := A.run
  obtain ⟨tb, pb, rb⟩ := R.run
  refine ⟨_, pk_cons pa pb, fun β O H σ env bx d bx' E p q Q k => ?_⟩
  obtain ⟨x, bx1, y, q1, q2, rfl⟩ := aCons_some q
  refine ra β O H σ env bx x bx1 E p q1 _ fun v H1 a1 => ?_
  have p1 := p.step a1.kp a1.box
  refine rb β O H1 σ env bx1 y bx' (E.step (p.kO a1.kp)) p1 q2 _ fun u H2 a2 => ?_
  exact k _ H2 ⟨a1.kp.trans a2.kp, a2.box, .cons (a1.rp.kp (p1.kO a2.kp)) a2.rp⟩
/-- how names bind -/
structure KB (K : PySem.W.Frag) (fd : FuncData) (ps ks : List Str) (is : List Nat) : Prop where
  to : ∀ ws : List Value, ws.length = ks.length → bindArgs fd ⟨[], ks.zip ws⟩ = pure (ps.zip (pick is ws))
def gK {α : Type} (n : Nat) (is : List Nat) (us ws : List α) : List α := if us.isEmpty ∧ ws.length = n then pick is ws else []
theorem KB.binds {K fd ps ks is} (h : KB K fd ps ks is) (hp : ps ≠ []) : KBinds K fd ps ks (gK ks.length is) (gK ks.length is) := by
  refine ⟨fun s us ws _ hl => ?_, fun {vs us zs ws} r1 r2 => ?_⟩
  · unfold gK at hl ⊢
    by_cases c : us.isEmpty = true ∧ ws.length = ks.length
    · rw [if_pos c]
      have : us = [] := List.isEmpty_iff.mp c.1
      subst this
      exact .of_eq (h.to ws c.2)
    · rw [if_neg c] at hl
      exact (hp (List.eq_nil_of_length_eq_zero hl.symm)).elim
  · unfold gK
    have e1 : (vs.isEmpty = true ∧ zs.length = ks.length) ↔ (us.isEmpty = true ∧ ws.length = ks.length) := by
      rw [r2.length]
      have : vs.isEmpty = us.isEmpty := by cases r1 <;> rfl
      rw [this]
    by_cases c : us.isEmpty = true ∧ ws.length = ks.length
    · rw [if_pos c, if_pos (e1.mpr c)]
      exact pick_vals r2 is
    · rw [if_neg c, if_neg fun z => c (e1.mp z)]
      exact .nil
theorem se_callK {kws : List Keyword} {as : Ev → M (List D)} {ks : List Str} {is : List Nat} (G : FnOk X.prog X.w X.K X.mg X.base CX0 k f fd ps (spOf X.K fr F)) (hr : Room k X.A) (hm : X.mg x = some (.ref f)) (hk : PySem.W.keepIn X.K (.ref f) = true) (hb : KB X.K fd ps ks is) (A : SK X kws as)
    (hlen : ∀ env bx ds bx', as env bx = some (ds, bx') → ds.length = ks.length) (hp : ps ≠ [] := by decide) (hg : Gl X x := by rfl)
    (hall : (backToKw pos (keywordEach kws X.env)).all (·.1.isSome) = true := by rfl) (hks : (backToKw pos (keywordEach kws X.env)).filterMap (·.1) = ks := by rfl)
    (hdb : (x == ("__debug__" : Str)) = false := by decide) (hpl : ((backTo pos (starEach [] X.env)).any (·.1) || (backToKw pos (keywordEach kws X.env)).any (·.1.isNone)) = false := by rfl) : SE X fr (.Call (.Name x p) [] kws pos) (eCallK is F as) := by
  obtain ⟨t, pa, r⟩ := A.run
  refine ⟨_, pe_callK0 G hr hg hm hk (hb.binds hp) pass0 pa hall hks hdb hpl, fun β O H σ env bx d bx' E p q Q k => ?_⟩
  obtain ⟨ds, bx1, q1, q⟩ := bnd_some q
  refine r β O H σ env bx ds bx1 E p q1 _ fun vs H1 a => ?_
  have e1 : gK ks.length is [] vs = pick is vs := by
    unfold gK
    rw [if_pos ⟨rfl, by rw [a.rp.length]; exact hlen _ _ _ _ q1⟩]
  show spOf X.K fr F (gK ks.length is [] vs) H1 Q E0
  rw [e1]
  exact ⟨β, O, bx1, _, d, bx', pick_rp a.rp is, p.step a.kp a.box, q, fun v H2 b => k v H2 (AftA.pre p a b)⟩
/-- f(g(..)), g hands back a new list of three ints: it is the box of f -/
def boxOf : D → Option Bx
  | .list [.int x, .int y, .int z] => some (some (x, y, z))
  | _ => none
def eBox (F : Ff) (a : Ef) : Ef := fun env => bnd (a env) fun d => fun bx => match boxOf d, bx with
  | some b, none => match F [boxD] b with
    | some (r, _) => if noDict r = true then some (r, none) else none
    | none => none
  | _, _ => none
theorem boxOf_inv {d : D} {b : Bx} (h : boxOf d = some b) : ∃ x y z, d = .list [.int x, .int y, .int z] ∧ b = some (x, y, z) := by
  unfold boxOf at h
  split at h
  · cases h; exact ⟨_, _, _, rfl, rfl⟩
  · cases h
mutual
theorem Rp.noBox {K β β' H} {O O' : Addr → Prop} (ho : ∀ q, O' q → O q) : ∀ (d : D) (v : V), Rp K β O H v d → noDict d = true → Rp K β' O' H v d
  | .none, _, h, _ => by cases h; exact .non
  | .bool _, _, h, _ => by cases h; exact .bl _
  | .int _, _, h, _ => by cases h; exact .int _
  | .str _, _, h, _ => by cases h; exact .str _
  | .tuple ds, _, h, f => by
    cases h with
    | tup a c => exact .tup a (RpA.noBox ho _ _ c (by simpa [noDict] using f))
  | .list ds, _, h, f => by
    cases h with
    | lst a b c => exact .lst a (fun z => b (ho _ z)) (RpA.noBox ho _ _ c (by simpa [noDict] using f))
  | .dict ds, _, h, f => by simp [noDict] at f
theorem RpA.noBox {K β β' H} {O O' : Addr → Prop} (ho : ∀ q, O' q → O q) : ∀ (ds : List D) (vs : List V), RpA K β O H vs ds → noDictA ds = true → RpA K β' O' H vs ds
  | [], _, h, _ => by cases h; exact .nil
  | d :: ds, _, h, f => by
    cases h with
    | cons a b =>
      have f' : noDict d = true ∧ noDictA ds = true := by simpa [noDictA] using f
      exact .cons (Rp.noBox ho _ _ a f'.1) (RpA.noBox ho _ _ b f'.2)
end
theorem se_box {e : Expr} {a : Ef} (G : FnOk X.prog X.w X.K X.mg X.base CX0 k f fd ps (spOf X.K false F)) (hr : Room k X.A) (hm : X.mg x = some (.ref f)) (hk : PySem.W.keepIn X.K (.ref f) = true) (hb : Binds X.K fd ps []) (A : SE X true e a)
    (hg : Gl X x := by rfl) (hdb : (x == ("__debug__" : Str)) = false := by decide) (he : starEach [e] X.env = (false, eval e X.env) :: starEach [] X.env := by rfl) (hpl : (backTo pos (starEach [] X.env)).any (·.1) = false := by rfl) : SE X false (.Call (.Name x p) [e] [] pos) (eBox F a) := by
  obtain ⟨t, pa, r⟩ := A.run
  refine ⟨_, pe_call G hr hg hm hk hb .nil pass0 (pa_cons pa pa_nil he) hdb he hpl, fun β O H σ env bx d bx' E p q Q k => ?_⟩
  obtain ⟨d0, bx1, q1, q2⟩ := bnd_some q
  cases hb0 : boxOf d0 with
  | none => rw [hb0] at q2; cases q2
  | some b0 =>
    cases bx1 with
    | some bb => rw [hb0] at q2; cases q2
    | none =>
      rw [hb0] at q2
      have q2 : (match F [boxD] b0 with | some (r, _) => if noDict r = true then some (r, (none : Bx)) else none | none => none) = some (d, bx') := q2
      cases hF : F [boxD] b0 with
      | none => rw [hF] at q2; cases q2
      | some rr =>
        obtain ⟨r0, bx2⟩ := rr
        rw [hF] at q2
        have q2 : (if noDict r0 = true then some (r0, (none : Bx)) else none) = some (d, bx') := q2
        by_cases hn : noDict r0 = true
        case neg => rw [if_neg hn] at q2; cases q2
        rw [if_pos hn] at q2
        cases q2
        refine r β O H σ env bx d0 none E p q1 _ fun v H1 a => ?_
        have hβ : β = none := by
          have b := a.box
          unfold BoxOk at b
          cases β with
          | none => rfl
          | some b' => exact b.elim
        subst hβ
        obtain ⟨x0, y0, z0, rfl, rfl⟩ := boxOf_inv hb0
        obtain ⟨l, ds, rfl, e2, hl, vs, hl1, hvs⟩ := a.fr rfl
        cases e2
        have ev : vs = [.int x0, .int y0, .int z0] := by
          cases hvs with
          | cons h1 h => cases h with
            | cons h2 h => cases h with
              | cons h3 h => cases h1; cases h2; cases h3; cases h; rfl
        subst ev
        have p1 := p.step a.kp a.box
        refine ⟨some l, fun q => O q ∨ q = l, some (x0, y0, z0), [boxD], d, bx2, .cons (.box rfl) .nil, ⟨fun q hq => hq.elim (p1.occ q) fun z => ⟨.lst [.int x0, .int y0, .int z0], by rw [z]; exact hl1⟩, fun b e => by cases e; exact .inr rfl, hl1⟩, hF, fun v H2 b => ?_⟩
        refine k v H2 ⟨fun q o e _ => ?_, trivial, Rp.noBox (fun q z => .inl z) _ _ b.rp hn, fun z => nomatch z⟩
        have hne : q ≠ l := ne_of_none e hl
        exact b.kp q o (a.kp q o e fun z => nomatch z) fun z => (hne (Option.some.inj z).symm).elim
end
end MD
end

section
set_option Elab.async false
set_option linter.all false
set_option maxRecDepth 100000
namespace MD
open PySem PySem.Spec PyProof.Rows L2

section
variable {prog : Program} {w : World} {A : Around} {E : Value → Shared → Prop} {s : Shared}
theorem sliceApplied_rev {sl : Addr} {n : Nat} {u : Tok} {Q : Int × Int × Nat → Shared → Prop} (hs : s.heap.IsSliceOf sl .none .none (.int (-1) u)) (h : Q ((n : Int) - 1, -1, n) s) :
    wpAny (model prog w) A (Builtin.Slice.sliceApplied (.ref sl) (pure (n : Int))) Q E s := by
  obtain ⟨os, hos, hcs, hds⟩ := id hs
  unfold Builtin.Slice.sliceApplied Builtin.Slice.sliceFields
  refine wpAny_bind (wpAny_bind (wpAny_field hos hds (x := .none) rfl (wpAny_bind (wpAny_field hos hds (x := .none) rfl (wpAny_bind (wpAny_field hos hds (x := .int (-1) u) rfl (wpAny_pure ?_)))))))
  refine wpAny_bind (slicePart_int ?_)
  show wpAny _ _ (if ((-1 : Int) == 0) = true then _ else _) _ _ s
  rw [if_neg (by decide)]
  refine wpAny_bind (slicePart_none (wpAny_bind (slicePart_none (wpAny_bind (wpAny_pure ?_)))))
  show wpAny _ _ (pure ((n : Int) - 1, (-1 : Int), Builtin.Slice.slicePlaces ((n : Int) - 1) (-1) (-1))) _ _ s
  have e : Builtin.Slice.slicePlaces ((n : Int) - 1) (-1) (-1) = n := by
    unfold Builtin.Slice.slicePlaces
    rw [if_neg (by decide)]
    by_cases c : n = 0
    · subst c
      decide
    · rw [if_pos (by omega)]
      have e2 : ((n : Int) - 1 - -1 - 1) / (- -1) + 1 = n := by
        have : (- (-1 : Int)) = 1 := by decide
        rw [this, Int.ediv_one]
        omega
      rw [e2]
      exact Int.toNat_natCast n
  rw [e]
  exact wpAny_pure h
theorem pick_rev (xs : Array Value) : ((List.range xs.size).filterMap fun (k : Nat) => xs[(((xs.size : Int) - 1) + (k : Int) * (-1)).toNat]?).toArray = xs.toList.reverse.toArray := by
  congr 1
  apply List.ext_getElem?
  intro i
  have e1 : (List.range xs.size).filterMap (fun (k : Nat) => xs[(((xs.size : Int) - 1) + (k : Int) * (-1)).toNat]?) = (List.range xs.size).map fun k => xs.toList.reverse.getD k .none := by
    have key : ∀ l : List Nat, (∀ k ∈ l, k < xs.size) → l.filterMap (fun (k : Nat) => xs[(((xs.size : Int) - 1) + (k : Int) * (-1)).toNat]?) = l.map fun k => xs.toList.reverse.getD k .none := by
      intro l hl
      induction l with
      | nil => rfl
      | cons k l ih =>
        have hk := hl k List.mem_cons_self
        have e2 : ((xs.size : Int) - 1 + (k : Int) * (-1)).toNat = xs.size - 1 - k := by omega
        have h3 : xs.size - 1 - k < xs.size := by omega
        rw [List.filterMap_cons, e2, List.map_cons, ← ih fun j hj => hl j (List.mem_cons_of_mem _ hj)]
        simp [List.getD, hk, h3]
    exact key _ fun k hk => List.mem_range.mp hk
  rw [e1]
  by_cases h : i < xs.size
  · simp [h, List.getD]
  · rw [List.getElem?_eq_none (by simpa using h), List.getElem?_eq_none (by simpa using h)]
theorem getItem_tuple_rev {t sl : Addr} {items : Array Value} {u : Tok} {Q : Value → Shared → Prop} (ht : IsTup s.heap t items) (hs : s.heap.IsSliceOf sl .none .none (.int (-1) u))
    (h : Q (.ref s.heap.objs.size) { s with heap := s.heap.push { cls := .type "tuple", data := .seq items.toList.reverse.toArray } })
    (hsz : items.size ≤ sizeLine) : wpAny (model prog w) A (getItem (.ref t) (.ref sl)) Q E s := by
  have hdrop : sizeOk (.seq items.toList.reverse.toArray) := by
    show items.toList.reverse.toArray.size ≤ sizeLine
    rw [List.size_toArray, List.length_reverse, Array.length_toList]
    exact hsz
  obtain ⟨os, hos, hcs, hds⟩ := id hs
  have hTs : s.TypeIs (.ref sl) "slice" := ⟨os, hos, hcs⟩
  unfold getItem
  try with_reducible refine wpAny_holding ?_
  first | refine wpAny_bind (wpAny_pure ?_) | skip
  refine wpAny_bind (wpAny_sequenceKey ht.typeIs (by decide) ?_)
  refine wpAny_bind (wpAny_callSpecial?_slot (name := Str.ofString "__getitem__") ht.typeIs slot_tuple_getitem
    (wpAny_call_entry slot_tuple_getitem ht.typeIs entry_tuple_getitem ?_ (args_tuple_getitem _ _)))
  show wpAny _ _ (Builtin.Tuple.tupleItemsOf (.ref t) >>= _) _ _ s
  refine wpAny_bind (tupleItemsOf_ ht ?_)
  refine wpAny_bind (wpAny_typeOf hTs ?_)
  rw [if_pos (by decide)]
  refine wpAny_bind (sliceApplied_rev hs ?_)
  have hno : ¬ (((items.size : Int) - 1 == 0 && (-1 : Int) == 1 && items.size == items.size) = true) := by
    simp
  show wpAny _ _ (if ((items.size : Int) - 1 == 0 && (-1 : Int) == 1 && items.size == items.size) = true then _ else _) _ _ s
  rw [if_neg hno, pick_rev items]
  first
    | exact wpAny_bind (m := Builtin.Tuple.tupleExact _) (wpAny_newObj_type (wpAny_pure ⟨_, rfl, wpAny_pure h⟩) hdrop)
    | exact wpAny_bind (m := Builtin.Tuple.tupleExact _) (wpAny_newObj_type (wpAny_bind (wpAny_pure (wpAny_pure ⟨_, rfl, wpAny_pure h⟩))) hdrop)
    | exact wpAny_bind (wpAny_bind (m := Builtin.Tuple.tupleExact _) (wpAny_newObj_type (wpAny_pure (wpAny_pure ⟨_, rfl, wpAny_pure h⟩)) hdrop))
    | exact wpAny_bind (wpAny_bind (m := Builtin.Tuple.tupleExact _) (wpAny_newObj_type (wpAny_pure ⟨_, rfl, wpAny_pure h⟩) hdrop))
end
section
variable {X : Cx}
def tRevT (K : PySem.W.Frag) (te : TE) : TE := fun σ H Q => te σ H fun x H1 => ∃ a xs, x = .ref a ∧ SqT K H1 a xs ∧ ∀ p, H1 p = none → Q (.ref p) (upd H1 p (.tup xs.reverse))
theorem pe_revT {e : Expr} {te : TE} {k : Nat} {p1 p2 p3 pos : Pos} (he : PE X e te) : PE X (.Subscript e (.Slice none none (some (.UnaryOp .USub (.Constant (.int 1) k p1) p2)) p3) pos) (tRevT X.K te) := by
  refine ⟨fun pins s σ H Q I h => ?_⟩
  refine Subscript_ (thn (he.run pins s σ H _ I h) fun v s1 ⟨x, H1, I1, r1, q1⟩ => ?_)
  obtain ⟨a, xs, ex, hx, q⟩ := q1
  subst ex
  cases r1
  have hst : PO X (some (.UnaryOp .USub (.Constant (.int 1) k p1) p2)) (tPart (tUn (rU fun i => .int (-i)) (tC (.int 1)))) := po_some (pe_un un_neg pe_int)
  refine wpAny_Slice (thn (po_none.run pins s1 σ H1 (fun o H2 => o = none ∧ H2 = H1) I1 ⟨rfl, rfl⟩) fun vl s2 ⟨l, H2, I2, pl, el, e2⟩ => ?_)
  subst el e2
  refine thn (po_none.run pins s2 σ H2 (fun o H3 => o = none ∧ H3 = H2) I2 ⟨rfl, rfl⟩) fun vu s3 ⟨u, H3, I3, pu, eu, e3⟩ => ?_
  subst eu e3
  refine thn (hst.run pins s3 σ H3 (fun o H4 => o = some (-1) ∧ H4 = H3) I3 ⟨1, rfl, -1, rfl, rfl, rfl⟩) fun vs s4 ⟨o, H4, I4, ps, eo, e4⟩ => ?_
  subst eo e4
  have I5 : Inv X pins σ H4 { s4 with heap := s4.heap.push { cls := .type "slice", data := .fields #[vl, vu, vs] } } := I4.kept (t' := s4.toks) fun b ob q => Heap.get?_push_of_some _ q
  obtain ⟨its, r, ht, hz⟩ := I5.tuple hx
  have hlen := r.length
  obtain ⟨tk, evs⟩ : ∃ t, vs = .int (-1) t := by
    cases ps
    exact ⟨_, rfl⟩
  subst evs
  cases pl
  cases pu
  show wpAny (model X.prog X.w) X.A (subscriptTail e (.Slice none none (some (.UnaryOp .USub (.Constant (.int 1) k p1) p2)) p3) (.ref a) (.ref s4.heap.objs.size)) (EP X pins σ Q) X.xe { s4 with heap := s4.heap.push { cls := .type "slice", data := .fields #[.none, .none, .int (-1) tk] } }
  refine tail_any (ops := [.ref a, .ref s4.heap.objs.size]) ht.typeIs (slot_tuple_getitem.lookup) ?_ (by with_unfolding_all rfl)
  refine getItem_tuple_rev ht (Heap.IsSliceOf.new _ .none .none (.int (-1) tk)) ?_ (by rw [List.size_toArray]; omega)
  refine ⟨.ref _, _, I5.laid (t' := s4.toks) (o := .tup xs.reverse) (fun b ob q => Heap.get?_push_of_some _ q) (Nat.le_refl _) ?_, rfl, q _ (I5.hok.fresh (Nat.le_refl _))⟩
  exact ⟨by rw [List.length_reverse]; exact hz, _, r.reverse, _, Heap.get?_push_size _ rfl, rfl, 0, rfl⟩
end

theorem call_list_text {X : Cx} (hc : X.calm = true) : CallR X (.type "list") (fun xs H Q => ∃ x : Str, xs = [.str x] ∧ x.length ≤ sizeLine ∧ ∀ l, H l = none → Q (.ref l) (upd H l (.lst (x.cps.toList.map fun c => V.str ⟨#[c]⟩)))) := by
  intro pins s σ H xs us Q I r h
  obtain ⟨x, rfl, hx, q⟩ := h
  obtain ⟨u, rfl, t, rfl⟩ := vals1 r
  refine call_list_str (I.ok.hd hc) x t (fun h' tk acc' c' kp e ha => ?_) hx
  obtain ⟨hs, hv⟩ := ha
  have hvals : Vals (x.cps.toList.map fun c => V.str ⟨#[c]⟩) acc'.toList := by
    have h1 := vals_of_get acc'.toList (fun j => V.str ⟨#[x.cps.getD j 0]⟩) (fun j u e => by
      obtain ⟨c, t, h2, rfl⟩ := hv j u (by simpa using e)
      refine ⟨t, ?_⟩
      congr 3
      simp [Array.getD, h2]
      have h3 := h2
      rw [Array.getElem?_eq_some_iff] at h3
      obtain ⟨h4, h5⟩ := h3
      simp [h4, h5])
    have e2 : (List.range acc'.toList.length).map (fun j => V.str ⟨#[x.cps.getD j 0]⟩) = x.cps.toList.map fun c => V.str ⟨#[c]⟩ := by
      apply List.ext_getElem?
      intro i
      by_cases hi : i < x.cps.size
      · simp [hi, hs, Array.getD]
      · rw [List.getElem?_eq_none (by simpa [hs] using hi), List.getElem?_eq_none (by simpa using hi)]
    rw [e2] at h1
    exact h1
  have hz : (x.cps.toList.map fun c => V.str ⟨#[c]⟩).length ≤ sizeLine := by rw [List.length_map]; exact hx
  exact ⟨.ref s.heap.objs.size, _, I.laid (t' := tk) kp (Nat.le_refl _) (show ObjOk X.prog X.w _ h' _ (.lst (x.cps.toList.map fun c => V.str ⟨#[c]⟩)) from ⟨hz, acc'.toList, c', hvals, by simpa using e⟩), rfl, q _ (I.hok.fresh (Nat.le_refl _))⟩
def mulAD : D → D → Option D
  | .tuple a, .int k => if a ≠ [] ∧ 2 ≤ k ∧ k ≤ 1000 ∧ a.length ≤ 1000 then some (.tuple (List.replicate k.toNat a).flatten) else none
  | .list a, b => mulLD (.list a) b
  | a, b => mulD a b
def revD : D → Option D
  | .str z => if z.length ≤ sizeLine then some (.str (revS z)) else none
  | .list ds => some (.list ds.reverse)
  | .tuple ds => some (.tuple ds.reverse)
  | _ => none
theorem hgEq : ∀ x y d, eqD x y = some d → ∃ c, d = .bool c := gB (f := eqB) (n := id) fun _ _ => rfl
theorem hgNe : ∀ x y d, neD x y = some d → ∃ c, d = .bool c := gB (f := eqB) (n := not) fun _ _ => rfl
theorem hgIn : ∀ x y d, inD x y = some d → ∃ c, d = .bool c := gB (f := inB) (n := id) fun _ _ => rfl
theorem hgNin : ∀ x y d, ninD x y = some d → ∃ c, d = .bool c := gB (f := inB) (n := not) fun _ _ => rfl
theorem hgIs : ∀ x y d, isND x y = some d → ∃ c, d = .bool c := gB (f := isNB) (n := id) fun _ _ => rfl
theorem hgNis : ∀ x y d, notND x y = some d → ∃ c, d = .bool c := gB (f := isNB) (n := not) fun _ _ => rfl
theorem hgLt : ∀ x y d, ltD x y = some d → ∃ c, d = .bool c := gI (f := fun a b => decide (a < b)) fun _ _ => rfl
theorem hgLe : ∀ x y d, leD x y = some d → ∃ c, d = .bool c := gI (f := fun a b => decide (a ≤ b)) fun _ _ => rfl
theorem hgGt : ∀ x y d, gtD x y = some d → ∃ c, d = .bool c := gI (f := fun a b => decide (b < a)) fun _ _ => rfl
theorem hgGe : ∀ x y d, geD x y = some d → ∃ c, d = .bool c := gI (f := fun a b => decide (b ≤ a)) fun _ _ => rfl
section
variable {X : Cx} {own own' own2 lo : List Nat}
theorem op_mulAD : OpR X (binaryOp .Mult) (fun x y H Q => (rMulAll x y H Q ∨ rRep x y H Q) ∨ rRepT X.K x y H Q) := (op_mulAll.or op_rep).or op_repT
theorem mulAD_sem : R2S X.K (fun x y H Q => (rMulAll x y H Q ∨ rRep x y H Q) ∨ rRepT X.K x y H Q) false mulAD := by
  intro β O H bx x y dx dy d p rx ry e Q k
  have other : ∀ a, dx = a → (∀ l, a ≠ .list l) → (∀ l, a ≠ .tuple l) → mulD a dy = some d → (rMulAll x y H Q ∨ rRep x y H Q) ∨ rRepT X.K x y H Q := fun a ha _ _ e => .inl (.inl (by
    subst ha
    exact mulD_sem (X := X) β O H bx x y _ dy d p rx ry e Q k))
  cases dx with
  | list a =>
    cases dy with
    | int i => exact .inl (.inr (mulLD_sem (X := X) β O H bx x y _ _ d p rx ry e Q fun v H' z => k v H' ⟨z.kp, z.box, z.rp, fun w => nomatch w⟩))
    | _ => cases e
  | tuple a =>
    cases dy with
    | int i =>
      have e : (if a ≠ [] ∧ 2 ≤ i ∧ i ≤ 1000 ∧ a.length ≤ 1000 then some (PyData.tuple (List.replicate i.toNat a).flatten) else none) = some d := e
      by_cases c : a ≠ [] ∧ 2 ≤ i ∧ i ≤ 1000 ∧ a.length ≤ 1000
      · rw [if_pos c] at e
        cases e
        cases rx with
        | @tup q xs _ h1 h2 =>
          cases ry
          have hl := h2.length
          refine .inr ⟨q, i, xs, rfl, rfl, SqT.of h1, ?_, c.2.1, c.2.2.1, by rw [hl]; exact c.2.2.2, fun p' hp => ?_⟩
          · intro z
            subst z
            cases h2
            exact c.1 rfl
          · have z := aft_new_tup (K := X.K) p (h2.flat i.toNat) hp
            exact k _ _ ⟨z.kp, z.box, z.rp, fun w => nomatch w⟩
      · rw [if_neg c] at e; cases e
    | _ => cases e
  | int a => exact other _ rfl (fun _ z => nomatch z) (fun _ z => nomatch z) e
  | str a => exact other _ rfl (fun _ z => nomatch z) (fun _ z => nomatch z) e
  | none => exact other _ rfl (fun _ z => nomatch z) (fun _ z => nomatch z) e
  | bool a => exact other _ rfl (fun _ z => nomatch z) (fun _ z => nomatch z) e
  | dict a => exact other _ rfl (fun _ z => nomatch z) (fun _ z => nomatch z) e
def listAD : List D → Option D
  | [.str z] => if z.length ≤ sizeLine then some (.list (signs z)) else none
  | l => listFD l
theorem call_listAll : CallR X (.type "list") (fun xs H Q => (∃ p ys, xs = [.ref p] ∧ (SqL X.K H p ys ∨ SqT X.K H p ys) ∧ ∀ l, H l = none → Q (.ref l) (upd H l (.lst ys))) ∨ (X.calm = true ∧ ∃ x : Str, xs = [.str x] ∧ x.length ≤ sizeLine ∧ ∀ l, H l = none → Q (.ref l) (upd H l (.lst (x.cps.toList.map fun c => V.str ⟨#[c]⟩))))) := by
  intro pins s σ H xs us Q I r h
  rcases h with h | ⟨hc, h⟩
  · exact call_list_of pins s σ H xs us Q I r h
  · exact call_list_text hc pins s σ H xs us Q I r h
theorem listAD_sem (hc : X.calm = true) : RAS X.K (fun xs H Q => (∃ p ys, xs = [.ref p] ∧ (SqL X.K H p ys ∨ SqT X.K H p ys) ∧ ∀ l, H l = none → Q (.ref l) (upd H l (.lst ys))) ∨ (X.calm = true ∧ ∃ x : Str, xs = [.str x] ∧ x.length ≤ sizeLine ∧ ∀ l, H l = none → Q (.ref l) (upd H l (.lst (x.cps.toList.map fun c => V.str ⟨#[c]⟩))))) true listAD := by
  intro β O H bx xs ds d p r e Q k
  unfold listAD at e
  split at e
  · rename_i z
    obtain ⟨v, rfl, h⟩ := r.one
    cases h
    by_cases c : z.length ≤ sizeLine
    · rw [if_pos c] at e
      cases e
      refine .inr ⟨hc, z, rfl, c, fun q hq => k _ _ (aft_new_lst p ?_ hq)⟩
      have go : ∀ l : List Nat, RpA X.K β O H (l.map fun c => V.str ⟨#[c]⟩) (l.map fun c => PyData.str ⟨#[c]⟩) := fun l => by
        induction l with
        | nil => exact .nil
        | cons a l ih => exact .cons (.str _) ih
      exact go _
    · rw [if_neg c] at e; cases e
  · exact .inl (listFD_sem (X := X) β O H bx xs _ d p r e Q k)
theorem se_revS {e : Expr} {fr : Bool} {f : Ef} {k : Nat} {p1 p2 p3 pos : Pos} (A : SE X fr e f) : SE X false (.Subscript e (.Slice none none (some (.UnaryOp .USub (.Constant (.int 1) k p1) p2)) p3) pos) (e1 revD f) := by
  obtain ⟨ta, pa, ra⟩ := A.run
  refine ⟨fun σ H Q => tRevS ta σ H Q ∨ tRevL X.K ta σ H Q ∨ tRevT X.K ta σ H Q, ⟨fun pins s σ H Q I h => h.elim (fun h => (pe_revS pa).run pins s σ H Q I h) fun h => h.elim (fun h => (pe_revL pa).run pins s σ H Q I h) (fun h => (pe_revT pa).run pins s σ H Q I h)⟩, fun β O H σ env bx d bx' E p q Q k => ?_⟩
  obtain ⟨x, bx1, q1, q⟩ := bnd_some q
  obtain ⟨q3, q4⟩ := opt_some q
  have q4 : bx' = bx1 := q4
  subst q4
  have q3 : revD x = some d := q3
  cases x with
  | str z =>
    have q3 : (if z.length ≤ sizeLine then some (PyData.str (revS z)) else none) = some d := q3
    by_cases c : z.length ≤ sizeLine
    · rw [if_pos c] at q3; cases q3
      refine .inl (ra β O H σ env bx _ bx' E p q1 _ fun v H1 a => ?_)
      have ev : v = .str z := by cases a.rp; rfl
      subst ev
      exact ⟨z, rfl, c, k _ H1 ⟨a.kp, a.box, .str _, fun z => nomatch z⟩⟩
    · rw [if_neg c] at q3; cases q3
  | list ds =>
    cases q3
    refine .inr (.inl (ra β O H σ env bx _ bx' E p q1 _ fun v H1 a => ?_))
    have p1 := p.step a.kp a.box
    cases a.rp with
    | lst h1 h2 h3 =>
      refine ⟨_, _, rfl, SqL.of h1, fun q hq => ?_⟩
      have z := aft_new_lst (K := X.K) p1 h3.reverse hq
      exact k _ _ ⟨a.kp.trans z.kp, z.box, z.rp, fun w => nomatch w⟩
  | tuple ds =>
    cases q3
    refine .inr (.inr (ra β O H σ env bx _ bx' E p q1 _ fun v H1 a => ?_))
    have p1 := p.step a.kp a.box
    cases a.rp with
    | tup h1 h3 =>
      refine ⟨_, _, rfl, SqT.of h1, fun q hq => ?_⟩
      have z := aft_new_tup (K := X.K) p1 h3.reverse hq
      exact k _ _ ⟨a.kp.trans z.kp, z.box, z.rp, fun w => nomatch w⟩
  | _ => cases q3
/-- fewer own slots behind it -/
theorem SSs.lessR {st : List Stmt} {f : Sf} (A : SSs X own own' lo st f) (h : ∀ i ∈ own2, i ∈ own' := by decide) : SSs X own own2 lo st f := by
  obtain ⟨t, pe, r⟩ := A.run
  refine ⟨t, pe, fun β Ob H0 H σ env bx fl bx' p s b q E k => r β Ob H0 H σ env bx fl bx' p s b q E ?_⟩
  cases fl with
  | nx e => exact fun σ' H' s' b' z => k σ' H' (s'.drop h) b' (z.trans (Stp.drop h))
  | ct e => exact k
  | bk e => exact k
  | rt d => exact k
theorem SS.lessR {st : Stmt} {f : Sf} (A : SS X own own' lo st f) (h : ∀ i ∈ own2, i ∈ own' := by decide) : SS X own own2 lo st f := by
  obtain ⟨t, pe, r⟩ := A.run
  refine ⟨t, pe, fun β Ob H0 H σ env bx fl bx' p s b q E k => r β Ob H0 H σ env bx fl bx' p s b q E ?_⟩
  cases fl with
  | nx e => exact fun σ' H' s' b' z => k σ' H' (s'.drop h) b' (z.trans (Stp.drop h))
  | ct e => exact k
  | bk e => exact k
  | rt d => exact k
end
/-- how many arguments come -/
def Ln (as : Ev → M (List D)) (n : Nat) : Prop := ∀ env bx ds bx', as env bx = some (ds, bx') → ds.length = n
theorem ln_nil : Ln aNil 0 := fun env bx ds bx' h => by rw [(aNil_some h).1]; rfl
theorem ln_cons {a as n} (h : Ln as n) : Ln (aCons a as) (n + 1) := fun env bx ds bx' q => by
  obtain ⟨x, bx1, y, q1, q2, rfl⟩ := aCons_some q
  rw [List.length_cons, h _ _ _ _ q2]
theorem kb_of {K : PySem.W.Frag} {x qual : Str} {st : Stmt} {f : Addr} {fd : FuncData} {ps ks : List Str} {is : List Nat} (F : Fun K x qual st f fd)
    (h : ∀ (kV doc pm : Value) (an : Option Addr) (cdv ct : Value) (ws : List Value), ws.length = ks.length → bindArgs (PySem.W.fnOf x qual (defArgs st) (defBody st) (defScope st) .none kV doc pm an cdv ct) ⟨[], ks.zip ws⟩ = pure (ps.zip (pick is ws))) : KB K fd ps ks is := by
  obtain ⟨oc, od, kV, doc, pm, an, cdv, ct, osl, rfl, lk, hcd⟩ := F.ex
  exact ⟨fun ws hl => h kV doc pm an cdv ct ws hl⟩
theorem ok_fail {P : Program} {w : World} {K : PySem.W.Frag} {mg : Str → Option Value} {base : Heap} {k : Nat} {f : Addr} {fd : FuncData} {ps : List Str} {fr : Bool} : FnOk P w K mg base CX0 k f fd ps (spOf K fr fun _ => fail) := by
  have no : ∀ {vs H Q E}, spOf K fr (fun _ => fail) vs H Q E → False := fun h => by
    obtain ⟨β, O, bx, ds, d, bx', r, p, q, _⟩ := h
    cases q
  exact ⟨fun vs H Q E h => (no h).elim, fun A outer s H args us vs Q E hr he hb hv h => (no h).elim⟩
/-- an own def as others call it -/
structure Cal (P : Program) (w : World) (K : PySem.W.Frag) (mg : Str → Option Value) (base : Heap) (k : Nat) (x : Str) (ps : List Str) (fr : Bool) (F : Ff) (f : Addr) (fd : FuncData) : Prop where
  ok : FnOk P w K mg base CX0 k f fd ps (spOf K fr F)
  mg : mg x = some (.ref f)
  kp : PySem.W.keepIn K (.ref f) = true
  bn : Binds K fd ps []
/-- what the law hands back -/
def isTrueF (o : Option (D × Bx)) : Bool := match o with
  | some (.bool true, _) => true
  | _ => false
def spLaw (K : PySem.W.Frag) : Sp := fun vs H Q _ => ∃ (a : Addr) (ns : List Int), vs = [.ref a] ∧ SqL K H a (ns.map V.int) ∧ ns.length ≤ 63 ∧ (∀ z ∈ ns, Builtin.Int.intBits z ≤ 1048576) ∧ ∀ v H', v = .bl true → Q v H'
theorem rpA_ints {K β O H} : ∀ ns : List Int, RpA K β O H (ns.map V.int) (ns.map PyData.int)
  | [] => .nil
  | n :: ns => .cons (.int n) (rpA_ints ns)
theorem law_ok {P : Program} {w : World} {K : PySem.W.Frag} {mg : Str → Option Value} {base : Heap} {k : Nat} {f : Addr} {fd : FuncData} {ps : List Str} {F : Ff} (G : FnOk P w K mg base CX0 k f fd ps (spOf K false F))
    (h : ∀ ns : List Int, ns.length ≤ 63 → (∀ z ∈ ns, Builtin.Int.intBits z ≤ 1048576) → isTrueF (F [rolD (ns.map .int)] none) = true) : FnOk P w K mg base CX0 k f fd ps (spLaw K) := by
  refine G.imp fun vs H Q E q => ?_
  obtain ⟨a, ns, rfl, hs, hl, hb, k⟩ := q
  have ht := h ns hl hb
  cases e : F [rolD (ns.map .int)] none with
  | none => rw [e] at ht; cases ht
  | some r =>
    obtain ⟨d, bx'⟩ := r
    rw [e] at ht
    have hd : d = .bool true := by
      unfold isTrueF at ht
      split at ht
      · rename_i h'; cases h'; rfl
      · cases ht
    subst hd
    refine ⟨none, fun _ => False, none, [rolD (ns.map .int)], .bool true, bx', .cons ?_ .nil, ⟨fun q z => z.elim, fun b e => (nomatch e), trivial⟩, e, fun v H' a => ?_⟩
    · rcases hs with hs | hs
      · exact .rolT hs (fun z => z) (rpA_ints ns)
      · exact .rolW (fun H => .inr hs) (rpA_ints ns)
    · cases a.rp
      exact k _ H' rfl
end MD
end

section
set_option Elab.async false
set_option linter.all false
set_option maxRecDepth 100000
namespace MD
open PySem PySem.Spec PyProof.Rows L2

section
variable {X : Cx} {own own' own2 lo : List Nat}
theorem put_one {i : Nat} {ti : TE} {fb : Bool} {g : Ef} {v : V} {d : D} (ri : ∀ β O H σ env bx d bx', EnvR X.K β O H env σ → Pre β O H bx → g env bx = some (d, bx') → ∀ Q : VK, (∀ v H', Aft X.K β O H bx' d fb v H' → Q v H') → ti σ H Q) (m : i ∈ own)
    {β Ob H0 H σ env bx bx'} {z : Int} {ds : List D} {j : Nat} (p : PreS β Ob H0) (s : StR X.K β Ob own H0 H env σ) (b : BoxOk β H bx) (q2 : g env bx = some (.int z, bx')) (q4 : getL env i = some ds) (q5 : ixN ds.length z = some j) (hf : flat d = true) (rv : Rp X.K β (Ow Ob own σ) H v d) {Q : L2.St → Hp → Prop}
    (k : ∀ H', StR X.K β Ob own H0 H' (env.set i (some (.list (ds.set j d)))) σ → BoxOk β H' bx' → Stp Ob own σ H own σ H' → Rp X.K β (Ow Ob own σ) H' v d → (∀ w e, Rp X.K β (Ow Ob own σ) H w e → flat e = true → Rp X.K β (Ow Ob own σ) H' w e) → Q σ H') : gSub (tVar i) ti rSetL v σ H Q := by
  obtain ⟨l, vs, ds', e1, e2, e3, e4, e5, e6⟩ := s.ownL m (getL_some q4)
  rw [getL_some q4] at e1; cases e1
  refine ⟨_, e2, ri β Ob H σ env bx _ bx' s.envV (s.preV p b) q2 _ fun w H2 a2 => ?_⟩
  have s2 := s.after p a2.kp
  obtain ⟨l', vs', ds', f1, f2, f3, f4, f5, f6⟩ := s2.ownL m (getL_some q4)
  rw [e2] at f2; cases f2
  rw [getL_some q4] at f1; cases f1
  cases a2.rp
  have hb : β ≠ some l := fun z => f5 (p.bo l z)
  refine ⟨l, vs', z, j, rfl, rfl, f3, by rw [f4.length]; exact q5, ?_⟩
  have kO : Kp (Ow Ob own σ) H H2 := a2.kp.mono fun q e => .inl (p.bo q e)
  have rv2 : Rp X.K β (Ow Ob own σ) H2 v d := rv.kp kO
  have st := ((Stp.after p a2.kp a2.box).trans (Stp.mut (vs' := vs'.set j v) m e2 f3) : Stp Ob own σ H own σ _)
  have kf : ∀ w e, Rp X.K β (Ow Ob own σ) H w e → flat e = true → Rp X.K β (Ow Ob own σ) (upd H2 l (.lst (vs'.set j v))) w e := fun w e r f =>
    Rp.flatK (fun q xs h => by
      have h2 := kO q _ h fun _ => rfl
      rw [upd_ne (fun z => by rw [z, f3] at h2; cases h2)]
      exact h2) _ _ r f
  exact k _ (s2.mut m e2 f3 (f4.set j rv2)) (a2.box.upd hb) st (kf _ _ rv hf) kf
/-- xs[i], xs[j] = a, b -/
def twoD : List D → Option (D × D)
  | [a, b] => some (a, b)
  | _ => none
def sPut2 (i : Nat) (ix1 ix2 : Ef) (as : Ev → M (List D)) : Sf := fun env => bnd (as env) fun l => bnd (opt (twoD l)) fun ab => if flat ab.1 = true ∧ flat ab.2 = true then bnd (sPut i ix1 (fun _ => ret ab.1) env) (fun fl => match fl with
  | .nx env1 => sPut i ix2 (fun _ => ret ab.2) env1
  | _ => fail) else fail
theorem sPut_inv {i : Nat} {ix : Ef} {d : D} {env : Ev} {bx bx' : Bx} {fl : Fl} (q : sPut i ix (fun _ => ret d) env bx = some (fl, bx')) : ∃ z ds j, ix env bx = some (.int z, bx') ∧ getL env i = some ds ∧ ixN ds.length z = some j ∧ flat d = true ∧ fl = .nx (env.set i (some (.list (ds.set j d)))) := by
  obtain ⟨d', bx1, q1, r1⟩ := bnd_some q
  have q1 : some (d, bx) = some (d', bx1) := q1
  cases q1
  obtain ⟨kd, bx5, q2, r2⟩ := bnd_some r1
  obtain ⟨z, q3, r3⟩ := bnd_opt r2
  obtain ⟨ds, q4, r4⟩ := bnd_opt r3
  obtain ⟨j, q5, r5⟩ := bnd_opt r4
  have q3 := intD1_some q3
  subst q3
  by_cases hf : flat d = true
  case neg => rw [if_neg hf] at r5; cases r5
  rw [if_pos hf] at r5
  have r5 : some (Fl.nx (env.set i (some (.list (ds.set j d)))), bx5) = some (fl, bx') := r5
  cases r5
  exact ⟨z, ds, j, q2, q4, q5, hf, rfl⟩
theorem ss_put2 {i : Nat} {e : Expr} {ix1 ix2 : Expr} {st : Stmt} {fa fb fc : Bool} {as : Ev → M (List D)} {g1 g2 : Ef} (A : SE X fa e (eA gTup as)) (B : SE X fb ix1 g1) (C : SE X fc ix2 g2) (m : i ∈ own)
    (mk : ∀ ta t1 t2, PE X e ta → PE X ix1 t1 → PE X ix2 t2 → PS X st (tAsg ta (L2.gTup X.K 2 (gCons (gSub (tVar i) t1 rSetL) (gCons (gSub (tVar i) t2 rSetL) gNil))))) : SS X own own lo st (sPut2 i g1 g2 as) := by
  obtain ⟨ta, pa, ra⟩ := A.run
  obtain ⟨t1, p1, r1⟩ := B.run
  obtain ⟨t2, p2, r2⟩ := C.run
  refine ⟨_, mk _ _ _ pa p1 p2, fun β Ob H0 H σ env bx fl bx' p s b q E k => ?_⟩
  obtain ⟨l, bx1, q1, w1⟩ := bnd_some q
  obtain ⟨ab, q2, w2⟩ := bnd_opt w1
  clear q w1
  obtain ⟨d1, d2⟩ := ab
  have hl : l = [d1, d2] := by
    unfold twoD at q2
    split at q2
    · cases q2; rfl
    · cases q2
  subst hl
  by_cases hf : flat d1 = true ∧ flat d2 = true
  case neg => rw [if_neg hf] at w2; cases w2
  rw [if_pos hf] at w2
  obtain ⟨fl1, bx2, w3, w4⟩ := bnd_some w2
  clear w2
  obtain ⟨z1, ds1, j1, a1, a2, a3, a4, rfl⟩ := sPut_inv w3
  have w4 : sPut i g2 (fun _ => ret d2) (env.set i (some (.list (ds1.set j1 d1)))) bx2 = some (fl, bx') := w4
  obtain ⟨z2, ds2, j2, b1, b2, b3, b4, rfl⟩ := sPut_inv w4
  have qt : eA gTup as env bx = some (.tuple [d1, d2], bx1) := by
    unfold eA bnd
    rw [q1]
    rfl
  refine ra β Ob H σ env bx _ bx1 s.envV (s.preV p b) qt _ fun v H1 a => ?_
  have s1 := s.after p a.kp
  have rv := (a.rp.flat (O' := Ow Ob own σ) (show flat (.tuple [d1, d2]) = true by
    show flatA [d1, d2] = true
    show (flat d1 && (flat d2 && true)) = true
    rw [hf.1, hf.2]
    rfl))
  cases rv with
  | @tup c xs ds x y =>
    obtain ⟨v1, v2, rfl, y1, y2⟩ := y.two
    refine ⟨c, [v1, v2], rfl, SqT.of x, rfl, v1, [v2], rfl, ?_⟩
    refine put_one r1 m p s1 a.box a1 a2 a3 hf.1 y1 fun H2 s2 bx2 st2 _ kf => ?_
    refine ⟨v2, [], rfl, ?_⟩
    refine put_one r2 m p s2 bx2 b1 b2 b3 hf.2 (kf _ _ y2 hf.2) fun H3 s3 bx3 st3 _ _ => ?_
    exact ⟨rfl, k σ _ s3 bx3 (((Stp.after p a.kp a.box).trans st2).trans st3)⟩
/-- x, y = a, b with values that hold no list -/
def sParV (is : List Nat) (as : Ev → M (List D)) : Sf := fun env => bnd (as env) fun ds => if flatA ds = true then bnd (opt (setL is ds env)) fun e => ret (.nx e) else fail
theorem ss_parV2 {i j : Nat} {a b : Expr} {as : Ev → M (List D)} {st : Stmt} (A : SA X [a, b] as) (mk : ∀ ta, PA X [a, b] ta → PS X st (tPar i j ta)) (mi : i ∉ own := by decide) (mj : j ∉ own := by decide) : SS X own own lo st (sParV [i, j] as) := by
  obtain ⟨t, pa, r⟩ := A.run
  refine ⟨_, mk _ pa, fun β Ob H0 H σ env bx fl bx' p s b q E k => ?_⟩
  obtain ⟨ds, bx1, q1, q⟩ := bnd_some q
  by_cases hf : flatA ds = true
  case neg => rw [if_neg hf] at q; cases q
  rw [if_pos hf] at q
  obtain ⟨e1, bx2, q2, q3⟩ := bnd_some q
  obtain ⟨q4, q5⟩ := opt_some q2
  have q5 : bx2 = bx1 := q5
  subst q5
  have q4 : setL [i, j] ds env = some e1 := q4
  have q3 : some (Fl.nx e1, bx2) = some (fl, bx') := q3
  cases q3
  refine r β Ob H σ env bx ds bx' s.envV (s.preV p b) q1 _ fun vs H1 a => ?_
  match ds, q4, a.rp.flatA (O' := Ow Ob own σ) hf with
  | [d1, d2], q4, rp =>
    obtain ⟨v, w, rfl, h1, h2⟩ := rp.two
    have q4 : some ((env.set i (some d1)).set j (some d2)) = some e1 := q4
    cases q4
    have st := Sets.cons (K := X.K) (β := β) (O := Ow Ob own σ) (H := H1) (i := i) (env := env) (σ := σ) h1 (.cons (i := j) h2 .nil)
    obtain ⟨sA, sB⟩ := StR.sets st (fun q z => z) (by
      intro l hl
      rcases List.mem_cons.mp hl with rfl | hl
      · exact mi
      · have : l = j := by simpa using hl
        rw [this]; exact mj) (s.after p a.kp)
    exact ⟨v, w, rfl, k _ H1 sA a.box ((Stp.after p a.kp a.box).trans sB)⟩
/-- range(i, j, -1) -/
def downItems (lo : Int) (n : Nat) : List D := (List.range n).map fun (k : Nat) => .int (lo + (k : Nat) * (-1))
def rangeD3 : List D → Option (List D)
  | [.int i, .int j, .int c] => if c = -1 ∧ -(2 ^ 62) ≤ i ∧ i < 2 ^ 62 ∧ -(2 ^ 62) ≤ j ∧ j < 2 ^ 62 then some (downItems i (i - j).toNat) else none
  | _ => none
theorem down_items {K β bx'} {O : Addr → Prop} {H : Hp} {lo : Int} {n : Nat} {R : It → Hp → Prop}
    (k : ∀ J H1 Y, Kp (bO β) H H1 → BoxOk β H1 bx' → Walk J (downItems lo n).length (fun Hn => true = true ∨ Kp O H1 Hn) Y →
      (∀ i Hn x H', i < (downItems lo n).length → (true = true ∨ Kp O H1 Hn) → Y i Hn x H' → Same Hn H' ∧ ∃ d, (downItems lo n)[i]? = some d ∧ ∀ O' : Addr → Prop, (true = true ∨ ∀ q o, H1 q = some o → ¬ O q → ¬ O' q) → Rp K β O' H' x d) → R J H1)
    {H1 : Hp} (k1 : Kp (bO β) H H1) (b1 : BoxOk β H1 bx') : R (Itc lo (-1) n) H1 := by
  have len : (downItems lo n).length = n := by simp [downItems]
  refine k _ H1 (YFn fun i => .int (lo + (i : Nat) * (-1))) k1 b1 ?_ ?_
  · rw [len]
    exact walk_rangeC.mono (fun _ _ => trivial) fun i H x H' _ _ y => y
  · intro i Hn x H' hi hk y
    obtain ⟨e1, e2⟩ := y
    subst e1 e2
    rw [len] at hi
    exact ⟨Same.refl _, .int (lo + (i : Nat) * (-1)), by simp [downItems, hi], fun O' _ => .int _⟩
theorem rangeD3_inv {x y z : D} {ds : List D} (h : rangeD3 [x, y, z] = some ds) : ∃ i j, x = .int i ∧ y = .int j ∧ z = .int (-1) ∧ (-(2 ^ 62) ≤ i ∧ i < 2 ^ 62 ∧ -(2 ^ 62) ≤ j ∧ j < 2 ^ 62) ∧ ds = downItems i (i - j).toNat := by
  unfold rangeD3 at h
  split at h
  · rename_i i j c e
    cases e
    by_cases c : c = -1 ∧ -(2 ^ 62) ≤ i ∧ i < 2 ^ 62 ∧ -(2 ^ 62) ≤ j ∧ j < 2 ^ 62
    · rw [if_pos c] at h
      obtain ⟨rfl, c⟩ := c
      cases h
      exact ⟨i, j, rfl, rfl, rfl, c, rfl⟩
    · rw [if_neg c] at h; cases h
  · cases h
theorem si_range3 {tg a b e3 : Expr} {p pos : Pos} {f g h : Ef} (A : SA X [a, b, e3] (aCons f (aCons g (aCons h aNil)))) (hm : X.mg "range" = none) (hg : Gl X "range" := by rfl)
    (hs : starEach [a, b, e3] X.env = (false, eval a X.env) :: starEach [b, e3] X.env := by rfl) (hpl : (backTo pos (starEach [b, e3] X.env)).any (·.1) = false := by rfl) :
    SI X tg (.Call (.Name "range" p) [a, b, e3] [] pos) true (iArgs rangeD3 (aCons f (aCons g (aCons h aNil)))) := by
  obtain ⟨t, pe, r⟩ := A.run
  refine ⟨_, pi_range3 hg hm pe hs hpl, fun β O H σ env bx ds bx' E p q R k => ?_⟩
  obtain ⟨xs, bx1, q1, q⟩ := bnd_some q
  obtain ⟨q3, q4⟩ := opt_some q
  have q4 : bx' = bx1 := q4
  subst q4
  refine r β O H σ env bx xs bx' E p q1 _ fun vs H1 a => ?_
  obtain ⟨d, _, es, _, e2, rfl⟩ := aCons_some q1
  obtain ⟨d2, _, es, _, e3, rfl⟩ := aCons_some e2
  obtain ⟨d3, _, es, _, e4, rfl⟩ := aCons_some e3
  obtain ⟨rfl, _⟩ := aNil_some e4
  obtain ⟨i, j, rfl, rfl, rfl, c, rfl⟩ := rangeD3_inv q3
  cases a.rp with
  | cons h1 rr =>
    obtain ⟨w, z, rfl, h2, h3⟩ := rr.two
    cases h1; cases h2; cases h3
    exact ⟨i, j, -1, _, rfl, RgC.neg c.1 c.2.1 c.2.2.1 c.2.2.2, down_items k a.kp a.box⟩
end
end MD
end

section
set_option Elab.async false
set_option linter.all false
set_option maxRecDepth 100000
namespace MD
open PySem PySem.Spec PyProof.Rows L2

/-! ### max(.., key=len) of texts -/
section
variable {prog : Program} {w : World} {A : Around} {E : Value → Shared → Prop} {s : Shared}
def lenAt (xs : List Str) (i : Nat) : Int := (xs.getD i Str.empty).length
def KeptS (s s' : Shared) : Prop := ∃ h' tk, s' = { s with heap := h', toks := tk } ∧ ∀ b o, s.heap.get? b = some o → h'.get? b = some o
theorem KeptS.moved {s s1 s2 : Shared} {wr : List Addr} (k : KeptS s s1) (hw : ∀ b o, s.heap.get? b = some o → b ∉ wr) (m : Moved wr (fun a b => b = a) s1 s2) : KeptS s s2 := by
  obtain ⟨h1, t1, rfl, k1⟩ := k
  refine ⟨s2.heap, s2.toks, ?_, fun b o e => m.heap b o (hw b o e) (k1 b o e)⟩
  obtain ⟨hp, g, d, tk, os⟩ := s2
  have h1 : g = s.gens := m.gens
  have h2 : d = s.drawn := m.drawn
  have h3 : os = s.os := m.os
  subst h1
  subst h2
  subst h3
  rfl
theorem len_run {I l : Addr} {vs : Array Value} {xs : List Str} {s0 : Shared} {S : Addr} {St : Nat → Shared → Prop} (W : WalksS prog w A I [I, l] [I] (fun a b => b = a) vs.size (fun i v => vs[i]? = some v) St)
    (hS : ∀ b o, s0.heap.get? b = some o → b ≠ S) (hI : ∀ b o, s0.heap.get? b = some o → b ≠ I) (hv : ∀ (i : Nat) (v : Value), vs[i]? = some v → ∃ t, v = .str (xs.getD i Str.empty) t) (hz : ∀ x ∈ xs, x.length ≤ sizeLine) :
    KeyRun prog w A (.builtin "len") .Gt S [I] (fun a b => b = a) vs.size (fun i v => vs[i]? = some v) St (KeptS s0) (fun i k _ => ∃ t, k = .int (lenAt xs i) t) (fun i j => decide (lenAt xs i > lenAt xs j)) where
  keep := fun s s' k m => k.moved (fun b o e hm => by
    rcases List.mem_cons.mp hm with h | h
    · exact hS b o e h
    · exact hI b o e (List.mem_singleton.mp h)) m
  keepV := fun i k s s' h _ => h
  turn := fun i v s o Q E hi hP hJ hst hSo hQ => by
    obtain ⟨t, rfl⟩ := hv i v hP
    have hfit : ¬ ((xs.getD i Str.empty).length : Int) ≥ 2 ^ 63 := by
      have : (xs.getD i Str.empty).length ≤ sizeLine := by
        by_cases h : i < xs.length
        · have e : xs.getD i Str.empty = xs[i] := by simp [List.getD, h]
          rw [e]
          exact hz _ (List.getElem_mem h)
        · have e : xs.getD i Str.empty = Str.empty := by simp [List.getD, h]
          rw [e]
          exact Nat.zero_le _
      have h2 : sizeLine ≤ 16777216 := by decide
      omega
    refine PySem.P.len_str hfit ?_
    obtain ⟨h1, t1, rfl, k1⟩ := hJ
    refine hQ _ _ ⟨h1, t1 + 1 + 1, rfl, k1⟩ (W.frame (i + 1) _ h1 (t1 + 1 + 1) hst (by show t1 ≤ t1 + 1 + 1; omega) fun b _ o e => e) hSo ⟨_, rfl⟩ fun j k' h => h
  cmp := fun i j ki kj s Q E hJ hi hj hQ => by
    obtain ⟨t, rfl⟩ := hi
    obtain ⟨u, rfl⟩ := hj
    exact CmpOf.ints_gt (prog := prog) (w := w) (A := A) (P := fun i v => ∃ t, v = .int (lenAt xs i) t) (lenAt xs) (fun i v h => h) i j _ _ _ _ _ ⟨t, rfl⟩ ⟨u, rfl⟩ hQ
/-- the first of the longest -/
def longest : List Str → Str
  | [] => Str.empty
  | x :: xs => xs.foldl (fun a y => if y.length > a.length then y else a) x
theorem longest_best (x : Str) (xs : List Str) : (x :: xs).getD (argBest (fun i j => decide (lenAt (x :: xs) i > lenAt (x :: xs) j)) xs.length) Str.empty = longest (x :: xs) := by
  have h := (PySem.W.argBest_fold (fun a b : Str => decide ((a.length : Int) > b.length)) Str.empty x xs xs.length (Nat.le_refl _)).2
  rw [List.take_length] at h
  have e : (fun i j => decide (lenAt (x :: xs) i > lenAt (x :: xs) j)) = fun i j => (fun a b : Str => decide ((a.length : Int) > b.length)) ((x :: xs).getD i Str.empty) ((x :: xs).getD j Str.empty) := rfl
  rw [e, h]
  unfold longest
  congr 1
  funext a y
  by_cases c : y.length > a.length
  · rw [if_pos c, if_pos (decide_eq_true (by omega))]
  · rw [if_neg c, if_neg (by simpa using c)]
theorem max_two_key {a b : Value} (u : Value) : argsOk "max" ⟨[a, b], [(Str.ofString "key", u)]⟩ := by unfold argsOk; kernel_rfl
theorem strs_at {vs : List Value} {xs : List Str} (h : Vals (xs.map V.str) vs) {i : Nat} {v : Value} (e : vs.toArray[i]? = some v) : ∃ t, v = .str (xs.getD i Str.empty) t := by
  have e : vs[i]? = some v := by simpa using e
  have hl := h.length
  have hi : i < xs.length := by
    have := (List.getElem?_eq_some_iff.mp e).1
    rw [← hl] at this
    simpa using this
  obtain ⟨u, h1, h2⟩ := Vals.get h (i := i) (x := .str xs[i]) (by simp [hi])
  rw [e] at h1
  cases h1
  obtain ⟨t, rfl⟩ := h2
  exact ⟨t, by simp [List.getD, hi]⟩
theorem max_two_len {x y : Str} {t u : Tok} {Q : Value → Shared → Prop} (hh : A.handled = none) (hx : x.length ≤ sizeLine) (hy : y.length ≤ sizeLine)
    (h : ∀ v s', (∃ t, v = .str (longest [x, y]) t) → KeptS s s' → Q v s') : wpAny (model prog w) A (call (.builtin "max") [.str x t, .str y u] [(Str.ofString "key", .builtin "len")]) Q E s := by
  have hname : (toString "max" ++ toString ".loop" : String) = "max.loop" := by decide
  refine PyProof.Rows.kmk_tree F.kind_max F.plain_max F.entry_max (max_two_key _) ?_
  show wpAny _ A.in1 (Builtin.Builtins.bindParams "max" ["key", "default"] 0 ⟨[], [(Str.ofString "key", .builtin "len")]⟩ >>= _) _ _ s
  refine wpAny_bind (wpAny_of_eq (show Builtin.Builtins.bindParams "max" ["key", "default"] 0 ⟨[], [(Str.ofString "key", .builtin "len")]⟩ = pure [some (.builtin "len"), none] from rfl) ?_)
  refine wpAny_bind (wpAny_newTuple ?_ (by show 2 ≤ _; decide))
  have hT : (s.heap.push { cls := .type "tuple", data := .seq #[.str x t, .str y u] }).IsTuple s.heap.objs.size #[.str x t, .str y u] := ⟨_, Heap.get?_push_size _ rfl, rfl, 0, rfl⟩
  have hsz : (s.heap.push { cls := .type "tuple", data := .seq #[.str x t, .str y u] }).objs.size = s.heap.objs.size + 1 := Heap.size_push ..
  refine wpAny_bind (PySem.W.iter_tupleW (A := A.in1) hh hT fun s₂ e W st hfp hw hk => ?_)
  have hst := st
  have e2 : s₂.heap.objs.size = s.heap.objs.size + 1 + 1 := by
    rw [e]
    show ((s.heap.push _).push _).objs.size = _
    rw [Heap.size_push, hsz]
  have W' : WalksS prog w A.in1 _ _ _ _ (#[Value.str x t, .str y u]).size _ _ := W
  have old : ∀ b o, s.heap.get? b = some o → b < s.heap.objs.size := fun b o e => Heap.lt_size e
  have K := len_run (A := A.in1) (xs := [x, y]) (s0 := s) (S := s₂.heap.objs.size) W (fun b o h z => by have this := old b o h; rw [z, e2] at this; exact Nat.lt_irrefl _ (Nat.lt_trans (Nat.lt_succ_of_lt (Nat.lt_succ_self _)) this)) (fun b o h z => by have this := old b o h; rw [z, hsz] at this; exact Nat.lt_irrefl _ (Nat.lt_trans (Nat.lt_succ_self _) this))
    (fun i v hv => strs_at (vs := [.str x t, .str y u]) (xs := [x, y]) (.cons ⟨_, rfl⟩ (.cons ⟨_, rfl⟩ .nil)) hv) (fun z hz => by
      rcases List.mem_cons.mp hz with rfl | hz
      · exact hx
      · rw [List.mem_singleton.mp hz]; exact hy)
  have hJ : KeptS s s₂ := ⟨s₂.heap, s₂.toks, by rw [e], fun b o h => hk b o (Heap.get?_push_of_some _ h)⟩
  rw [hname]
  refine wpAny_bind (wpAny_newObj_type ?_)
  have hSf : s₂.heap.objs.size ∉ [(s.heap.push { cls := .type "tuple", data := .seq #[.str x t, .str y u] }).objs.size, s.heap.objs.size] := fun hm => Nat.lt_irrefl _ (hfp _ hm)
  have hm0 : Moved (s₂.heap.objs.size :: [(s.heap.push { cls := .type "tuple", data := .seq #[.str x t, .str y u] }).objs.size]) (fun a b => b = a) s₂ { s₂ with heap := s₂.heap.push { cls := .type "list", data := .seq #[] 0 }, toks := s₂.toks } := (Moved.refl (G := fun a b => b = a) (fun _ => rfl)).then_heap (tk := s₂.toks) (Nat.le_refl _) fun b o _ e => Heap.get?_push_of_some _ e
  have hst' := W.frame 0 s₂ (s₂.heap.push { cls := .type "list", data := .seq #[] 0 }) s₂.toks hst (Nat.le_refl _) fun b _ o e => Heap.get?_push_of_some _ e
  refine wpAny_pure ⟨plainId_quiet F.plain_max_loop _, codeAny_max_loop_firstKB W s₂.heap.objs.size hSf K _ (by show 0 < 2; decide) (K.keep _ _ hJ hm0) hst' (Heap.get?_push_size _ rfl) fun v s' hP hJ' => ?_⟩
  refine h v s' ?_ hJ'
  have := strs_at (vs := [.str x t, .str y u]) (xs := [x, y]) (.cons ⟨_, rfl⟩ (.cons ⟨_, rfl⟩ .nil)) hP
  rw [← longest_best]
  exact this
theorem max_list_len {l : Addr} {vs : List Value} {xs : List Str} {Q : Value → Shared → Prop} (hh : A.handled = none) (hl : s.heap.IsList l vs.toArray) (hv : Vals (xs.map V.str) vs) (hne : xs ≠ []) (hz : ∀ x ∈ xs, x.length ≤ sizeLine)
    (h : ∀ v s', (∃ t, v = .str (longest xs) t) → KeptS s s' → Q v s') : wpAny (model prog w) A (call (.builtin "max") [.ref l] [(Str.ofString "key", .builtin "len")]) Q E s := by
  have hlen := hv.length
  rw [List.length_map] at hlen
  have hsize : vs.toArray.size = xs.length := by simp [hlen]
  have old : ∀ b o, s.heap.get? b = some o → b < s.heap.objs.size := fun b o e => Heap.lt_size e
  refine call_max_walkKB (PySem.W.iter_listW (A := A.in1) hh hl fun s₂ e W st hfp hw hk => ?_)
  have e2 : s₂.heap.objs.size = s.heap.objs.size + 1 := by
    rw [e]
    show (s.heap.push _).objs.size = _
    rw [Heap.size_push]
  have K := len_run (A := A.in1) (xs := xs) (s0 := s) (S := s₂.heap.objs.size) W (fun b o h z => by have this := old b o h; rw [z, e2] at this; exact Nat.lt_irrefl _ (Nat.lt_trans (Nat.lt_succ_self _) this)) (fun b o h z => by have this := old b o h; rw [z] at this; exact Nat.lt_irrefl _ this)
    (fun i v e => strs_at hv e) hz
  refine ⟨_, _, _, _, _, _, _, _, _, _, rfl, W, st, hfp, ?_, K, ⟨s₂.heap, s₂.toks, by rw [e], hk⟩, fun v s' hP hJ => ?_⟩
  · rw [hsize]
    exact List.length_pos_iff.mpr hne
  · refine h v s' ?_ hJ
    have := strs_at hv hP
    rw [hsize] at this
    cases xs with
    | nil => exact (hne rfl).elim
    | cons x xs =>
      rw [← longest_best]
      exact this
end
def rMaxLen (K : PySem.W.Frag) : List V → Hp → VK → Prop := fun vs H Q => (∃ x y : Str, vs = [.str x, .str y] ∧ x.length ≤ sizeLine ∧ y.length ≤ sizeLine ∧ Q (.str (longest [x, y])) H) ∨
  (∃ (a : Addr) (xs : List Str), vs = [.ref a] ∧ SqL K H a (xs.map V.str) ∧ xs ≠ [] ∧ (∀ x ∈ xs, x.length ≤ sizeLine) ∧ Q (.str (longest xs)) H)
section
variable {X : Cx}
theorem run_maxLen (hc : X.calm = true) {pins : List (Addr × Obj)} {s : Shared} {σ : L2.St} {H : Hp} {xs : List V} {us : List Value} {Q : VK} (I : Inv X pins σ H s) (r : Vals xs us) (h : rMaxLen X.K xs H Q) :
    wpAny (model X.prog X.w) X.A (call (.builtin "max") us [(Str.ofString "key", .builtin "len")]) (EP X pins σ Q) X.xe s := by
  rcases h with ⟨x, y, rfl, hx, hy, q⟩ | ⟨a, ys, rfl, hs, hne, hz, q⟩
  · obtain ⟨u, w', rfl, ⟨t, rfl⟩, ⟨t', rfl⟩⟩ := vals2 r
    refine max_two_len (I.ok.hd hc) hx hy fun v s' hv ⟨h', tk, e, k⟩ => ?_
    subst e
    exact ⟨.str _, H, I.kept k, hv, q⟩
  · obtain ⟨its, rv, hl, _⟩ := I.list hs
    rw [Vals.ref1 r]
    refine max_list_len (I.ok.hd hc) hl.isList rv hne hz fun v s' hv ⟨h', tk, e, k⟩ => ?_
    subst e
    exact ⟨.str _, H, I.kept k, hv, q⟩
theorem pe_maxLen {e : Expr} {es : List Expr} {t : TA} {p p2 kp pos : Pos} (hc : X.calm = true) (hg : Gl X "max") (hm : X.mg "max" = none) (hg2 : Gl X "len") (hm2 : X.mg "len" = none) (ha : PA X (e :: es) t)
    (he : backTo pos (starEach (e :: es) X.env) = (false, eval e X.env) :: backTo pos (starEach es X.env) := by rfl) (hpl : (backTo pos (starEach (e :: es) X.env)).any (·.1) = false := by rfl) :
    PE X (.Call (.Name "max" p) (e :: es) [⟨some "key", .Name "len" p2, kp⟩] pos) (tCB (rMaxLen X.K) t) := by
  refine ⟨fun pins s σ H Q I h => ?_⟩
  refine wpAny_Call_Name_kw (ld_blt I hg hm (show bootBuiltins (Str.ofString "max") = some (.builtin "max") by rfl) ?_)
  refine PyProof.Rows.callWith_kw (thn (ha.run pos pins s σ H _ I h) fun us s1 ⟨vs, H1, I1, r1, q1⟩ => ?_) he hpl rfl rfl
  show wpAny _ _ (evalAll ((do let v ← eval (.Name "len" p2) X.env; standAt pos; pure v) :: [])) _ _ s1
  refine wpAny_evalAll_cons (wpAny_bind (ld_blt I1 hg2 hm2 (show bootBuiltins (Str.ofString "len") = some (.builtin "len") by rfl) (wpAny_bind (wpAny_standAt (wpAny_pure ?_)))))
  refine wpAny_evalAll_nil ?_
  exact run_maxLen hc I1 r1 q1
/-- max(a, b, key=len), max(list, key=len), of texts -/
def maxLenD : List D → Option D
  | [.str x, .str y] => if x.length ≤ sizeLine ∧ y.length ≤ sizeLine then some (.str (longest [x, y])) else none
  | [.list ds] => match strsD ds with
    | some xs => if xs ≠ [] ∧ (xs.all fun x => decide (x.length ≤ sizeLine)) = true then some (.str (longest xs)) else none
    | none => none
  | _ => none
theorem maxLenD_sem : RAS X.K (rMaxLen X.K) false maxLenD := by
  intro β O H bx xs ds d p r e Q k
  unfold maxLenD at e
  split at e
  · rename_i x y
    obtain ⟨v, w, rfl, h1, h2⟩ := r.two
    cases h1
    cases h2
    by_cases c : x.length ≤ sizeLine ∧ y.length ≤ sizeLine
    · rw [if_pos c] at e
      cases e
      exact .inl ⟨x, y, rfl, c.1, c.2, k _ _ (aft_same p (.str _))⟩
    · rw [if_neg c] at e; cases e
  · obtain ⟨v, rfl, h⟩ := r.one
    rename_i ds
    cases z : strsD ds with
    | none => rw [z] at e; cases e
    | some bs =>
      rw [z] at e
      have e : (if bs ≠ [] ∧ (bs.all fun x => decide (x.length ≤ sizeLine)) = true then some (PyData.str (longest bs)) else none) = some d := e
      by_cases c : bs ≠ [] ∧ (bs.all fun x => decide (x.length ≤ sizeLine)) = true
      · rw [if_pos c] at e
        cases e
        cases h with
        | lst a b r2 =>
          refine .inr ⟨_, bs, rfl, by rw [← strs_rp r2 z]; exact SqL.of a, c.1, fun x hx => ?_, k _ _ (aft_same p (.str _))⟩
          have := List.all_eq_true.mp c.2 x hx
          exact of_decide_eq_true this
      · rw [if_neg c] at e; cases e
  · cases e
theorem se_maxLen {e : Expr} {es : List Expr} {as : Ev → M (List D)} {p p2 kp pos : Pos} (A : SA X (e :: es) as) (hm : X.mg "max" = none) (hm2 : X.mg "len" = none) (hc : X.calm = true := by rfl) (hg : Gl X "max" := by rfl) (hg2 : Gl X "len" := by rfl)
    (he : backTo pos (starEach (e :: es) X.env) = (false, eval e X.env) :: backTo pos (starEach es X.env) := by rfl) (hpl : (backTo pos (starEach (e :: es) X.env)).any (·.1) = false := by rfl) :
    SE X false (.Call (.Name "max" p) (e :: es) [⟨some "key", .Name "len" p2, kp⟩] pos) (eA maxLenD as) :=
  se_args A (fun ta pa => pe_maxLen hc hg hm hg2 hm2 pa he hpl) maxLenD_sem
end
end MD
end

section
set_option Elab.async false
set_option linter.all false
set_option maxRecDepth 100000
namespace MD
open PySem PySem.Spec PyProof.Rows L2

section
variable {X : Cx} {own own' own2 lo : List Nat}
/-! ### min(a, b), max(a, b) of ints; text.find(text) -/
def min2D : List D → Option D
  | [.int i, .int j] => some (.int (if j < i then j else i))
  | _ => none
def max2D : List D → Option D
  | [.int i, .int j] => some (.int (if j > i then j else i))
  | _ => none
theorem min2D_sem : RAS X.K (fun xs H Q => ∃ i j, xs = [.int i, .int j] ∧ Q (.int (if j < i then j else i)) H) false min2D := by
  intro β O H bx xs ds d p r e Q k
  unfold min2D at e
  split at e
  · cases e
    obtain ⟨v, w, rfl, h1, h2⟩ := r.two
    cases h1; cases h2
    exact ⟨_, _, rfl, k _ _ (aft_same p (.int _))⟩
  · cases e
theorem max2D_sem : RAS X.K (fun xs H Q => ∃ i j, xs = [.int i, .int j] ∧ Q (.int (if j > i then j else i)) H) false max2D := by
  intro β O H bx xs ds d p r e Q k
  unfold max2D at e
  split at e
  · cases e
    obtain ⟨v, w, rfl, h1, h2⟩ := r.two
    cases h1; cases h2
    exact ⟨_, _, rfl, k _ _ (aft_same p (.int _))⟩
  · cases e
def findD : D → D → Option D
  | .str a, .str b => some (.int (Txt.find a b))
  | _, _ => none
theorem findD_inv {x y d : D} (h : findD x y = some d) : ∃ a b, x = .str a ∧ y = .str b ∧ d = .int (Txt.find a b) := by
  unfold findD at h
  split at h
  · cases h; exact ⟨_, _, rfl, rfl, rfl⟩
  · cases h
theorem se_find {o e : Expr} {fa fb : Bool} {a b : Ef} {apos pos : Pos} (A : SE X fa o a) (B : SE X fb e b) (hs : starEach [e] X.env = [(false, eval e X.env)] := by rfl) (hbase : attributeBase o "find" X.env (eval o X.env) = eval o X.env := by rfl) (hline : (apos.endLine == pos.line) = true := by rfl) :
    SE X false (.Call (.Attribute o "find" apos) [e] [] pos) (e2 findD a b) := by
  obtain ⟨ta, pa, ra⟩ := A.run
  obtain ⟨tb, pb, rb⟩ := B.run
  refine ⟨_, pe_m1 F.slot_str_find F.type_str_find mt_find pa pb hs hbase hline, fun β O H σ env bx d bx' E p q Q k => ?_⟩
  obtain ⟨x, bx1, q1, q⟩ := bnd_some q
  obtain ⟨y, bx2, q2, q⟩ := bnd_some q
  obtain ⟨q3, q4⟩ := opt_some q
  have q4 : bx' = bx2 := q4
  subst q4
  refine ra β O H σ env bx x bx1 E p q1 _ fun v H1 a1 => ?_
  have p1 := p.step a1.kp a1.box
  obtain ⟨z, w, rfl, rfl, rfl⟩ := findD_inv q3
  have ev : v = .str z := by cases a1.rp; rfl
  subst ev
  refine ⟨⟨z, rfl⟩, rb β O H1 σ env bx1 _ bx' (E.step (p.kO a1.kp)) p1 q2 _ fun u H2 a2 => ?_⟩
  cases a2.rp
  exact ⟨_, _, rfl, rfl, k _ H2 ⟨a1.kp.trans a2.kp, a2.box, .int _, fun z => nomatch z⟩⟩
/-! ### list(range(n)), list(range(a, b)) -/
def listRgD : List D → Option D
  | [.int n] => if 0 ≤ n ∧ n ≤ 16777216 then some (.list (rangeItems 0 n.toNat)) else none
  | [.int a, .int b] => if 0 ≤ a ∧ a ≤ 16777216 ∧ 0 ≤ b ∧ b ≤ 16777216 then some (.list (rangeItems a (b - a).toNat)) else none
  | _ => none
theorem rg_rp {K β O H} {a b : Int} {n : Nat} (e : n = (b - a).toNat) : RpA K β O H (rgV a b) (rangeItems a n) := by
  subst e
  unfold rgV rangeItems
  generalize (List.range (b - a).toNat) = l
  induction l with
  | nil => exact .nil
  | cons x l ih => exact .cons (.int _) ih
theorem se_listRg1 {a : Expr} {f : Ef} {fr : Bool} {p pos p2 pos2 : Pos} (A : SE X fr a f) (hm : X.mg "list" = none) (hm2 : X.mg "range" = none) (hc : X.calm = true := by rfl) (hg : Gl X "list" := by rfl) (hg2 : Gl X "range" := by rfl)
    (na : starEach [a] X.env = (false, eval a X.env) :: starEach [] X.env := by rfl) (nb : starEach [.Call (.Name "range" p2) [a] [] pos2] X.env = (false, eval (.Call (.Name "range" p2) [a] [] pos2) X.env) :: starEach [] X.env := by rfl) :
    SE X true (.Call (.Name "list" p) [.Call (.Name "range" p2) [a] [] pos2] [] pos) (eA listRgD (aCons f aNil)) := by
  obtain ⟨t, pe, r⟩ := A.run
  refine ⟨_, pe_listRg hc hg hm (prg_1 hg2 hm2 pe na) nb, fun β O H σ env bx d bx' E p q Q k => ?_⟩
  obtain ⟨xs, bx1, q1, q⟩ := bnd_some q
  obtain ⟨q3, q4⟩ := opt_some q
  have q4 : bx' = bx1 := q4
  subst q4
  obtain ⟨x, bx2, es, q5, q6, rfl⟩ := aCons_some q1
  obtain ⟨rfl, rfl⟩ := aNil_some q6
  refine r β O H σ env bx x _ E p q5 _ fun v H1 a1 => ?_
  unfold listRgD at q3
  split at q3
  · rename_i n e
    cases e
    by_cases c : 0 ≤ n ∧ n ≤ 16777216
    · rw [if_pos c] at q3
      cases q3
      cases a1.rp
      refine ⟨n, rfl, RgOk.of_le (by decide) c.2 (by decide) c.1, fun q hq => ?_⟩
      have p1 := p.step a1.kp a1.box
      have z := aft_new_lst (K := X.K) (xs := rgV 0 n) (ds := rangeItems 0 n.toNat) p1 (rg_rp (by rw [Int.sub_zero])) hq
      exact k _ _ ⟨a1.kp.trans z.kp, z.box, z.rp, fun w => by
        obtain ⟨p', ds', e1, e2, e3, vs', e4, e5⟩ := z.fr w
        refine ⟨p', ds', e1, e2, ?_, vs', e4, e5⟩
        cases hH : H p' with
        | none => rfl
        | some o =>
          exfalso
          obtain ⟨o', ho'⟩ := dom_of a1.kp a1.box p' o hH
          rw [e3] at ho'
          cases ho'⟩
    · rw [if_neg c] at q3; cases q3
  · rename_i e; cases e
  · cases q3
/-! ### x = xs.pop(i) -/
def sPopAt (i j : Nat) (ix : Ef) : Sf := fun env => bnd (ix env) fun k => bnd (opt (intD1 k)) fun z => bnd (opt (getL env i)) fun ds => bnd (opt (ixN ds.length z)) fun m => bnd (opt ds[m]?) fun d => if -(2 ^ 63) ≤ z ∧ z < 2 ^ 63 ∧ flat d = true then ret (.nx ((env.set i (some (.list (ds.eraseIdx m)))).set j (some d))) else fail
theorem RpA.erase {K β O H} : ∀ {vs : List V} {ds : List D} (k : Nat), RpA K β O H vs ds → RpA K β O H (vs.eraseIdx k) (ds.eraseIdx k)
  | _, _, _, .nil => .nil
  | _, _, 0, .cons a b => b
  | _, _, k + 1, .cons a b => .cons a (RpA.erase k b)
theorem ss_popAt {i j : Nat} {ix : Expr} {st : Stmt} {fb : Bool} {g : Ef} (B : SE X fb ix g) (m : i ∈ own) (mj : j ∉ own) (mk : ∀ ti, PA X [ix] ti → PS X st (tAsg (tBM X.K "list" rPopAt (tVar i) ti) (gO [j] (setN j) X.K))) (hs : starEach [ix] X.env = (false, eval ix X.env) :: starEach [] X.env := by rfl) : SS X own own lo st (sPopAt i j g) := by
  obtain ⟨ti, pi, ri⟩ := B.run
  refine ⟨_, mk _ (pa_cons pi pa_nil hs), fun β Ob H0 H σ env bx fl bx' p s b q E k => ?_⟩
  obtain ⟨kd, bx5, q2, r2⟩ := bnd_some q
  obtain ⟨z, q3, r3⟩ := bnd_opt r2
  obtain ⟨ds, q4, r4⟩ := bnd_opt r3
  obtain ⟨a, q5, r5⟩ := bnd_opt r4
  obtain ⟨d, q6, r6⟩ := bnd_opt r5
  clear q r2 r3 r4 r5
  have q3 := intD1_some q3
  subst q3
  by_cases hz : -(2 ^ 63) ≤ z ∧ z < 2 ^ 63 ∧ flat d = true
  case neg => rw [if_neg hz] at r6; cases r6
  rw [if_pos hz] at r6
  have q : some (Fl.nx ((env.set i (some (.list (ds.eraseIdx a)))).set j (some d)), bx5) = some (fl, bx') := r6
  cases q
  obtain ⟨l, vs, ds', e1, e2, e3, e4, e5, e6⟩ := s.ownL m (getL_some q4)
  rw [getL_some q4] at e1; cases e1
  refine ⟨_, e2, .inl ⟨rfl, vs, SqL.of e3⟩, ri β Ob H σ env bx _ bx' s.envV (s.preV p b) q2 _ fun w H2 a2 => ?_⟩
  have s2 := s.after p a2.kp
  obtain ⟨l', vs', ds', f1, f2, f3, f4, f5, f6⟩ := s2.ownL m (getL_some q4)
  rw [e2] at f2; cases f2
  rw [getL_some q4] at f1; cases f1
  cases a2.rp
  obtain ⟨v, g1, g2⟩ := f4.get q6
  have hb : β ≠ some l := fun z => f5 (p.bo l z)
  obtain ⟨i1, i2, i3, i4⟩ := ixN_seq q5
  refine ⟨l, vs', z, a, v, rfl, rfl, f3, hz.1, hz.2.1, by rw [f4.length]; exact i1, g1, ?_⟩
  have s3 := s2.mut m e2 f3 (RpA.erase a f4)
  have rv : Rp X.K β (Ow Ob own σ) (upd H2 l (.lst (vs'.eraseIdx a))) v d := g2.kp (Kp.updO f3 (.inr ⟨i, m, e2⟩))
  refine ⟨β, Ow Ob own σ, d, _, _, rv, rfl, s3.len, fun σ' st => ?_⟩
  obtain ⟨sA, sB⟩ := StR.sets st (fun q z => z) (by
    intro t ht
    rw [List.mem_singleton.mp ht]
    exact mj) s3
  exact k _ _ sA (a2.box.upd hb) (((Stp.after p a2.kp a2.box).trans (Stp.mut m e2 f3)).trans sB)
/-! ### x, y = two new lists: both become own -/
def sParO2 (i j : Nat) (own : List Nat) (f g : Ef) : Sf := fun env => bnd (f (maskE own env)) fun d1 => bnd (g (maskE own env)) fun d2 => match d1, d2 with
  | .list a, .list b => if i < env.length ∧ j < env.length then ret (.nx ((env.set i (some (.list a))).set j (some (.list b)))) else fail
  | _, _ => fail
theorem ss_parO2 {i j : Nat} {a b : Expr} {st : Stmt} {f g : Ef} (A : SE X true a f) (B : SE X true b g) (mk : ∀ ta, PA X [a, b] ta → PS X st (tPar i j ta)) (mi : i ∉ own := by decide) (mj : j ∉ own := by decide) (hij : i ≠ j := by decide)
    (h1 : starEach [a, b] X.env = (false, eval a X.env) :: starEach [b] X.env := by rfl) (h2 : starEach [b] X.env = (false, eval b X.env) :: starEach [] X.env := by rfl) : SS X own (j :: i :: own) lo st (sParO2 i j own f g) := by
  obtain ⟨ta, pa, ra⟩ := A.run
  obtain ⟨tb, pb, rb⟩ := B.run
  refine ⟨_, mk _ (pa_cons pa (pa_cons pb pa_nil h2) h1), fun β Ob H0 H σ env bx fl bx' p s b q E k => ?_⟩
  obtain ⟨d1, bx1, q1, w1⟩ := bnd_some q
  obtain ⟨d2, bx2, q2, w2⟩ := bnd_some w1
  clear q w1
  refine ra β (Ow Ob own σ) H σ (maskE own env) bx d1 bx1 s.envM (s.preM p b) q1 _ fun v H1 a1 => ?_
  obtain ⟨p1, l1, rfl, rfl, hn1, vs1, hv1, r1⟩ := a1.fr rfl
  have eO : EnvR X.K β (fun q => Ow Ob own σ q ∨ q = p1) H1 (maskE own env) σ := by
    refine ⟨s.envM.1, fun t d e => ?_⟩
    obtain ⟨u, hu, ru⟩ := s.envM.2 t d e
    exact ⟨u, hu, Rp.map ((s.preM p b).kO a1.kp) (fun c o e n z => z.elim n fun w => by rw [w, hn1] at e; cases e) _ _ ru⟩
  have pO : Pre β (fun q => Ow Ob own σ q ∨ q = p1) H1 bx1 := by
    refine ⟨fun q hq => ?_, fun c e => .inl ((s.preM p b).bo c e), a1.box⟩
    rcases hq with hq | rfl
    · exact (((s.after p a1.kp).preM p a1.box)).occ q hq
    · exact ⟨_, hv1⟩
  refine rb β _ H1 σ (maskE own env) bx1 d2 bx2 eO pO q2 _ fun w H2 a2 => ?_
  obtain ⟨p2, l2, rfl, rfl, hn2, vs2, hv2, r2⟩ := a2.fr rfl
  by_cases hl : i < env.length ∧ j < env.length
  case neg =>
    have w2 : (if i < env.length ∧ j < env.length then ret (Fl.nx ((env.set i (some (.list l1))).set j (some (.list l2)))) else fail) bx2 = some (fl, bx') := w2
    rw [if_neg hl] at w2; cases w2
  have w2 : (if i < env.length ∧ j < env.length then ret (Fl.nx ((env.set i (some (.list l1))).set j (some (.list l2)))) else fail) bx2 = some (fl, bx') := w2
  rw [if_pos hl] at w2
  have w2 : some (Fl.nx ((env.set i (some (.list l1))).set j (some (.list l2))), bx2) = some (fl, bx') := w2
  cases w2
  have s1 := StR.setO p s b mi hl.1 a1.kp hn1 hv1 r1
  have hσ : i < σ.length := by rw [s.len]; exact hl.1
  have ho : ∀ q, Ow Ob (i :: own) (σ.set i (some (.ref p1))) q → Ow Ob own σ q ∨ q = p1 := by
    rintro q (z | ⟨t, ht, e⟩)
    · exact .inl (.inl z)
    · by_cases c : t = i
      · subst c
        rw [List.getElem?_set_self hσ] at e
        cases e
        exact .inr rfl
      · rw [List.getElem?_set_ne (fun z => c z.symm)] at e
        rcases List.mem_cons.mp ht with z | z
        · exact (c z).elim
        · exact .inl (.inr ⟨t, z, e⟩)
  have mj' : j ∉ i :: own := fun z => by
    rcases List.mem_cons.mp z with z | z
    · exact hij z.symm
    · exact mj z
  have s2 := StR.setO p s1 a1.box mj' (by rw [List.length_set]; exact hl.2) a2.kp hn2 hv2 (r2.less fun q z => z.elim (fun z => .inl (ho q z)) .inr)
  refine ⟨_, _, rfl, k _ H2 s2 a2.box ?_⟩
  have t1 : Stp Ob own σ H (i :: own) (σ.set i (some (.ref p1))) H1 := ⟨a1.kp.mono fun q e => .inl (p.bo q e), dom_of a1.kp a1.box, (Stp.setO (Ob := Ob) (H := H) mi hσ hn1).ow⟩
  have t2 : Stp Ob (i :: own) (σ.set i (some (.ref p1))) H1 (j :: i :: own) ((σ.set i (some (.ref p1))).set j (some (.ref p2))) H2 := ⟨a2.kp.mono fun q e => .inl (p.bo q e), dom_of a2.kp a2.box, (Stp.setO (Ob := Ob) (H := H1) mj' (by rw [List.length_set, s.len]; exact hl.2) hn2).ow⟩
  exact t1.trans t2
end
end MD
end

section
set_option Elab.async false
set_option linter.all false
set_option maxRecDepth 100000
set_option maxHeartbeats 1000000
namespace MD
open PySem PySem.Spec PyProof.Rows L2

/-! ### what may be raised -/
inductive Rs (α : Type) where
  | ok (a : α) | ex (x : D)
/-- a statement's end: as told, or x raised, the names then e -/
inductive Rt where
  | ok (f : Fl) | ex (x : D) (e : Ev)
abbrev Xe := Ev → M (Rs D)
abbrev Xa := Ev → M (Rs (List D))
abbrev Xf := Ev → M Rt
abbrev Fx := List D → M (Rs D)
def ExR (K : PySem.W.Frag) (H : Hp) (x : D) (cls : Value) (d : Option Addr) : Prop := ∃ C n ds, x = excD n ds ∧ cls = .ref C ∧ PySem.W.nsIn K mainGlobals n = some (some (.ref C)) ∧ ExF H d ds
structure AftX (K : PySem.W.Frag) (β : Option Addr) (H : Hp) (bx' : Bx) (x : D) (cls : Value) (d : Option Addr) (H' : Hp) : Prop where
  kp : Kp (bO β) H H'
  box : BoxOk β H' bx'
  ex : ExR K H' x cls d
theorem AftX.pre {K β H H1 bx' x cls d H2} (k : Kp (bO β) H H1) (a : AftX K β H1 bx' x cls d H2) : AftX K β H bx' x cls d H2 := ⟨k.trans a.kp, a.box, a.ex⟩
/-- what an expression's end asks -/
def EndE (K : PySem.W.Frag) (β : Option Addr) (O : Addr → Prop) (H : Hp) (bx' : Bx) (W : XK) (Q : VK) : Rs D → Prop
  | .ok d => ∀ v H', Aft K β O H bx' d false v H' → Q v H'
  | .ex x => ∀ cls d H', AftX K β H bx' x cls d H' → W cls d H'
def EndA (K : PySem.W.Frag) (β : Option Addr) (O : Addr → Prop) (H : Hp) (bx' : Bx) (W : XK) (Q : List V → Hp → Prop) : Rs (List D) → Prop
  | .ok ds => ∀ vs H', AftA K β O H bx' ds vs H' → Q vs H'
  | .ex x => ∀ cls d H', AftX K β H bx' x cls d H' → W cls d H'
structure SXE (X : Cx) (e : Expr) (h : Xe) : Prop where
  run : ∀ W : WX, L2.Takes X W → ∃ t, PE X e t ∧ ∀ β O H σ env bx r bx', EnvR X.K β O H env σ → Pre β O H bx → h env bx = some (r, bx') → ∀ Q : VK, EndE X.K β O H bx' (fun cls d H' => W cls d σ H') Q r → t σ H Q
structure SXA (X : Cx) (es : List Expr) (h : Xa) : Prop where
  run : ∀ W : WX, L2.Takes X W → ∃ t, PA X es t ∧ ∀ β O H σ env bx r bx', EnvR X.K β O H env σ → Pre β O H bx → h env bx = some (r, bx') → ∀ Q : List V → Hp → Prop, EndA X.K β O H bx' (fun cls d H' => W cls d σ H') Q r → t σ H Q
structure SXK (X : Cx) (kws : List Keyword) (h : Xa) : Prop where
  run : ∀ W : WX, L2.Takes X W → ∃ t, PK X kws t ∧ ∀ β O H σ env bx r bx', EnvR X.K β O H env σ → Pre β O H bx → h env bx = some (r, bx') → ∀ Q : List V → Hp → Prop, EndA X.K β O H bx' (fun cls d H' => W cls d σ H') Q r → t σ H Q
def xE (f : Ef) : Xe := fun env => bnd (f env) fun d => ret (.ok d)
def xA (f : Ev → M (List D)) : Xa := fun env => bnd (f env) fun d => ret (.ok d)
def xCons (a : Xe) (as : Xa) : Xa := fun env => bnd (a env) fun r => match r with
  | .ex x => ret (.ex x)
  | .ok d => bnd (as env) fun s => match s with
    | .ex x => ret (.ex x)
    | .ok ds => ret (.ok (d :: ds))
/-- a built-in thing of what the arguments give -/
def xG (g : List D → Option D) (as : Xa) : Xe := fun env => bnd (as env) fun r => match r with
  | .ex x => ret (.ex x)
  | .ok ds => bnd (opt (g ds)) fun d => ret (.ok d)
def xCall (F : Fx) (as : Xa) : Xe := fun env => bnd (as env) fun r => match r with
  | .ex x => ret (.ex x)
  | .ok ds => F ds
def xCallK (is : List Nat) (F : Fx) (as : Xa) : Xe := fun env => bnd (as env) fun r => match r with
  | .ex x => ret (.ex x)
  | .ok ds => F (pick is ds)
/-- a def that raises nothing -/
def noX (F : Ff) : Fx := fun ds => bnd (F ds) fun d => ret (.ok d)
def spX (K : PySem.W.Frag) (F : Fx) : Sp := fun vs H Q E => ∃ β O bx ds r bx', RpA K β O H vs ds ∧ Pre β O H bx ∧ F ds bx = some (r, bx') ∧ EndE K β O H bx' E Q r
theorem ex_inj {α : Type} {x : D} {bx bx' : Bx} {r : Rs α} (h : ret (Rs.ex x) bx = some (r, bx')) : r = .ex x ∧ bx' = bx := by
  have h : some (Rs.ex x, bx) = some (r, bx') := h
  cases h
  exact ⟨rfl, rfl⟩
section
variable {X : Cx}
theorem sxe_of {fr : Bool} {e : Expr} {f : Ef} (A : SE X fr e f) : SXE X e (xE f) := ⟨fun W tk => by
  obtain ⟨t, pe, r⟩ := A.weak.run
  refine ⟨t, pe, fun β O H σ env bx rr bx' E p q Q k => ?_⟩
  obtain ⟨d, bx1, q1, q⟩ := bnd_some q
  have q : some (Rs.ok d, bx1) = some (rr, bx') := q
  cases q
  exact r β O H σ env bx d bx' E p q1 Q k⟩
theorem sxa_of {es : List Expr} {f : Ev → M (List D)} (A : SA X es f) : SXA X es (xA f) := ⟨fun W tk => by
  obtain ⟨t, pe, r⟩ := A.run
  refine ⟨t, pe, fun β O H σ env bx rr bx' E p q Q k => ?_⟩
  obtain ⟨d, bx1, q1, q⟩ := bnd_some q
  have q : some (Rs.ok d, bx1) = some (rr, bx') := q
  cases q
  exact r β O H σ env bx d bx' E p q1 Q k⟩
theorem sxk_of {es : List Keyword} {f : Ev → M (List D)} (A : SK X es f) : SXK X es (xA f) := ⟨fun W tk => by
  obtain ⟨t, pe, r⟩ := A.run
  refine ⟨t, pe, fun β O H σ env bx rr bx' E p q Q k => ?_⟩
  obtain ⟨d, bx1, q1, q⟩ := bnd_some q
  have q : some (Rs.ok d, bx1) = some (rr, bx') := q
  cases q
  exact r β O H σ env bx d bx' E p q1 Q k⟩
theorem sxa_cons {e : Expr} {es : List Expr} {a : Xe} {as : Xa} (A : SXE X e a) (R : SXA X es as) (hs : starEach (e :: es) X.env = (false, eval e X.env) :: starEach es X.env := by rfl) : SXA X (e :: es) (xCons a as) := ⟨fun W tk => by
  obtain ⟨ta, pa, ra⟩ := A.run W tk
  obtain ⟨tb, pb, rb⟩ := R.run W tk
  refine ⟨_, pa_cons pa pb hs, fun β O H σ env bx rr bx' E p q Q k => ?_⟩
  obtain ⟨x, bx1, q1, q⟩ := bnd_some q
  cases x with
  | ex x =>
    obtain ⟨e1, e2⟩ := ex_inj q
    subst e1 e2
    exact ra β O H σ env bx _ bx' E p q1 _ k
  | ok d =>
    obtain ⟨y, bx2, q2, q⟩ := bnd_some q
    refine ra β O H σ env bx _ bx1 E p q1 _ fun v H1 a1 => ?_
    have p1 := p.step a1.kp a1.box
    cases y with
    | ex x =>
      obtain ⟨e1, e2⟩ := ex_inj q
      subst e1 e2
      exact rb β O H1 σ env bx1 _ bx' (E.step (p.kO a1.kp)) p1 q2 _ fun cls d' H2 a2 => k cls d' H2 (a2.pre a1.kp)
    | ok ds =>
      have q : some (Rs.ok (d :: ds), bx2) = some (rr, bx') := q
      cases q
      exact rb β O H1 σ env bx1 _ bx' (E.step (p.kO a1.kp)) p1 q2 _ fun us H2 a2 => k _ H2 ⟨a1.kp.trans a2.kp, a2.box, .cons (a1.rp.kp (p1.kO a2.kp)) a2.rp⟩⟩
theorem sxe_args {e : Expr} {es : List Expr} {fr : Bool} {r : List V → Hp → VK → Prop} {g : List D → Option D} {as : Xa} (A : SXA X es as) (mk : ∀ ta, PA X es ta → PE X e (fun σ H Q => ta σ H fun vs H1 => r vs H1 Q)) (hs : RAS X.K r fr g) : SXE X e (xG g as) := ⟨fun W tk => by
  obtain ⟨ta, pa, ra⟩ := A.run W tk
  refine ⟨_, mk ta pa, fun β O H σ env bx rr bx' E p q Q k => ?_⟩
  obtain ⟨x, bx1, q1, q⟩ := bnd_some q
  cases x with
  | ex x =>
    obtain ⟨e1, e2⟩ := ex_inj q
    subst e1 e2
    exact ra β O H σ env bx _ bx' E p q1 _ k
  | ok ds =>
    obtain ⟨d, q3, q⟩ := bnd_opt q
    have q : some (Rs.ok d, bx1) = some (rr, bx') := q
    cases q
    refine ra β O H σ env bx _ bx' E p q1 _ fun v H1 a1 => ?_
    exact hs β O H1 bx' v ds d (p.step a1.kp a1.box) a1.rp q3 _ fun w H3 a3 => by
      have z := AftA.pre p a1 a3
      exact k w H3 ⟨z.kp, z.box, z.rp, fun w => nomatch w⟩⟩
theorem gLst_sem : RAS X.K (fun xs H1 Q => xs.length ≤ sizeLine ∧ ∀ p, H1 p = none → Q (.ref p) (upd H1 p (.lst xs))) true gLst := fun β O H bx xs ds d p r e Q k => by
  unfold gLst at e
  split at e
  · cases e
    exact ⟨by rw [r.length]; assumption, fun q hq => k _ _ (aft_new_lst p r hq)⟩
  · cases e
theorem gTup_sem : RAS X.K (fun xs H1 Q => xs.length ≤ sizeLine ∧ ∀ p, H1 p = none → Q (.ref p) (upd H1 p (.tup xs))) false gTup := fun β O H bx xs ds d p r e Q k => by
  unfold gTup at e
  split at e
  · cases e
    exact ⟨by rw [r.length]; assumption, fun q hq => k _ _ (aft_new_tup p r hq)⟩
  · cases e
theorem sxe_lst {es : List Expr} {as : Xa} {pos : Pos} (A : SXA X es as) : SXE X (.List es pos) (xG gLst as) := sxe_args A (fun _ pa => pe_lst pa) gLst_sem
theorem sxe_tup {es : List Expr} {x1} {as : Xa} {pos : Pos} (A : SXA X es as) : SXE X (.Tuple es x1 pos) (xG gTup as) := sxe_args A (fun _ pa => pe_tup pa) gTup_sem
theorem EndE.pre {K β O H bx bx1 bx' W Q} {ds : List D} {vs : List V} {H1 : Hp} (p : Pre β O H bx) (a : AftA K β O H bx1 ds vs H1) : ∀ {r : Rs D}, EndE K β O H bx' W Q r → EndE K β O H1 bx' W Q r
  | .ok _, k => fun v H2 b => k v H2 (AftA.pre p a b)
  | .ex _, k => fun cls d H2 b => k cls d H2 (b.pre a.kp)

/-! ### calls of what may raise -/
section
variable {k : Nat} {f : Addr} {fd : FuncData} {ps : List Str} {F : Fx} {x : Str} {p pos : Pos}
theorem sxe_call {e : Expr} {es : List Expr} {as : Xa} (G : FnOk X.prog X.w X.K X.mg X.base (L2.CX X.prog X.w) k f fd ps (spX X.K F)) (hr : Room k X.A) (hm : X.mg x = some (.ref f)) (hk : PySem.W.keepIn X.K (.ref f) = true) (hb : Binds X.K fd ps []) (A : SXA X (e :: es) as)
    (hg : Gl X x := by rfl) (hdb : (x == ("__debug__" : Str)) = false := by decide) (he : starEach (e :: es) X.env = (false, eval e X.env) :: starEach es X.env := by rfl) (hpl : (backTo pos (starEach es X.env)).any (·.1) = false := by rfl) : SXE X (.Call (.Name x p) (e :: es) [] pos) (xCall F as) := ⟨fun W tk => by
  obtain ⟨t, pa, r⟩ := A.run W tk
  refine ⟨_, pe_callS (E := WE W) G hr hg hm hk hb (fun σ => passAt tk σ) pa hdb he hpl, fun β O H σ env bx rr bx' E p q Q k => ?_⟩
  obtain ⟨y, bx1, q1, q⟩ := bnd_some q
  cases y with
  | ex x =>
    obtain ⟨e1, e2⟩ := ex_inj q
    subst e1 e2
    exact r β O H σ env bx _ bx' E p q1 _ k
  | ok ds =>
    refine r β O H σ env bx _ bx1 E p q1 _ fun vs H1 a => ?_
    exact ⟨β, O, bx1, ds, rr, bx', a.rp, p.step a.kp a.box, q, k.pre p a⟩⟩
/-- .. by names alone -/
theorem pe_callKS {CX : CXT} {sp : Sp} {ks : List Str} {E : L2.St → XK} {kws : List Keyword} {tk : TA} {g : List Value → List Value → List Value} {gV : List V → List V → List V} (F : FnOk X.prog X.w X.K X.mg X.base CX k f fd ps sp) (hr : Room k X.A) (hg : Gl X x) (hm : X.mg x = some (.ref f)) (hk : PySem.W.keepIn X.K (.ref f) = true) (hb : KBinds X.K fd ps ks g gV)
    (hx : ∀ σ, PassesAt CX X σ (E σ)) (hkw : PK X kws tk) (hall : (backToKw pos (keywordEach kws X.env)).all (·.1.isSome) = true := by rfl) (hks : (backToKw pos (keywordEach kws X.env)).filterMap (·.1) = ks := by rfl)
    (hdb : (x == ("__debug__" : Str)) = false := by decide) (hpl : ((backTo pos (starEach [] X.env)).any (·.1) || (backToKw pos (keywordEach kws X.env)).any (·.1.isNone)) = false := by rfl) :
    PE X (.Call (.Name x p) [] kws pos) (fun σ H Q => tk σ H fun zs H1 => sp (gV [] zs) H1 Q (E σ)) := by
  refine ⟨fun pins s σ H Q I h => ?_⟩
  refine wpAny_Call_Name_kw (ld_glob I hg hm ?_ hdb)
  refine PySem.W.callWith_KW0 (h₀ := X.base) I.ok.mod.kin hk hall ?_ hpl
  refine thn (hkw.run pos pins s σ H _ I h) fun ws s2 ⟨zs, H2, I2, rz, q2⟩ => ⟨I2.kIn, ?_⟩
  rw [hks]
  have rr := hb.rel (us := []) (vs := []) .nil rz
  have hl : (g [] ws).length = ps.length := by rw [← rr.length]; exact F.len _ _ _ _ q2
  refine wpAny_call (codeAny_mono (F.run X.A X.stack s2 H2 ⟨[], ks.zip ws⟩ (g [] ws) (gV [] zs) Q (E σ) hr I2.env0 (hb.to s2 [] ws I2.kIn hl) rr q2) fun ro s' ho => ?_)
  match ro, ho with
  | .error _, ho => exact hx σ pins H2 s2 _ s' I2 ho
  | .ok (.ret _), ho => exact I2.after ho
theorem sxe_callK {kws : List Keyword} {as : Xa} {ks : List Str} {is : List Nat} (G : FnOk X.prog X.w X.K X.mg X.base (L2.CX X.prog X.w) k f fd ps (spX X.K F)) (hr : Room k X.A) (hm : X.mg x = some (.ref f)) (hk : PySem.W.keepIn X.K (.ref f) = true) (hb : KB X.K fd ps ks is) (A : SXK X kws as)
    (hlen : ∀ env bx ds bx', as env bx = some (.ok ds, bx') → ds.length = ks.length) (hp : ps ≠ [] := by decide) (hg : Gl X x := by rfl)
    (hall : (backToKw pos (keywordEach kws X.env)).all (·.1.isSome) = true := by rfl) (hks : (backToKw pos (keywordEach kws X.env)).filterMap (·.1) = ks := by rfl)
    (hdb : (x == ("__debug__" : Str)) = false := by decide) (hpl : ((backTo pos (starEach [] X.env)).any (·.1) || (backToKw pos (keywordEach kws X.env)).any (·.1.isNone)) = false := by rfl) : SXE X (.Call (.Name x p) [] kws pos) (xCallK is F as) := ⟨fun W tk => by
  obtain ⟨t, pa, r⟩ := A.run W tk
  refine ⟨_, pe_callKS (E := WE W) G hr hg hm hk (hb.binds hp) (fun σ => passAt tk σ) pa hall hks hdb hpl, fun β O H σ env bx rr bx' E p q Q k => ?_⟩
  obtain ⟨y, bx1, q1, q⟩ := bnd_some q
  cases y with
  | ex x =>
    obtain ⟨e1, e2⟩ := ex_inj q
    subst e1 e2
    exact r β O H σ env bx _ bx' E p q1 _ k
  | ok ds =>
    refine r β O H σ env bx _ bx1 E p q1 _ fun vs H1 a => ?_
    have e1 : gK ks.length is [] vs = pick is vs := by
      unfold gK
      rw [if_pos ⟨rfl, by rw [a.rp.length]; exact hlen _ _ _ _ q1⟩]
    show spX X.K F (gK ks.length is [] vs) H1 Q _
    rw [e1]
    exact ⟨β, O, bx1, _, rr, bx', pick_rp a.rp is, p.step a.kp a.box, q, k.pre p a⟩⟩
end
end
end MD
end

section
set_option Elab.async false
set_option linter.all false
set_option maxRecDepth 100000
set_option maxHeartbeats 1000000
namespace MD
open PySem PySem.Spec PyProof.Rows L2

/-! ### a caught exception that is kept -/
section
variable {X : Cx} {pins : List (Addr × Obj)} {σ : L2.St} {H : Hp} {s : Shared}
/-- an object of ours that stands in the heap, tracked from here on -/
theorem inv_track {a : Addr} {o : HO} (I : Inv X pins σ H s) (na : H a = none) (n0 : X.s_0.heap.get? a = none) (nL : a ≠ X.env.locals) (nC : ∀ x c, X.env.cells.lookup x = some c → c ≠ a) (nP : ∀ p ∈ X.pn ++ pins, p.1 ≠ a) (new : ObjOk X.prog X.w (upd H a o) s.heap a o) : Inv X pins σ (upd H a o) s := by
  have old : ∀ {b : Addr} {u : Obj}, X.s_0.heap.get? b = some u → b ≠ a := fun e z => by rw [z, n0] at e; cases e
  have trk : ∀ {b : Addr} {u : HO}, H b = some u → b ≠ a := fun e z => by rw [z, na] at e; cases e
  have up : ∀ {b : Addr}, b ≠ a → upd H a o b = H b := fun h => upd_ne h
  exact {
    ok := I.ok
    os := I.os
    bare := I.bare
    base := {
      keep := I.base.keep
      slot := I.base.slot
      free := fun b u e n hx => (up (old e)).trans (I.base.free b u e n hx)
      there := I.base.there
      tups := fun b xs e => (up (trk (I.base.tups b xs e))).trans (I.base.tups b xs e)
      frzs := fun b u v e => (up (trk (I.base.frzs b u v e))).trans (I.base.frzs b u v e)
      tbls := fun b ps e => (I.base.tbls b ps e).imp fun m z => (up (trk z)).trans z }
    loc := I.loc
    cell := I.cell
    free := (up (Ne.symm nL)).trans I.free
    freeC := fun x c e => (up (nC x c e)).trans (I.freeC x c e)
    pin := fun p hp => ⟨(I.pin p hp).1, (up (nP p hp)).trans (I.pin p hp).2.1, (I.pin p hp).2.2⟩
    hok := fun b u e => by
      by_cases hb : b = a
      · subst hb
        rw [upd_same] at e
        cases e
        exact new
      · rw [up hb] at e
        exact (I.hok b u e).stay (fun _ _ _ z => z) (fun c hc => (up (trk hc)).trans hc) fun c xs hc => (up (trk hc)).trans hc
    len := I.len }
/-- except x as n: y = n; the error stays with y -/
def wKeep (K : PySem.W.Frag) (c : Value) (i j : Nat) (D : Ends) : WX := fun cls d σ H => PySem.W.exmOne K cls c = some true ∧ ∃ C, cls = .ref C ∧ ∀ a, H a = none → D.nx (((σ.set i (some (.ref a))).set j (some (.ref a))).set i none) (upd H a (ExT a C d))
theorem catch_keep {x n y : Str} {c : Value} {i j : Nat} {np q1 q2 q3 pos' : Pos} {D : Ends} {xe : Value → Shared → Prop} (hs : X.stack = X.env :: X.outer) (hf : X.env.frame = some X.env.locals) (hex : X.ex = []) (hN : X.N.Nodup) (hi : X.N[i]? = some n) (hln : X.env.kindOf n = some .local) (hj : X.N[j]? = some y) (hlj : X.env.kindOf y = some .local)
    (hd : (n == ("__debug__" : Str)) = false) (hcd : (n == ("__classdict__" : Str)) = false) (hc : Names X x c) (ok : X.Ok) {u : Value} {s' : Shared} (xx : L2.XE (X.tr (X.pn ++ pins) xe) (wKeep X.K c i j D) u s') :
    wpAny (model X.prog X.w) X.A (noteFrame u X.env) (fun _ s2 => wpAny (model X.prog X.w) X.A (setFlight u none) (fun _ s3 => wpAny (model X.prog X.w) X.A (handleBy u X.env [.ExceptHandler (some (.Name x np)) (some n) [.Assign [.Name y q1] (.Name n q2) q3] pos']) (SP X pins D) X.xe s3) X.xe s2) X.xe s' := by
  obtain ⟨a, B, sI, ps', τ, G, cls, d, hu, Ja, nb, up, sky, na, os, ag, hm, C, hC, fin⟩ := xx
  subst hu hC
  have frs' : X.A.frames = some (X.env :: X.outer) := by rw [← hs]; exact ok.frames
  have J : Inv X pins τ G sI := Inv.ofTry Ja ok
  have sky2 : Sky B (X.env :: X.outer) a (Zc (.ref C) d) X.env.locals s'.heap := hs ▸ sky
  refine Sky.land Zc.steady frs' hf sky2 fun h1 f1 u1 => ?_
  -- the object, and that it is none of what was there
  have at1 : ∀ {h : Heap}, HandSPX.FlyingZ B (X.env :: X.outer) a (Zc (.ref C) d) h → ∃ oe vs, h.get? a = some oe ∧ Zc (.ref C) d oe ∧ oe.data = .fields vs := fun f => f.there
  have notF : a ∉ frs (X.env :: X.outer) := fun mem => by
    obtain ⟨oe, vs, e1, _, e2⟩ := at1 f1
    obtain ⟨_, o2, e3, e4⟩ := f1.2.2.1.mem mem
    rw [e1] at e3
    cases e3
    exact e4 _ e2
  have nL : a ≠ X.env.locals := fun z => notF (by rw [z]; exact List.mem_filterMap.mpr ⟨X.env, List.mem_cons_self, hf⟩)
  have nF : a ∉ X.fs := fun mem => notF (by
    obtain ⟨ev, m1, m2⟩ := List.mem_filterMap.mp mem
    exact List.mem_filterMap.mpr ⟨ev, List.mem_cons_of_mem _ m1, m2⟩)
  have nI : sI.heap.get? a = none := by
    cases e : sI.heap.get? a with
    | none => rfl
    | some o =>
      have z := nb a o e (by rw [show (X.tr (X.pn ++ pins) xe).stack = X.env :: X.outer from hs]; exact notF)
      rw [f1.2.1] at z
      cases z
  have n0 : X.s_0.heap.get? a = none := by
    cases e : X.s_0.heap.get? a with
    | none => rfl
    | some o =>
      obtain ⟨o2, z⟩ := J.base.there a o e (by rw [hex]; exact fun z => nomatch z)
      rw [nI] at z
      cases z
  have nP : ∀ p ∈ X.pn ++ pins, p.1 ≠ a := fun p hp z => by
    have w := (J.pin p hp).1
    rw [z, nI] at w
    cases w
  have land : ∀ {h : Heap}, HandSPX.FlyingZ B (X.env :: X.outer) a (Zc (.ref C) d) h → s'.heap.UpToSlots h → Inv X pins τ G { s' with heap := h } := fun f uu => J.landed nb f.1 (up.trans uu) os ag
  obtain ⟨o1, v1, e1, z1, d1⟩ := at1 f1
  have S1 := (land f1 u1).suite e1 d1 na nL nF
  refine wpAny_handleBy_cons (codeAny_handlers_test ?_) (by intro q; cases q)
  have isCls : PySem.W.Looks (model X.prog X.w) h1 (typeOf (.ref a)) (.ref C) := fun A' Q' E' s2 k q => wpAny_typeOf_ref (k _ _ e1) (by rw [z1.1]; exact q)
  have said : ∀ {Q2 : Value → Shared → Prop} {E2 : Value → Shared → Prop}, Q2 c { s' with heap := h1 } → wpAny (model X.prog X.w) (X.A.mark (some (.ref a))) (eval (.Name x np) X.env) Q2 E2 { s' with heap := h1 } := by
    intro Q2 E2 q
    obtain ⟨g1, g2, g3⟩ := hc
    rcases g3 with g3 | ⟨g3, g4, g5⟩
    · exact ld_glob (X := X.suite a ((a, o1) :: (X.pn ++ pins))) S1 g1 g3 q g2
    · exact ld_blt (X := X.suite a ((a, o1) :: (X.pn ++ pins))) S1 g1 g3 g4 q g5 g2
  refine said ((PySem.W.exm_one (M := model X.prog X.w) (land f1 u1).kIn isCls hm).here ?_)
  refine codeAny_handlers_suite_as (HandSPX.lands_againZ f1 fun h2 f2 u2 => ?_)
  obtain ⟨o2, v2, e2, z2, d2⟩ := at1 f2
  have J2 := land f2 (u1.trans u2)
  refine store_ok (X := X.suite a ((a, o2) :: (X.pn ++ pins))) (v := .ref a) (J2.suite e2 d2 na nL nF) hN hi (.inl hln) rfl (fun s3 S3 => ?_) (.inr hln)
  have body : PSs (X.suite a ((a, o2) :: (X.pn ++ pins))) [.Assign [.Name y q1] (.Name n q2) q3] (tAsg (tVar i) (gName j)) := pss_one (ps_set (X := X.suite a ((a, o2) :: (X.pn ++ pins))) hN hj (.inl hlj) (pe_var hi (.inl hln) hd hcd) rfl (.inr hlj))
  have lt : i < τ.length := by
    have := (List.getElem?_eq_some_iff.mp hi).1
    rw [J.len]
    exact this
  refine wpAny_mono (body.run [] s3 _ G { nx := fun σ6 H6 => σ6 = (τ.set i (some (.ref a))).set j (some (.ref a)) ∧ H6 = G, rt := fun _ _ => False, bk := fun _ _ => False, ct := fun _ _ => False } S3 ?_) (fun fl s4 h4 => ?_) (fun _ _ z => z.elim)
  · exact ⟨_, List.getElem?_set_self lt, rfl, rfl⟩
  · cases fl with
    | next =>
      obtain ⟨σ6, H6, S4, eσ, eH⟩ := h4
      subst eσ eH
      have here := (S4.pin (a, o2) (List.mem_append_left _ List.mem_cons_self)).1
      have J4 := S4.unsuite ok
      have nC : ∀ x c, X.env.cells.lookup x = some c → c ≠ a := fun x c e z => by
        obtain ⟨v, o, w1, w2⟩ := J4.cell x c e
        rw [z, here] at w1
        cases w1
        rw [d2] at w2
        cases w2
      exact gone_ok (inv_track J4 na n0 nL nC nP (exT_ok here z2 d2)) hN hi hln fun s5 J6 => ⟨_, _, J6, fin a na⟩
    | brk =>
      obtain ⟨_, _, _, z⟩ := h4
      exact z.elim
    | cont =>
      obtain ⟨_, _, _, z⟩ := h4
      exact z.elim
    | ret _ =>
      obtain ⟨_, _, _, _, _, z⟩ := h4
      exact z.elim
theorem ps_try_keep {x n y : Str} {c : Value} {i j : Nat} {np q1 q2 q3 pos' pos : Pos} {body : List Stmt} {tb : WX → TS} (hs : X.stack = X.env :: X.outer) (hf : X.env.frame = some X.env.locals) (hex : X.ex = []) (hN : X.N.Nodup) (hi : X.N[i]? = some n) (hln : X.env.kindOf n = some .local) (hj : X.N[j]? = some y) (hlj : X.env.kindOf y = some .local)
    (hd : (n == ("__debug__" : Str)) = false) (hcd : (n == ("__classdict__" : Str)) = false) (hc : Names X x c)
    (hb : ∀ (W : WX) (pn : List (Addr × Obj)) (xe : Value → Shared → Prop), L2.Takes (X.tr pn xe) W → PassesOwn (model X.prog X.w) X.A X.env xe → PSs (X.tr pn xe) body (tb W)) :
    PS X (.Try body [.ExceptHandler (some (.Name x np)) (some n) [.Assign [.Name y q1] (.Name n q2) q3] pos'] [] [] pos) (fun D σ H => tb (wKeep X.K c i j D) D σ H) := by
  refine ⟨fun pins s σ H D I h => ?_⟩
  have ok := I.ok
  refine wpAny_Try_except (wpAny_mono ((hb (wKeep X.K c i j D) (X.pn ++ pins) _ (fun u s' xx => catch_keep hs hf hex hN hi hln hj hlj hd hcd hc ok xx) PassesOwn.looking).run [] s σ H D (I.toTry _) h) (fun fl s1 z => ?_) fun _ _ z => z)
  cases fl with
  | next =>
    obtain ⟨σ', H', J, q⟩ := z
    exact wpAny_execs_nil ⟨σ', H', J.ofTry ok, q⟩
  | brk =>
    obtain ⟨σ', H', J, q⟩ := z
    exact ⟨σ', H', J.ofTry ok, q⟩
  | cont =>
    obtain ⟨σ', H', J, q⟩ := z
    exact ⟨σ', H', J.ofTry ok, q⟩
  | ret u =>
    obtain ⟨v, σ', H', J, r, q⟩ := z
    exact ⟨v, σ', H', J.ofTry ok, r, q⟩
end
end MD
end

section
set_option Elab.async false
set_option linter.all false
set_option maxRecDepth 100000
set_option maxHeartbeats 1000000
namespace MD
open PySem PySem.Spec PyProof.Rows L2

/-! ### statements that may raise -/
def EndS (K : PySem.W.Frag) (β : Option Addr) (Ob : Addr → Prop) (own : List Nat) (σ : L2.St) (H : Hp) (own' lo xo : List Nat) (H0 : Hp) (bx' : Bx) (W : WX) (E : Ends) : Rt → Prop
  | .ok fl => EndOk K β Ob own σ H own' lo H0 fl bx' E
  | .ex x e => ∀ cls d σ' H', StR K β Ob xo H0 H' e σ' → BoxOk β H' bx' → Stp Ob own σ H xo σ' H' → ExR K H' x cls d → W cls d σ' H'
theorem EndS.trans {K β Ob own own1 own' lo xo σ H σ1 H1 H0 bx' W E} (a : Stp Ob own σ H own1 σ1 H1) : ∀ {r : Rt}, EndS K β Ob own σ H own' lo xo H0 bx' W E r → EndS K β Ob own1 σ1 H1 own' lo xo H0 bx' W E r
  | .ok _, k => EndOk.trans a k
  | .ex _ _, k => fun cls d σ' H' s b z => k cls d σ' H' s b (a.trans z)
structure SX (X : Cx) (own own' lo xo : List Nat) (st : Stmt) (h : Xf) : Prop where
  run : ∀ W : WX, L2.Takes X W → ∃ t, PS X st t ∧ ∀ β Ob H0 H σ env bx r bx', PreS β Ob H0 → StR X.K β Ob own H0 H env σ → BoxOk β H bx → h env bx = some (r, bx') → ∀ E : Ends, EndS X.K β Ob own σ H own' lo xo H0 bx' W E r → t E σ H
structure SXs (X : Cx) (own own' lo xo : List Nat) (st : List Stmt) (h : Xf) : Prop where
  run : ∀ W : WX, L2.Takes X W → ∃ t, PSs X st t ∧ ∀ β Ob H0 H σ env bx r bx', PreS β Ob H0 → StR X.K β Ob own H0 H env σ → BoxOk β H bx → h env bx = some (r, bx') → ∀ E : Ends, EndS X.K β Ob own σ H own' lo xo H0 bx' W E r → t E σ H
/-- one reading for all contexts -/
def tS (K : PySem.W.Frag) (own own' lo xo : List Nat) (h : Xf) (W : WX) : TS := fun E σ H => ∃ β Ob H0 env bx r bx', PreS β Ob H0 ∧ StR K β Ob own H0 H env σ ∧ BoxOk β H bx ∧ h env bx = some (r, bx') ∧ EndS K β Ob own σ H own' lo xo H0 bx' W E r
def xS (f : Sf) : Xf := fun env => bnd (f env) fun fl => ret (.ok fl)
def xNx : Xf := fun env => ret (.ok (.nx env))
def xSeq (a b : Xf) : Xf := fun env => bnd (a env) fun r => match r with
  | .ok (.nx e) => b e
  | o => ret o
/-- name = e -/
def xSet (own : List Nat) (i : Nat) (h : Xe) : Xf := fun env => bnd (h (maskE own env)) fun r => match r with
  | .ex x => ret (.ex x env)
  | .ok d => ret (.ok (.nx (env.set i (some d))))
def xRet (h : Xe) : Xf := fun env => bnd (h env) fun r => match r with
  | .ex x => ret (.ex x env)
  | .ok d => ret (.ok (.rt d))
def xDrop (h : Xe) : Xf := fun env => bnd (h env) fun r => match r with
  | .ex x => ret (.ex x env)
  | .ok _ => ret (.ok (.nx env))
def xIf (c : Tf) (a b : Xf) : Xf := fun env => bnd (c env) fun k => if k = true then a env else b env
def xRaise (n : Str) : Xf := fun env => ret (.ex (excD n []) env)
section
variable {X : Cx} {own own' own2 lo xo : List Nat}
theorem SXs.ps {st : List Stmt} {h : Xf} (A : SXs X own own' lo xo st h) {W : WX} (tk : L2.Takes X W) : PSs X st (tS X.K own own' lo xo h W) := by
  obtain ⟨t, pt, r⟩ := A.run W tk
  refine ⟨fun pins s σ H D I z => ?_⟩
  obtain ⟨β, Ob, H0, env, bx, rr, bx', p, st, b, q, k⟩ := z
  exact pt.run pins s σ H D I (r β Ob H0 H σ env bx rr bx' p st b q D k)
theorem sx_of {st : Stmt} {f : Sf} (A : SS X own own' lo st f) : SX X own own' lo xo st (xS f) := ⟨fun W tk => by
  obtain ⟨t, pt, r⟩ := A.run
  refine ⟨t, pt, fun β Ob H0 H σ env bx rr bx' p s b q E k => ?_⟩
  obtain ⟨fl, bx1, q1, q⟩ := bnd_some q
  have q : some (Rt.ok fl, bx1) = some (rr, bx') := q
  cases q
  exact r β Ob H0 H σ env bx fl bx' p s b q1 E k⟩
theorem sxs_of {st : List Stmt} {f : Sf} (A : SSs X own own' lo st f) : SXs X own own' lo xo st (xS f) := ⟨fun W tk => by
  obtain ⟨t, pt, r⟩ := A.run
  refine ⟨t, pt, fun β Ob H0 H σ env bx rr bx' p s b q E k => ?_⟩
  obtain ⟨fl, bx1, q1, q⟩ := bnd_some q
  have q : some (Rt.ok fl, bx1) = some (rr, bx') := q
  cases q
  exact r β Ob H0 H σ env bx fl bx' p s b q1 E k⟩
theorem sxs_nil : SXs X own own lo xo [] xNx := ⟨fun W tk => ⟨_, pss_nil, fun β Ob H0 H σ env bx fl bx' p s b q E k => by
  have q : some (Rt.ok (Fl.nx env), bx) = some (fl, bx') := q
  cases q
  exact k σ H s b .refl⟩⟩
theorem sxs_one {st : Stmt} {f : Xf} (A : SX X own own' lo xo st f) : SXs X own own' lo xo [st] f := ⟨fun W tk => by
  obtain ⟨ta, pa, ra⟩ := A.run W tk
  exact ⟨_, pss_one pa, ra⟩⟩
theorem sxs_cons {st : Stmt} {rest : List Stmt} {f g : Xf} (A : SX X own own' lo xo st f) (B : SXs X own' own2 lo xo rest g) : SXs X own own2 lo xo (st :: rest) (xSeq f g) := ⟨fun W tk => by
  obtain ⟨ta, pa, ra⟩ := A.run W tk
  obtain ⟨tb, pb, rb⟩ := B.run W tk
  refine ⟨_, pss_cons pa pb, fun β Ob H0 H σ env bx rr bx' p s b q E k => ?_⟩
  obtain ⟨r1, bx1, q1, q⟩ := bnd_some q
  refine ra β Ob H0 H σ env bx r1 bx1 p s b q1 _ ?_
  match r1, q with
  | .ok (.nx e), q => exact fun σ1 H1 s1 b1 z => rb β Ob H0 H1 σ1 e bx1 rr bx' p s1 b1 q E (k.trans z)
  | .ok (.ct e), q => have q : some (Rt.ok (Fl.ct e), bx1) = some (rr, bx') := q; cases q; exact k
  | .ok (.bk e), q => have q : some (Rt.ok (Fl.bk e), bx1) = some (rr, bx') := q; cases q; exact k
  | .ok (.rt d), q => have q : some (Rt.ok (Fl.rt d), bx1) = some (rr, bx') := q; cases q; exact k
  | .ex x e, q => have q : some (Rt.ex x e, bx1) = some (rr, bx') := q; cases q; exact k⟩
/-- fewer own slots from here on -/
theorem SX.less {st : Stmt} {f : Xf} (A : SX X own' own2 lo xo st f) (h : ∀ i ∈ own', i ∈ own := by decide) : SX X own own2 lo xo st f := ⟨fun W tk => by
  obtain ⟨t, pe, r⟩ := A.run W tk
  exact ⟨t, pe, fun β Ob H0 H σ env bx rr bx' p s b q E k => r β Ob H0 H σ env bx rr bx' p (s.drop h) b q E (k.trans (Stp.drop h))⟩⟩
theorem raised {K β Ob H0 H env σ bx' x cls d H'} (p : PreS β Ob H0) (s : StR K β Ob own H0 H env σ) (a : AftX K β H bx' x cls d H') (hx : ∀ i ∈ xo, i ∈ own) : StR K β Ob xo H0 H' env σ ∧ Stp Ob own σ H xo σ H' :=
  ⟨(s.after p a.kp).drop hx, (Stp.after p a.kp a.box).trans (Stp.drop hx)⟩
theorem sx_set {i : Nat} {y : Str} {e : Expr} {h : Xe} {pos' pos : Pos} (hN : X.N.Nodup) (A : SXE X e h) (m : i ∉ own := by decide) (hx : ∀ i ∈ xo, i ∈ own := by decide) (hi : X.N[i]? = some y := by rfl) (hy : Loc X.env.scope y := by first | exact Or.inl rfl | exact Or.inr rfl) (hs : swapsWith e (some (.Name y pos')) pos.line X.env = pure false := by rfl)
    (hf : X.fn y = true ∨ X.env.scope.names.lookup y = some .local := by first | exact .inl rfl | exact .inr rfl) : SX X own own lo xo (.Assign [.Name y pos'] e pos) (xSet own i h) := ⟨fun W tk => by
  obtain ⟨t, pe, r⟩ := A.run W tk
  refine ⟨_, ps_set hN hi hy pe hs hf, fun β Ob H0 H σ env bx rr bx' p s b q E k => ?_⟩
  obtain ⟨r1, bx1, q1, q⟩ := bnd_some q
  refine r β (Ow Ob own σ) H σ (maskE own env) bx r1 bx1 s.envM (s.preM p b) q1 _ ?_
  cases r1 with
  | ex x =>
    have q : some (Rt.ex x env, bx1) = some (rr, bx') := q
    cases q
    intro cls d H1 a
    obtain ⟨h1, h2⟩ := raised p s a hx
    exact k cls d σ H1 h1 a.box h2 a.ex
  | ok d =>
    have q : some (Rt.ok (Fl.nx (env.set i (some d))), bx1) = some (rr, bx') := q
    cases q
    exact fun v H1 a => k _ H1 ((s.after p a.kp).set m a.rp) a.box ((Stp.after p a.kp a.box).trans (Stp.set m))⟩
theorem sx_ret {e : Expr} {pos : Pos} {h : Xe} (A : SXE X e h) (hx : ∀ i ∈ xo, i ∈ own := by decide) : SX X own own' lo xo (.Return (some e) pos) (xRet h) := ⟨fun W tk => by
  obtain ⟨t, pe, r⟩ := A.run W tk
  refine ⟨_, ps_ret pe, fun β Ob H0 H σ env bx rr bx' p s b q E k => ?_⟩
  obtain ⟨r1, bx1, q1, q⟩ := bnd_some q
  refine r β Ob H σ env bx r1 bx1 s.envV (s.preV p b) q1 _ ?_
  cases r1 with
  | ex x =>
    have q : some (Rt.ex x env, bx1) = some (rr, bx') := q
    cases q
    intro cls d H1 a
    obtain ⟨h1, h2⟩ := raised p s a hx
    exact k cls d σ H1 h1 a.box h2 a.ex
  | ok d =>
    have q : some (Rt.ok (Fl.rt d), bx1) = some (rr, bx') := q
    cases q
    exact fun v H1 a => k v H1 (s.frame.trans a.kp) a.box a.rp⟩
theorem sx_drop {e : Expr} {pos : Pos} {h : Xe} (A : SXE X e h) (hx : ∀ i ∈ xo, i ∈ own := by decide) (hs : swapsWith e none pos.line X.env = pure false := by rfl) : SX X own own lo xo (.Expr e pos) (xDrop h) := ⟨fun W tk => by
  obtain ⟨t, pe, r⟩ := A.run W tk
  refine ⟨_, ps_expr pe hs, fun β Ob H0 H σ env bx rr bx' p s b q E k => ?_⟩
  obtain ⟨r1, bx1, q1, q⟩ := bnd_some q
  refine r β Ob H σ env bx r1 bx1 s.envV (s.preV p b) q1 _ ?_
  cases r1 with
  | ex x =>
    have q : some (Rt.ex x env, bx1) = some (rr, bx') := q
    cases q
    intro cls d H1 a
    obtain ⟨h1, h2⟩ := raised p s a hx
    exact k cls d σ H1 h1 a.box h2 a.ex
  | ok d =>
    have q : some (Rt.ok (Fl.nx env), bx1) = some (rr, bx') := q
    cases q
    exact fun v H1 a => k σ H1 (s.after p a.kp) a.box (Stp.after p a.kp a.box)⟩
theorem sx_if {c : Expr} {a b : List Stmt} {fc : Tf} {f g : Xf} {pos : Pos} (C : ST X c fc) (A : SXs X own own' lo xo a f) (B : SXs X own own' lo xo b g) : SX X own own' lo xo (.If c a b pos) (xIf fc f g) := ⟨fun W tk => by
  obtain ⟨tc, pc, rc⟩ := C.run
  obtain ⟨ta, pa, ra⟩ := A.run W tk
  obtain ⟨tb, pb, rb⟩ := B.run W tk
  refine ⟨_, ps_if pc pa pb, fun β Ob H0 H σ env bx rr bx' p s b q E k => ?_⟩
  obtain ⟨x, bx1, q1, q⟩ := bnd_some q
  refine rc β Ob H σ env bx x bx1 s.envV (s.preV p b) q1 _ fun H1 a1 b1 => ?_
  have st := Stp.after (own := own) (σ := σ) p a1 b1
  cases x with
  | true => exact iteT (ra β Ob H0 H1 σ env bx1 rr bx' p (s.after p a1) b1 q E (k.trans st))
  | false => exact iteF (rb β Ob H0 H1 σ env bx1 rr bx' p (s.after p a1) b1 q E (k.trans st))⟩
/-- raise n(): what makes it tracks nothing -/
theorem sx_raise {e : Expr} {pos : Pos} {n : Str} {C : Addr} (hc : X.calm = true) (mk : L2.PMk X e (fun _ H Q => Q (.ref C) none H)) (hn : PySem.W.nsIn X.K mainGlobals n = some (some (.ref C))) (hx : ∀ i ∈ xo, i ∈ own := by decide) : SX X own own' lo xo (.Raise (some e) none pos) (xRaise n) := ⟨fun W tk => by
  refine ⟨_, L2.ps_raise hc tk mk, fun β Ob H0 H σ env bx rr bx' p s b q E k => ?_⟩
  have q : some (Rt.ex (excD n []) env, bx) = some (rr, bx') := q
  cases q
  exact k _ _ σ H (s.drop hx) b (Stp.drop hx) ⟨C, n, [], rfl, rfl, hn, .inl ⟨rfl, rfl⟩⟩⟩

/-! ### a def that may raise -/
def endX (m : M Rt) : M (Rs D) := bnd m fun r => match r with
  | .ex x _ => ret (.ex x)
  | .ok (.rt d) => ret (.ok d)
  | .ok (.nx _) => ret (.ok .none)
  | _ => fail
def mkX (n N : Nat) (body : Xf) : Fx := fun ds => if ds.length = n then endX (body (ds.map some ++ List.replicate (N - n) none)) else fail
theorem mkX_len {n N : Nat} {body : Xf} {ds : List D} {bx : Bx} {r : Rs D × Bx} (h : mkX n N body ds bx = some r) : ds.length = n := by
  unfold mkX at h
  by_cases c : ds.length = n
  · exact c
  · rw [if_neg c] at h; cases h
section
variable {P : Program} {w : World} {K : PySem.W.Frag} {mg : Str → Option Value} {base : Heap}
theorem def_okX {x qual : Str} {st : Stmt} {f : Addr} {fd : FuncData} {N ps : List Str} {k n m : Nat} {own' xo : List Nat} {body : Xf} (hn : ps.length = n) (hm : N.length = m) (F : Fun K x qual st f fd) (S : FnScope N ps (defScope st))
    (B : ∀ (cdv : Value) (A : Around) (outer : List Env) (s : Shared) (H : Hp) (E : XK), Room k (A.deeper (envOfC qual (defScope st) s.heap.objs.size f cdv)) →
      SXs (cxOf (L2.CX P w) P w K mg base N qual (defScope st) f cdv A outer s H E) [] own' [] xo (defBody st) body) : FnOk P w K mg base (L2.CX P w) (k + 1) f fd ps (spX K (mkX n m body)) := by
  subst hn hm
  refine F.okX S (fun vs H Q E h => ?_) (fun cdv A outer s H vs Q E hr h => ?_)
  · obtain ⟨β, O, bx, ds, d, bx', r, p, q, _⟩ := h
    rw [r.length]
    exact mkX_len q
  · obtain ⟨β, O, bx, ds, r0, bx', r, p, q, k⟩ := h
    obtain ⟨t, pt, rd⟩ := (B cdv A outer s H E hr).run (fun cls d _ H' => E cls d H') (L2.takes_of rfl rfl rfl rfl)
    refine ⟨t, pt, ?_⟩
    have hl := mkX_len q
    unfold mkX at q
    rw [if_pos hl] at q
    obtain ⟨fl, bx1, q1, q2⟩ := bnd_some q
    obtain ⟨pS, sS⟩ := StR.start p r (N.length - ps.length)
    have es : L2.start N vs = vs.map some ++ List.replicate (N.length - ps.length) none := by
      unfold L2.start
      rw [r.length, hl]
    rw [es]
    refine rd β O H H _ _ bx fl bx1 pS sS p.box q1 _ ?_
    match fl, q2 with
    | .ok (.nx e), q2 =>
      have q2 : some (Rs.ok PyData.none, bx1) = some (r0, bx') := q2
      cases q2
      exact fun σ' H' s' b' z => k .non H' ⟨s'.frame, b', .non, fun z => nomatch z⟩
    | .ok (.rt e), q2 =>
      have q2 : some (Rs.ok e, bx1) = some (r0, bx') := q2
      cases q2
      exact fun v H' a b c => k v H' ⟨a, b, c, fun z => nomatch z⟩
    | .ok (.bk e), q2 => cases q2
    | .ok (.ct e), q2 => cases q2
    | .ex x e, q2 =>
      have q2 : some (Rs.ex x, bx1) = some (r0, bx') := q2
      cases q2
      exact fun cls d σ' H' s' b' z x => k cls d H' ⟨s'.frame, b', x⟩
end

/-! ### try: body, except n as a: b = a -/
def isX (n : Str) : D → Bool
  | .dict ((.bool true, .str m) :: _) => decide (m = n)
  | _ => false
def sTryK (i j : Nat) (n : Str) (h : Xf) : Sf := fun env => bnd (h env) fun r => match r with
  | .ok fl => ret fl
  | .ex x e => if isX n x = true then ret (.nx (((e.set i (some x)).set j (some x)).set i none)) else fail
theorem StR.unset {K β Ob H0 H env σ} {i : Nat} (s : StR K β Ob own H0 H env σ) (m : i ∉ own) : StR K β Ob own H0 H (env.set i none) (σ.set i none) := by
  have ho : ∀ q, Ow Ob own (σ.set i none) q → Ow Ob own σ q := by
    rintro q (z | ⟨j, hj, e⟩)
    · exact .inl z
    · rw [List.getElem?_set_ne (nem m hj)] at e
      exact .inr ⟨j, hj, e⟩
  refine ⟨by simpa using s.len, fun j e mj h => ?_, fun j mj => ?_, fun j k p a b => ?_, s.frame⟩
  · by_cases c : i = j
    · subst c
      by_cases hl : i < env.length
      · rw [List.getElem?_set_self hl] at h
        cases h
      · rw [List.getElem?_eq_none (by simpa using hl)] at h; cases h
    · rw [List.getElem?_set_ne c] at h ⊢
      obtain ⟨w, a, b⟩ := s.imm j e mj h
      exact ⟨w, a, b.less ho⟩
  · have c : i ≠ j := nem m mj
    rw [List.getElem?_set_ne c, List.getElem?_set_ne c]
    obtain ⟨q, vs, ds, e1, e2, e3, e4, e5, e6⟩ := s.ownd j mj
    exact ⟨q, vs, ds, e1, e2, e3, e4.less ho, e5, e6⟩
  · rw [List.getElem?_set_ne (nem m a), List.getElem?_set_ne (nem m b)]
    exact s.inj j k p a b
theorem Stp.unset {Ob σ H} {i : Nat} (m : i ∉ own) : Stp Ob own σ H own (σ.set i none) H := ⟨.refl, fun q o h => ⟨o, h⟩, by
  rintro q (z | ⟨j, hj, e⟩)
  · exact .inl (.inl z)
  · rw [List.getElem?_set_ne (nem m hj)] at e
    exact .inl (.inr ⟨j, hj, e⟩)⟩
theorem ss_try {c a b : Str} {C : Addr} {i j : Nat} {np q1 q2 q3 pos' pos : Pos} {body : List Stmt} {h : Xf} (hN : X.N.Nodup) (hn : PySem.W.nsIn X.K mainGlobals c = some (some (.ref C))) (hm : X.mg c = some (.ref C)) (he : PySem.W.exmOne X.K (.ref C) (.ref C) = some true)
    (B : ∀ (pn : List (Addr × Obj)) (xe : Value → Shared → Prop), PassesOwn (model X.prog X.w) X.A X.env xe → SXs (X.tr pn xe) own own' lo own' body h)
    (mi : i ∉ own' := by decide) (mj : j ∉ own' := by decide) (hs : X.stack = X.env :: X.outer := by rfl) (hf : X.env.frame = some X.env.locals := by rfl) (hex : X.ex = [] := by rfl) (hi : X.N[i]? = some a := by rfl) (hli : X.env.kindOf a = some .local := by rfl) (hj : X.N[j]? = some b := by rfl) (hlj : X.env.kindOf b = some .local := by rfl)
    (hg : Gl X c := by rfl) (hd : (a == ("__debug__" : Str)) = false := by decide) (hcd : (a == ("__classdict__" : Str)) = false := by decide) (hcc : (c == ("__debug__" : Str)) = false := by decide) :
    SS X own own' lo (.Try body [.ExceptHandler (some (.Name c np)) (some a) [.Assign [.Name b q1] (.Name a q2) q3] pos'] [] [] pos) (sTryK i j c h) := by
  refine ⟨_, ps_try_keep (tb := tS X.K own own' lo own' h) hs hf hex hN hi hli hj hlj hd hcd ⟨hg, hcc, .inl hm⟩ (fun W pn xe tk po => (B pn xe po).ps tk), fun β Ob H0 H σ env bx fl bx' p s b q E k => ?_⟩
  obtain ⟨r, bx1, q1, q⟩ := bnd_some q
  refine ⟨β, Ob, H0, env, bx, r, bx1, p, s, b, q1, ?_⟩
  cases r with
  | ok f =>
    have q : some (f, bx1) = some (fl, bx') := q
    cases q
    exact k
  | ex x e =>
    have q : (if isX c x = true then ret (Fl.nx (((e.set i (some x)).set j (some x)).set i none)) else fail) bx1 = some (fl, bx') := q
    by_cases hx : isX c x = true
    case neg => rw [if_neg hx] at q; cases q
    rw [if_pos hx] at q
    have q : some (Fl.nx (((e.set i (some x)).set j (some x)).set i none), bx1) = some (fl, bx') := q
    cases q
    intro cls d σ' H' s' b' z x0
    obtain ⟨C', n, ds, rfl, rfl, hn', fx⟩ := x0
    have en : n = c := of_decide_eq_true hx
    subst en
    rw [hn] at hn'
    cases hn'
    refine ⟨he, C, rfl, fun a0 na => ?_⟩
    have hb : β ≠ some a0 := fun w => by
      obtain ⟨xs, w2⟩ := b'.there w
      rw [na] at w2; cases w2
    have kn : Kp (bO β) H' (upd H' a0 (ExT a0 C d)) := Kp.new na
    have bn : BoxOk β (upd H' a0 (ExT a0 C d)) bx' := b'.upd hb
    have s1 := s'.after p kn
    have rx : ∀ τ, Rp X.K β (Ow Ob own' τ) (upd H' a0 (ExT a0 C d)) (.ref a0) (excD n ds) := fun τ => .exc hn upd_same (fx.kp kn)
    have s2 := ((s1.set mi (rx _)).set mj (rx _)).unset mi
    exact k _ _ s2 bn (((z.trans (Stp.after p kn bn)).trans ((Stp.set mi).trans (Stp.set mj))).trans (Stp.unset mi))
end
end MD
end

section
set_option Elab.async false
set_option linter.all false
set_option maxRecDepth 100000
set_option maxHeartbeats 2000000
namespace MD
open PySem PySem.Spec PyProof.Rows L2

/-! ### classes of errors: what the written part says -/
/-- how its instances are asked -/
structure XC (K : PySem.W.Frag) (n : Str) (C : Addr) : Prop where
  nm : PySem.W.nsIn K mainGlobals n = some (some (.ref C))
  cl : (PySem.W.clsIn K C).isSome = true
  ga : PySem.W.findIn K (.ref C) "__getattribute__" = some (some (.builtin "BaseException.__getattribute__"))
  gg : PySem.W.findIn K (.ref C) "__getattr__" = some none
  sub : PySem.W.subIn K (.ref C) (.type "BaseException") = some true
  ca : PySem.W.findIn K (.ref C) "__class__" = some (some (.builtin "object.__class__"))
  sp : PySem.W.specialIn K (.builtin "object.__class__") "__get__" = some (some (.builtin "getset_descriptor.__get__"))
  tk : PySem.W.takesIn K (.builtin "object.__class__") = some true
  ob : PySem.W.mroIn K C (.type "object") = some true
/-- how its instances are made -/
structure XM (K : PySem.W.Frag) (C : Addr) (bmB : List Value) (newId : String) : Prop where
  q : PySem.W.excInitIn K C bmB newId = true
  ov : PySem.W.excOver K C bmB = true
  sa : PySem.W.findIn K (.ref C) "__setattr__" = some (some (.builtin "object.__setattr__"))
  sub : PySem.W.subIn K (.ref C) (.type "BaseException") = some true
  ty : PySem.W.typeIn K (.ref C) = some (.type "type")
  kp : PySem.W.keepIn K (.ref C) = true
section
variable {X : Cx} {pins : List (Addr × Obj)} {σ : L2.St} {H : Hp} {s : Shared} {a C : Addr}
theorem inst_of {d : Option Addr} {ds : List (D × D)} (I : Inv X pins σ H s) (e : H a = some (ExT a C d)) (f : ExF H d ds) : ∃ oe od, PySem.W.InstAt s.heap a oe C od ∧ (∀ dx, d = some dx → ∃ o, od = some o ∧ s.heap.get? dx = some o) := by
  obtain ⟨oe, vs, h1, ⟨h2, h3⟩, h4⟩ := exT_at I.hok e
  rcases f with ⟨rfl, _⟩ | ⟨dx, g, v, u, rfl, f2, _⟩
  · exact ⟨oe, none, ⟨h1, h2, by unfold PySem.W.notCls; rw [h4] <;> rfl, by rw [h3]; exact trivial⟩, fun _ z => nomatch z⟩
  · have x : ObjOk X.prog X.w H s.heap dx (.xd [(g, v)]) := I.hok dx _ f2
    obtain ⟨mA, ⟨o, es, ep, ho, _⟩, _⟩ := x
    exact ⟨oe, some o, ⟨h1, h2, by unfold PySem.W.notCls; rw [h4] <;> rfl, by rw [h3]; exact ho⟩, fun dx' z => by cases z; exact ⟨o, rfl, ho⟩⟩

/-! ### isinstance of an error -/
def rIsX (K : PySem.W.Frag) : List V → Hp → VK → Prop := fun xs H Q => ∃ (a C : Addr) (d : Option Addr) (n : Str) (ds : List (D × D)) (c : V) (cv : Value) (b : Bool), xs = [.ref a, c] ∧ H a = some (ExT a C d) ∧ ExF H d ds ∧ (∀ u, RelV c u → u = cv) ∧ XC K n C ∧ PySem.W.kitOne K (.ref C) cv = some b ∧ Q (.bl b) H
theorem call_isX : CallR X (.builtin "isinstance") (rIsX X.K) := by
  intro pins s σ H xs us Q I r h
  obtain ⟨a, C, d, n, ds, c, cv, b, rfl, h1, h2, h3, T, h4, q⟩ := h
  match us, r with
  | [u1, u2], .cons ra (.cons rc .nil) =>
    have e1 : u1 = .ref a := ra
    have e2 := h3 _ rc
    subst e1 e2
    obtain ⟨oe, od, J, _⟩ := inst_of I h1 h2
    exact PySem.W.kia_one (PySem.W.kitx_exc T.cl T.ga T.gg T.sub T.ca T.sp T.tk T.ob) I.kIn J h4 (fun z => nomatch z) fun tk => ⟨.bl b, H, I.kept (t' := tk) fun _ _ z => z, rfl, q⟩
def isXD (tab : Str → Str → Option Bool) (c : Str) : D → Option D
  | .dict ((.bool true, .str n) :: _) => (tab n c).map .bool
  | _ => none
theorem isXD_inv {tab : Str → Str → Option Bool} {c : Str} {x d : D} (h : isXD tab c x = some d) : ∃ n ds b, x = excD n ds ∧ tab n c = some b ∧ d = .bool b := by
  unfold isXD at h
  split at h
  · rename_i n ds
    cases z : tab n c with
    | none => rw [z] at h; cases h
    | some b => rw [z] at h; cases h; exact ⟨_, _, b, rfl, z, rfl⟩
  · cases h
theorem se_isXG {ea ec : Expr} {fa : Bool} {f : Ef} {c : Str} {cv : V} {cu : Value} {tab : Str → Str → Option Bool} {p pos : Pos} (A : SE X fa ea f) (pc : PE X ec (tC cv)) (hcv : ∀ u, RelV cv u → u = cu) (hT : ∀ n C b, PySem.W.nsIn X.K mainGlobals n = some (some (.ref C)) → tab n c = some b → XC X.K n C ∧ PySem.W.kitOne X.K (.ref C) cu = some b) (hm : X.mg "isinstance" = none) (hg : Gl X "isinstance" := by rfl)
    (he : starEach [ea, ec] X.env = (false, eval ea X.env) :: starEach [ec] X.env := by rfl) (hpl : (backTo pos (starEach [ec] X.env)).any (·.1) = false := by rfl) (he2 : starEach [ec] X.env = (false, eval ec X.env) :: starEach [] X.env := by rfl) :
    SE X false (.Call (.Name "isinstance" p) [ea, ec] [] pos) (e1 (isXD tab c) f) := by
  obtain ⟨ta, pa, ra⟩ := A.run
  refine ⟨_, pe_callB call_isX hg hm (by decide +kernel) (pa_cons pa (pa_cons pc pa_nil he2) he) (by decide) (by decide) he hpl, fun β O H σ env bx d bx' E p q Q k => ?_⟩
  obtain ⟨x, bx1, q1, q⟩ := bnd_some q
  obtain ⟨q3, q4⟩ := opt_some q
  have q4 : bx' = bx1 := q4
  subst q4
  refine ra β O H σ env bx x bx' E p q1 _ fun v H1 a1 => ?_
  obtain ⟨n, ds, b, rfl, hb, rfl⟩ := isXD_inv q3
  cases a1.rp with
  | @exc a0 C _ d0 _ h1 h2 h3 =>
    obtain ⟨T, hk⟩ := hT n C b h1 hb
    exact ⟨a0, C, d0, n, ds, cv, cu, b, rfl, h2, h3, hcv, T, hk, k _ H1 ⟨a1.kp, a1.box, .bl _, fun z => nomatch z⟩⟩
/-- .. for a built-in class -/
theorem se_isX {ea : Expr} {fa : Bool} {f : Ef} {c : String} {cn : Str} {tab : Str → Str → Option Bool} {p pos pc : Pos} (A : SE X fa ea f) (hm : X.mg "isinstance" = none) (hmc : X.mg cn = none) (hT : ∀ n C b, PySem.W.nsIn X.K mainGlobals n = some (some (.ref C)) → tab n cn = some b → XC X.K n C ∧ PySem.W.kitOne X.K (.ref C) (.type c) = some b)
    (hvc : bootBuiltins cn = some (.type c) := by decide +kernel) (hg : Gl X "isinstance" := by rfl) (hgc : Gl X cn := by rfl) (hn : cn ≠ "__name__" := by decide) (hdb : (cn == ("__debug__" : Str)) = false := by decide)
    (he : starEach [ea, .Name cn pc] X.env = (false, eval ea X.env) :: starEach [.Name cn pc] X.env := by rfl) (hpl : (backTo pos (starEach [.Name cn pc] X.env)).any (·.1) = false := by rfl) (he2 : starEach [.Name cn pc] X.env = (false, eval (.Name cn pc) X.env) :: starEach [] X.env := by rfl) :
    SE X false (.Call (.Name "isinstance" p) [ea, .Name cn pc] [] pos) (e1 (isXD tab cn) f) :=
  se_isXG A (pe_bltn (v := .ty c) hgc hmc hvc rfl hn hdb) (fun _ r => r) hT hm hg he hpl he2
end
end MD
end

section
set_option Elab.async false
set_option linter.all false
set_option maxRecDepth 100000
set_option maxHeartbeats 4000000
namespace MD
open PySem PySem.Spec PyProof.Rows L2 Builtin Builtin.ObjectAttr

/-! ### an error's __init__ -/
section
variable {X : Cx} {pins : List (Addr × Obj)} {σ : L2.St} {H : Hp} {s : Shared} {a C : Addr} {B newId initId : String} {bmB : List Value}
theorem base_init {us : List Value} {Q : Value → Shared → Prop} {E : Value → Shared → Prop} {A : Around} (FB : ExcBaseFacts B newId initId bmB) (qI : PySem.W.excInitIn X.K C bmB newId = true) (I : Inv X pins σ H s) (e : H a = some (exo a C none)) (hl : us.length ≤ sizeLine) (h : ∀ s', Inv X pins σ H s' → Q .none s') : wpAny (model X.prog X.w) A (call (.builtin initId) (.ref a :: us)) Q E s := by
  obtain ⟨n0, n1, n2, n3, bm, n4, n5, n6, n7, n8, n9, k0, k1, k2, k3, k5, atC, tail⟩ := PySem.W.excInit_of I.kIn qI
  obtain ⟨t1, atA⟩ := exo_at I.hok e
  obtain ⟨hp, g, d, t, os⟩ := s
  have same : upd H a (exo a C none) = H := funext fun b => by
    by_cases c : b = a
    · rw [c, upd_same, e]
    · exact upd_ne c
  refine wpAny_call (PySem.HandSPX.init_base FB tail atC atA hl fun h2 t2 kp there => h _ ?_)
  have J := I.write (t' := t) (o := exo a C none) (by rw [e]; trivial) (.inl rfl) kp ⟨_, there⟩ (exo_ok there)
  rw [same] at J
  exact J
/-- B.__init__(self, ..), self a new error of the class at C -/
def tBI (C : Addr) (ta : TA) : TE := fun σ H Q => ta σ H fun vs H1 => ∃ a ws, vs = .ref a :: ws ∧ ws.length ≤ 1000 ∧ H1 a = some (exo a C none) ∧ Q .non H1
theorem pe_bi {Bn : Str} {e : Expr} {es : List Expr} {ta : TA} {p1 p2 pos : Pos} {pl : Sem Bool} (FB : ExcBaseFacts B newId initId bmB) (qI : PySem.W.excInitIn X.K C bmB newId = true) (hm : X.mg Bn = none) (vV : PySem.W.findCls X.K (.type B) (.type "type") "__init__" = some (.val (.builtin initId))) (ha : PA X (e :: es) ta)
    (hty : typeOf (.type B) = pure (.type "type") := by kernel_rfl) (hst : Manifest.isStub B = false := by decide +kernel) (hin : PySem.W.handedIn (.builtin initId) = true := by decide +kernel) (hv : bootBuiltins Bn = some (.type B) := by decide +kernel) (hg : Gl X Bn := by rfl) (hn : Bn ≠ "__name__" := by decide) (hdb : (Bn == ("__debug__" : Str)) = false := by decide)
    (hc : eval (.Call (.Attribute (.Name Bn p1) "__init__" p2) (e :: es) [] pos) X.env = (eval (.Name Bn p1) X.env >>= fun ov => standAt p2.atName >>= fun _ => holding [ov] (getMethod ov "__init__" pl) >>= fun m => callWith pos m.1 m.2 (backTo pos (starEach (e :: es) X.env)) (backToKw pos (keywordEach [] X.env))) := by rfl)
    (he : starEach (e :: es) X.env = (false, eval e X.env) :: starEach es X.env := by rfl) (hpl : (backTo pos (starEach es X.env)).any (·.1) = false := by rfl) :
    PE X (.Call (.Attribute (.Name Bn p1) "__init__" p2) (e :: es) [] pos) (tBI C ta) := by
  refine ⟨fun pins s σ H Q I h => PySem.W.methodCall_KW (ld_blt I hg hm hv ?_ hn hdb) hc⟩
  obtain ⟨m, fr⟩ := I.fr
  refine PySem.W.method_type fr I.ok.mod.kin hty hst vV hin ?_
  show wpAny _ _ (callWith pos (Value.builtin initId) [] _ _) _ _ _
  refine PyProof.Rows.callWith_method1 (thn (ha.run pos pins _ σ H _ (I.tok _) h) fun us s1 hu => ?_) he hpl
  obtain ⟨vs, H1, I1, r1, a, ws, ev, hl, ea, q⟩ := hu
  subst ev
  match us, r1 with
  | u0 :: ur, .cons r0 rr =>
    have e0 : u0 = .ref a := r0
    subst e0
    exact base_init FB qI I1 ea (by rw [← Paired.length rr, sizeLine_eq]; omega) fun s' J => ⟨.non, H1, J, rfl, q⟩
/-- self.f = u, the first field -/
theorem err_store {f : Str} {y : V} {u : Value} {Q : Unit → Shared → Prop} {E : Value → Shared → Prop} {A : Around} (SF : StoreFacts B bmB "object.__setattr__" "object") (T : XM X.K C bmB newId) (hd : PySem.W.hasDictIn X.K C = true) (ht : PySem.W.takerIn X.K C f = some none) (I : Inv X pins σ H s) (e : H a = some (exo a C none)) (ry : RelV y u)
    (h : ∀ dx s', H dx = none → dx ≠ a → Inv X pins σ (upd (upd H dx (exd dx [(f, y)])) a (exo a C (some dx))) s' → Q () s') : wpAny (model X.prog X.w) A (setAttr (.ref a) f u) Q E s := by
  obtain ⟨cd, hcd, hdct⟩ := PySem.W.any_some hd
  obtain ⟨t1, atA⟩ := exo_at I.hok e
  obtain ⟨hp, g, d, t, os⟩ := s
  have inst : PySem.W.InstAt hp a { cls := .ref C, dict := none, data := .fields #[.ref t1, .none, .none, .none, .bool false, .none] } C none := ⟨atA, rfl, rfl, trivial⟩
  refine PySem.W.set_plain I.kIn inst T.sa (PySem.W.osa_openX (s := ⟨hp, g, d, t + 1, os⟩) SF I.kIn inst T.ov ht fun b => ?_)
  have cls : PySem.W.Looks (model X.prog X.w) hp (classData C) cd := PySem.W.looks_clsIn I.kIn hcd
  obtain ⟨c1, c2, c3, c4, c5, c6, c7, c8, c9, c10, c11⟩ := cd
  dsimp only at hdct
  subst hdct
  have neH : a ≠ hp.objs.size := Nat.ne_of_lt (Heap.lt_size atA)
  show wpAny _ _ (storeInOwnDict (.ref a) (.ref C) (.str f t) f u b) _ _ _
  unfold storeInOwnDict ownDictForStores
  repeat (first | with_reducible refine PySem.HandSPX.store_in_new ?_ ?_ | with_reducible refine wpAny_loadPart_at atA ?_ | with_reducible refine cls.at ?_ | wp_step)
  · exact ⟨_, #[], _, (Heap.get?_update_ne _ _ _ _ neH.symm).trans (Heap.get?_push_at rfl rfl), rfl, fun e he => absurd he (by simp), fun _ => rfl⟩
  · intro h2 tk2 ns2 but
    have top : (hp.push { cls := .type "dict", data := .dict #[] }).get? a = some { cls := .ref C, dict := none, data := .fields #[.ref t1, .none, .none, .none, .bool false, .none] } := Heap.get?_push_of_some _ atA
    have newA := (but.2 a neH).trans (Heap.get?_update_self _ top rfl)
    have kept : ∀ b o, b ≠ a → hp.get? b = some o → h2.get? b = some o := fun b o hb ho => (but.2 b (Nat.ne_of_lt (Heap.lt_size ho))).trans ((Heap.get?_update_ne _ _ _ _ hb).trans (Heap.get?_push_of_some _ ho))
    have nx : H hp.objs.size = none := I.hok.fresh (Nat.le_refl _)
    have fresh : ∀ {b : Addr} {o : Obj}, hp.get? b = some o → b ≠ hp.objs.size := fun z => Nat.ne_of_lt (Heap.lt_size z)
    have other : ∀ {b : Addr}, H b = none → b ≠ a := fun n z => by rw [z, e] at n; cases n
    refine h hp.objs.size _ nx neH.symm (I.un (t' := tk2) (h' := h2) ?_ fun b o z => ?_)
    · exact {
        keep := fun b o z n _ _ => kept b o (other n) z
        slot := fun b o z n _ _ => ⟨o.slots, kept b o (other n) z⟩
        free := fun b o z n _ => by rw [upd_ne (other n), upd_ne (fresh z)]; exact n
        there := fun b o z _ => by
          by_cases c : b = a
          · exact ⟨_, by rw [c]; exact newA⟩
          · exact ⟨o, kept b o c z⟩
        tups := fun b xs z => by rw [upd_ne (at_ne e z exo_tup), upd_ne (ne_of_none z nx)]; exact z
        frzs := fun b o v z => by rw [upd_ne (at_ne e z exo_frz), upd_ne (ne_of_none z nx)]; exact z
        tbls := fun b ps z => ⟨#[], by rw [upd_ne (at_ne e z exo_tbl), upd_ne (ne_of_none z nx), z]; simp⟩ }
    · by_cases c : b = a
      · subst c
        rw [upd_same] at z
        cases z
        exact exo_ok newA
      · rw [upd_ne c] at z
        by_cases c2 : b = hp.objs.size
        · subst c2
          rw [upd_same] at z
          cases z
          exact exd_ok ns2 (relO_put (fs := []) ry fun _ => True.intro)
        · rw [upd_ne c2] at z
          refine (I.hok b o z).stay (fun c3 v hc w => kept c3 v ?_ w) (fun c3 hc => ?_) fun c3 xs hc => ?_
          · rcases hc with hc | hc
            · rw [hc]; exact c
            · exact at_ne e hc exo_own
          · rw [upd_ne (at_ne e hc exo_own), upd_ne (ne_of_none hc nx)]; exact hc
          · rw [upd_ne (at_ne e hc exo_tup), upd_ne (ne_of_none hc nx)]; exact hc
def tOs (C : Addr) (f : Str) (to te : TE) : TS := fun D σ H => te σ H fun y H1 => to σ H1 fun x H2 => ∃ a, x = .ref a ∧ H2 a = some (exo a C none) ∧ ∀ dx, H2 dx = none → dx ≠ a → D.nx σ (upd (upd H2 dx (exd dx [(f, y)])) a (exo a C (some dx)))
theorem ps_os {o e : Expr} {f : Str} {to te : TE} {p' pos : Pos} (SF : StoreFacts B bmB "object.__setattr__" "object") (T : XM X.K C bmB newId) (hd : PySem.W.hasDictIn X.K C = true) (ht : PySem.W.takerIn X.K C f = some none) (ho : PE X o to) (he : PE X e te) (hs : swapsWith e (some (.Attribute o f p')) pos.line X.env = pure false := by rfl) :
    PS X (.Assign [.Attribute o f p'] e pos) (tOs C f to te) := by
  refine ⟨fun pins s σ H D I h => plainObj_wpAny_Assign_Attribute (thn (he.run pins s σ H _ I h) fun v s1 hv => ?_) hs⟩
  obtain ⟨y, H1, I1, ry, hy⟩ := hv
  refine thn (ho.run pins s1 σ H1 _ I1 hy) fun u s2 hu => ?_
  obtain ⟨x, H2, I2, rx, a, ex, ea, q⟩ := hu
  subst ex
  have eu : u = .ref a := rx
  subst eu
  exact err_store SF T hd ht I2 ea ry fun dx s' n ne J => ⟨σ, _, J, q dx n ne⟩
end

/-! ### __init__ as a def -/
def spI0 (C : Addr) : Sp := fun vs H Q _ => ∃ a, vs = [.ref a] ∧ H a = some (exo a C none) ∧ Q .non H
def spI1 (C : Addr) (f : Str) : Sp := fun vs H Q _ => ∃ a v, vs = [.ref a, v] ∧ H a = some (exo a C none) ∧ ∀ dx, H dx = none → dx ≠ a → Q .non (upd (upd H dx (exd dx [(f, v)])) a (exo a C (some dx)))
section
variable {P : Program} {w : World} {K : PySem.W.Frag} {mg : Str → Option Value} {base : Heap} {C : Addr}
theorem init0_ok {qual x0 : Str} {st : Stmt} {f : Addr} {fd : FuncData} {k : Nat} (F : Fun K "__init__" qual st f fd) (S : FnScope [x0] [x0] (defScope st))
    (B : ∀ (cdv : Value) (A : Around) (outer : List Env) (s : Shared) (H : Hp) (E : XK), PSs (cxOf CX0 P w K mg base [x0] qual (defScope st) f cdv A outer s H E).nox (defBody st) (tDrop (tBI C (tCons (tVar 0) tNil)))) : FnOk P w K mg base CX0 (k + 1) f fd [x0] (spI0 C) := by
  refine F.ok S (fun vs H Q E h => ?_) (fun cdv A outer s H vs Q E hr h => ⟨_, B cdv A outer s H E, ?_⟩)
  · obtain ⟨a, rfl, _⟩ := h
    rfl
  · obtain ⟨a, rfl, e, q⟩ := h
    exact ⟨_, rfl, a, [], rfl, Nat.zero_le _, e, q⟩
theorem init1_ok {qual x0 x1 fl : Str} {st : Stmt} {f : Addr} {fd : FuncData} {k : Nat} (F : Fun K "__init__" qual st f fd) (S : FnScope [x0, x1] [x0, x1] (defScope st))
    (B : ∀ (cdv : Value) (A : Around) (outer : List Env) (s : Shared) (H : Hp) (E : XK), PSs (cxOf CX0 P w K mg base [x0, x1] qual (defScope st) f cdv A outer s H E).nox (defBody st) (tSeq (tDrop (tBI C (tCons (tVar 0) (tCons (tVar 1) tNil)))) (tOs C fl (tVar 0) (tVar 1)))) : FnOk P w K mg base CX0 (k + 1) f fd [x0, x1] (spI1 C fl) := by
  refine F.ok S (fun vs H Q E h => ?_) (fun cdv A outer s H vs Q E hr h => ⟨_, B cdv A outer s H E, ?_⟩)
  · obtain ⟨a, v, rfl, _⟩ := h
    rfl
  · obtain ⟨a, v, rfl, e, q⟩ := h
    exact ⟨_, rfl, _, rfl, a, [v], rfl, (show 1 ≤ 1000 by omega), e, _, rfl, _, rfl, a, rfl, e, q⟩
end
end MD
end

section
set_option Elab.async false
set_option linter.all false
set_option maxRecDepth 100000
set_option maxHeartbeats 4000000
namespace MD
open PySem PySem.Spec PyProof.Rows L2

/-! ### errors made: as values, to be raised -/
section
variable {X : Cx} {pins : List (Addr × Obj)} {σ : L2.St} {H : Hp} {s : Shared} {C fI : Addr} {B newId initId : String} {bmB : List Value} {k : Nat} {fd : FuncData} {ps : List Str} {sp : Sp}
theorem made {us : List Value} {vs : List V} {R : Addr → Hp → Prop} {Q : Value → Shared → Prop} (FB : ExcBaseFacts B newId initId bmB) (T : XM X.K C bmB newId) (iC : PySem.W.findIn X.K (.ref C) "__init__" = some (some (.ref fI))) (tI : PySem.W.typeIn X.K (.ref fI) = some (.type "function"))
    (F1 : FnOk X.prog X.w X.K X.mg X.base CX0 k fI fd ps sp) (hr : Room (k + 1) X.A) (hb : Binds X.K fd ps []) (I : Inv X pins σ H s) (r : Vals vs us) (hz : us.length ≤ sizeLine) (hsp : ∀ a, H a = none → sp (.ref a :: vs) (upd H a (exo a C none)) (fun v H2 => v = .non ∧ R a H2) E0)
    (hQ : ∀ a h2 s', s.heap.objs.size ≤ a → (∀ b o, s.heap.get? b = some o → h2.get? b = some o) → Inv X pins σ (upd H a (exo a C none)) { s with heap := h2 } → CE X.stack X.prog X.w (upd H a (exo a C none)) { s with heap := h2 } (fun v H2 => v = .non ∧ R a H2) .none s' → Q (.ref a) s') :
    wpAny (model X.prog X.w) X.A (call (.ref C) us) Q X.xe s := by
  obtain ⟨n0, n1, n2, n3, bm, n4, n5, n6, n7, n8, n9, k0, k1, k2, k3, k5, atC, tail⟩ := PySem.W.excInit_of I.kIn T.q
  obtain ⟨hp, g, dr, tk, os⟩ := s
  have above : hp.objs.size ≤ hp.objs.size + 1 := Nat.le_succ _
  have none1 : H (hp.objs.size + 1) = none := I.hok.fresh above
  have old : ∀ b o, hp.get? b = some o → ((hp.push (PySem.W.kdv_tup us)).push (PySem.HandSPX.excO C hp.objs.size)).get? b = some o := fun b o e => Heap.get?_push_of_some _ (Heap.get?_push_of_some _ e)
  have new1 : ((hp.push (PySem.W.kdv_tup us)).push (PySem.HandSPX.excO C hp.objs.size)).get? (hp.objs.size + 1) = some (PySem.HandSPX.excO C hp.objs.size) := by heap_get
  have I2 := I.laid (t' := tk) (a := hp.objs.size + 1) (o := exo (hp.objs.size + 1) C none) old above (exo_ok new1)
  have q1 := hsp _ none1
  have rr : Vals (.ref (hp.objs.size + 1) :: vs) (.ref (hp.objs.size + 1) :: us) := .cons rfl r
  have len1 : (Value.ref (hp.objs.size + 1) :: us).length = ps.length := by rw [← rr.length]; exact F1.len _ _ _ _ q1
  have bd := hb ⟨(hp.push (PySem.W.kdv_tup us)).push (PySem.HandSPX.excO C hp.objs.size), g, dr, tk, os⟩ (.ref (hp.objs.size + 1) :: us) I2.kIn (by rw [List.append_nil]; exact len1)
  rw [List.append_nil] at bd
  refine wpAny_call (PySem.HandSPX.call_own FB tail atC (PySem.W.looks_findIn I.kIn iC) (fun self => PySem.W.bind_fn I.kIn self tI) hz (codeAny_mono (F1.run _ X.stack _ _ ⟨.ref (hp.objs.size + 1) :: us, []⟩ _ _ _ E0 (hr.make C us []) (I2.env0.make C us []) bd rr q1) fun ro s' ho => ?_))
  match ro, ho with
  | .error _, ho => exact ho.elim
  | .ok (.ret u), ho =>
    obtain ⟨v, H2, o1, o2, o3, o4, rv, ev, eR⟩ := ho
    subst ev
    have eu : u = .none := rv
    subst eu
    exact ⟨rfl, hQ _ _ s' above old I2 ⟨.non, H2, o1, o2, o3, o4, rfl, rfl, eR⟩⟩
/-- the new error as one that may be kept -/
theorem inv_exT {a : Addr} {d : Option Addr} (I : Inv X pins σ H s) (e : H a = some (exo a C d)) : Inv X pins σ (upd H a (ExT a C d)) s := by
  obtain ⟨t1, at1⟩ := exo_at I.hok e
  exact I.write (t' := s.toks) (h' := s.heap) (o := ExT a C d) (by rw [e]; trivial) (.inl rfl) (fun _ _ _ z => z) ⟨_, at1⟩ (exT_ok at1 ⟨rfl, rfl⟩ rfl)
theorem inv_xd {dx : Addr} {fs : List (Str × V)} (I : Inv X pins σ H s) (e : H dx = some (exd dx fs)) : Inv X pins σ (upd H dx (.xd fs)) s := by
  obtain ⟨mA, hn, rel⟩ := exd_at I.hok e
  have there : ∃ o, s.heap.get? dx = some o := by
    obtain ⟨o, _, _, z, _⟩ := hn
    exact ⟨o, z⟩
  exact I.write (t' := s.toks) (h' := s.heap) (o := .xd fs) (by rw [e]; trivial) (.inl rfl) (fun _ _ _ z => z) there ⟨mA, hn, rel⟩
section
variable {x : Str} {p pos : Pos} (FB : ExcBaseFacts B newId initId bmB) (T : XM X.K C bmB newId) (iC : PySem.W.findIn X.K (.ref C) "__init__" = some (some (.ref fI))) (tI : PySem.W.typeIn X.K (.ref fI) = some (.type "function")) (hr : Room (k + 1) X.A) (hb : Binds X.K fd ps []) (hm : X.mg x = some (.ref C))
include FB T iC tI hr hb hm
theorem pe_mk0 (F1 : FnOk X.prog X.w X.K X.mg X.base CX0 k fI fd ps (spI0 C)) (hg : Gl X x := by rfl) (hdb : (x == ("__debug__" : Str)) = false := by decide) :
    PE X (.Call (.Name x p) [] [] pos) (fun σ H Q => ∀ a, H a = none → Q (.ref a) (upd H a (ExT a C none))) := by
  refine ⟨fun pins s σ H Q I h => wpAny_Call_Name_kw (ld_glob I hg hm (PySem.W.callWith_K0 I.kIn T.kp ?_) hdb)⟩
  refine made (us := []) (vs := []) (R := fun a H2 => H2 = upd H a (exo a C none)) FB T iC tI F1 hr hb I .nil (Nat.zero_le _) (fun a na => ⟨a, rfl, upd_same, rfl, rfl⟩) fun a h2 s' above old I2 ce => ?_
  obtain ⟨v, H2, I3, _, _, e3⟩ := I2.after ce
  subst e3
  have J := inv_exT I3 upd_same
  rw [upd_upd] at J
  exact ⟨.ref a, _, J, rfl, h a (I.hok.fresh above)⟩
/-- to be raised -/
theorem pmk0 (F1 : FnOk X.prog X.w X.K X.mg X.base CX0 k fI fd ps (spI0 C)) (hg : Gl X x := by rfl) (hdb : (x == ("__debug__" : Str)) = false := by decide) :
    L2.PMk X (.Call (.Name x p) [] [] pos) (fun _ H Q => Q (.ref C) none H) := by
  intro pins s σ H Q I h
  refine wpAny_Call_Name_kw (ld_glob I hg hm (PySem.W.callWith_K0 I.kIn T.kp ?_) hdb)
  refine made (us := []) (vs := []) (R := fun a H2 => H2 = upd H a (exo a C none)) FB T iC tI F1 hr hb I .nil (Nat.zero_le _) (fun a na => ⟨a, rfl, upd_same, rfl, rfl⟩) fun a h2 s' above old I2 ce => ?_
  obtain ⟨v, H2, o1, o2, un, ok2, _, _, e3⟩ := ce
  subst e3
  obtain ⟨t0, at0⟩ := exo_at ok2 upd_same
  have na : H a = none := I.hok.fresh above
  have lo : ∀ {b : Addr} {o : Obj}, s.heap.get? b = some o → b ≠ a := fun z => Nat.ne_of_lt (Nat.lt_of_lt_of_le (Heap.lt_size z) above)
  have nu : ∀ {b : Addr} {o : Obj}, s.heap.get? b = some o → H b = none → upd H a (exo a C none) b = none := fun z n => by rw [upd_ne (lo z)]; exact n
  obtain ⟨G, in1, out1⟩ := restrict s'.heap fun b => decide (b ≠ a)
  have same : ∀ b, b ≠ a → G.get? b = s'.heap.get? b := fun b c => in1 b (decide_eq_true c)
  have gone : G.get? a = none := out1 a (by simp)
  have J : Inv X pins σ H { s' with heap := G } := I.call' (ch := []) o1 {
      keep := fun b o z n f1 f2 => by rw [same b (lo z)]; exact un.keep b o (old b o z) (nu z n) f1 f2
      slot := fun b o z n f1 f2 => by rw [same b (lo z)]; exact un.slot b o (old b o z) (nu z n) f1 f2
      free := fun b o z n _ => n
      there := fun b o z f2 => by rw [same b (lo z)]; exact un.there b o (old b o z) f2
      tups := fun _ _ z => z
      frzs := fun _ _ _ z => z
      tbls := fun b ps z => ⟨#[], by rw [z]; simp⟩ } (fun b o z => by
        have c : b ≠ a := fun w => by rw [w, na] at z; cases z
        have z2 : upd H a (exo a C none) b = some o := by rw [upd_ne c]; exact z
        refine (ok2 b o z2).stay (fun c3 v hc w => ?_) (fun c3 hc => ?_) fun c3 xs hc => ?_
        · have c4 : c3 ≠ a := by
            rcases hc with hc | hc
            · rw [hc]; exact c
            · exact at_ne upd_same hc exo_own
          rw [same c3 c4]; exact w
        · rw [upd_ne (at_ne upd_same hc exo_own)] at hc; exact hc
        · rw [upd_ne (at_ne upd_same hc exo_tup)] at hc; exact hc) o2 fun b z => absurd z (by simp)
  refine ⟨a, _, _, { s' with heap := G }, H, .ref C, none, rfl, J, fun b o z => ?_, gone, at0, ⟨rfl, rfl⟩, rfl, rfl, na, rfl, o2, raises_own T.sub T.ty, h⟩
  by_cases c : b = a
  · rw [c, gone] at z; cases z
  · exact (same b c).symm.trans z
theorem two_of {a dx : Addr} {f : Str} {v : V} (na : H a = none) (nd : upd H a (exo a C none) dx = none) (ne : dx ≠ a) : H dx = none := by
  rw [upd_ne ne] at nd; exact nd
theorem pe_mk1 {e : Expr} {ta : TA} {f : Str} (F1 : FnOk X.prog X.w X.K X.mg X.base CX0 k fI fd ps (spI1 C f)) (ha : PA X [e] ta) (hg : Gl X x := by rfl) (hdb : (x == ("__debug__" : Str)) = false := by decide) (he : starEach [e] X.env = (false, eval e X.env) :: starEach [] X.env := by rfl) :
    PE X (.Call (.Name x p) [e] [] pos) (fun σ H Q => ta σ H fun vs H1 => ∃ v, vs = [v] ∧ ∀ a dx, H1 a = none → H1 dx = none → dx ≠ a → Q (.ref a) (upd (upd H1 dx (.xd [(f, v)])) a (ExT a C (some dx)))) := by
  refine ⟨fun pins s σ H Q I h => wpAny_Call_Name_kw (ld_glob I hg hm ?_ hdb)⟩
  refine PySem.W.callWith_K (h₀ := X.base) I.ok.mod.kin T.kp (thn (ha.run pos pins s σ H _ I h) fun us s1 hu => ?_) he rfl
  obtain ⟨vs, H1, I1, r1, v, ev, q⟩ := hu
  subst ev
  have l1 : us.length ≤ sizeLine := by rw [← Paired.length r1, sizeLine_eq]; show 1 ≤ 16777216; omega
  refine ⟨I1.kIn, ?_⟩
  show wpAny _ _ (call (.ref C) us) _ _ _
  refine made (R := fun a H2 => ∃ dx, upd H1 a (exo a C none) dx = none ∧ dx ≠ a ∧ H2 = upd (upd (upd H1 a (exo a C none)) dx (exd dx [(f, v)])) a (exo a C (some dx))) FB T iC tI F1 hr hb I1 r1 l1 (fun a na => ⟨a, v, rfl, upd_same, fun dx nd ne => ⟨rfl, dx, nd, ne, rfl⟩⟩) fun a h2 s' above old I2 ce => ?_
  obtain ⟨w, H2, I3, _, _, dx, nd, ne, e3⟩ := I2.after ce
  subst e3
  have J := inv_xd (dx := dx) (inv_exT I3 upd_same) (by rw [upd_upd, upd_ne ne, upd_same])
  have na : H1 a = none := I1.hok.fresh above
  have eH : upd (upd (upd (upd (upd H1 a (exo a C none)) dx (exd dx [(f, v)])) a (exo a C (some dx))) a (ExT a C (some dx))) dx (.xd [(f, v)]) = upd (upd H1 dx (.xd [(f, v)])) a (ExT a C (some dx)) := by
    funext b
    unfold upd
    by_cases c1 : b = a
    · subst c1
      rw [if_neg (Ne.symm ne), if_pos rfl, if_pos rfl]
    · by_cases c2 : b = dx
      · subst c2
        simp [c1]
      · simp [c1, c2]
  rw [eH] at J
  exact ⟨.ref a, _, J, rfl, q a dx na (by rw [upd_ne ne] at nd; exact nd) ne⟩
theorem pmk1 {e : Expr} {ta : TA} {f : Str} (F1 : FnOk X.prog X.w X.K X.mg X.base CX0 k fI fd ps (spI1 C f)) (ha : PA X [e] ta) (hg : Gl X x := by rfl) (hdb : (x == ("__debug__" : Str)) = false := by decide) (he : starEach [e] X.env = (false, eval e X.env) :: starEach [] X.env := by rfl) :
    L2.PMk X (.Call (.Name x p) [e] [] pos) (fun σ H Q => ta σ H fun vs H1 => ∃ v, vs = [v] ∧ ∀ dx, H1 dx = none → Q (.ref C) (some dx) (upd H1 dx (.xd [(f, v)]))) := by
  intro pins s σ H Q I h
  refine wpAny_Call_Name_kw (ld_glob I hg hm ?_ hdb)
  refine PySem.W.callWith_K (h₀ := X.base) I.ok.mod.kin T.kp (thn (ha.run pos pins s σ H _ I h) fun us s1 hu => ?_) he rfl
  obtain ⟨vs, H1, I1, r1, v, ev, q⟩ := hu
  subst ev
  have l1 : us.length ≤ sizeLine := by rw [← Paired.length r1, sizeLine_eq]; show 1 ≤ 16777216; omega
  refine ⟨I1.kIn, ?_⟩
  show wpAny _ _ (call (.ref C) us) _ _ _
  refine made (R := fun a H2 => ∃ dx, upd H1 a (exo a C none) dx = none ∧ dx ≠ a ∧ H2 = upd (upd (upd H1 a (exo a C none)) dx (exd dx [(f, v)])) a (exo a C (some dx))) FB T iC tI F1 hr hb I1 r1 l1 (fun a na => ⟨a, v, rfl, upd_same, fun dx nd ne => ⟨rfl, dx, nd, ne, rfl⟩⟩) fun a h2 s' above old I2 ce => ?_
  obtain ⟨w, H2, o1, o2, un, ok2, _, _, dx, nd, ne, e3⟩ := ce
  subst e3
  have na : H1 a = none := I1.hok.fresh above
  have nd1 : H1 dx = none := by rw [upd_ne ne] at nd; exact nd
  obtain ⟨hp, g, dr, tk, os⟩ := s1
  obtain ⟨hq, g2, dr2, tk2, os2⟩ := s'
  have eH : upd (del (upd (upd (upd H1 a (exo a C none)) dx (exd dx [(f, v)])) a (exo a C (some dx))) a) dx (.xd [(f, v)]) = upd H1 dx (.xd [(f, v)]) := by
    funext b
    unfold upd del
    by_cases c2 : b = dx
    · simp [c2]
    · by_cases c1 : b = a
      · subst c1
        simp [c2, na]
      · simp [c1, c2]
  exact mk_end (raises_own T.sub T.ty) I1 above old un ok2 o1 o2 upd_same (by rw [upd_ne ne, upd_same]) nd1 (by rw [eH]; exact q dx nd1)
end
end
end MD
end

section
set_option Elab.async false
set_option linter.all false
set_option maxRecDepth 100000
set_option maxHeartbeats 4000000
namespace MD
open PySem PySem.Spec PyProof.Rows L2

/-! ### errors in expressions and statements -/
theorem sclr_of {K β O H} {v : V} {d : D} (r : Rp K β O H v d) (f : flatS d = true) : sclr v = some d := by
  cases r with
  | non => rfl
  | bl => rfl
  | int => rfl
  | str => rfl
  | _ => cases f
theorem sclr_rp {K β O H} {v : V} {d : D} (e : sclr v = some d) : Rp K β O H v d := by
  unfold sclr at e
  split at e
  · cases e; exact .non
  · cases e; exact .bl _
  · cases e; exact .int _
  · cases e; exact .str _
  · cases e
def mk0D (n : Str) : List D → Option D
  | [] => some (excD n [])
  | _ => none
def mk1D (n f : Str) : List D → Option D
  | [d] => if flatS d = true then some (excD n [(.str f, d)]) else none
  | _ => none
/-- raise n(e) -/
def xRaise1 (n f : Str) (as : Ev → M (List D)) : Xf := fun env => bnd (as env) fun ds => bnd (opt (mk1D n f ds)) fun x => ret (.ex x env)
def fldD (tab : Str → Str → Bool) (f : Str) : D → Option D
  | .dict [(.bool true, .str n), (.str g, d)] => if tab n f = true ∧ g = f then some d else none
  | _ => none
theorem fldD_inv {tab : Str → Str → Bool} {f : Str} {x d : D} (h : fldD tab f x = some d) : ∃ n, x = excD n [(.str f, d)] ∧ tab n f = true := by
  unfold fldD at h
  split at h
  · rename_i n g u
    by_cases c : tab n f = true ∧ g = f
    · rw [if_pos c] at h
      cases h
      rw [c.2]
      exact ⟨n, rfl, c.1⟩
    · rw [if_neg c] at h; cases h
  · cases h
section
variable {X : Cx} {C fI : Addr} {B newId initId : String} {bmB : List Value} {k : Nat} {fd : FuncData} {ps : List Str} {x : Str} {p pos : Pos}
theorem kp_two {β H a dx} {o1 o2 : HO} (na : H a = none) (nd : H dx = none) (ne : dx ≠ a) : Kp (bO β) H (upd (upd H dx o1) a o2) := (Kp.new nd).trans (Kp.new (by rw [upd_ne (Ne.symm ne)]; exact na))
theorem bx_none {β H bx} {q : Addr} (b : BoxOk β H bx) (h : H q = none) : β ≠ some q := fun w => by
  obtain ⟨xs, z⟩ := b.there w
  rw [h] at z; cases z
theorem se_mk0 (FB : ExcBaseFacts B newId initId bmB) (T : XM X.K C bmB newId) (iC : PySem.W.findIn X.K (.ref C) "__init__" = some (some (.ref fI))) (tI : PySem.W.typeIn X.K (.ref fI) = some (.type "function")) (hr : Room (k + 1) X.A) (hb : Binds X.K fd ps []) (hm : X.mg x = some (.ref C)) (hn : PySem.W.nsIn X.K mainGlobals x = some (some (.ref C)))
    (F1 : FnOk X.prog X.w X.K X.mg X.base CX0 k fI fd ps (spI0 C)) (hg : Gl X x := by rfl) (hdb : (x == ("__debug__" : Str)) = false := by decide) : SE X false (.Call (.Name x p) [] [] pos) (eC (excD x [])) :=
  ⟨_, pe_mk0 FB T iC tI hr hb hm F1 hg hdb, fun β O H σ env bx d bx' E p q Q kq a na => by
    have q : some (excD x [], bx) = some (d, bx') := q
    cases q
    exact kq _ _ ⟨Kp.new na, p.box.upd (bx_none p.box na), .exc hn upd_same (.inl ⟨rfl, rfl⟩), fun z => nomatch z⟩⟩
theorem se_mk1 {e : Expr} {f : Str} {as : Ev → M (List D)} (FB : ExcBaseFacts B newId initId bmB) (T : XM X.K C bmB newId) (iC : PySem.W.findIn X.K (.ref C) "__init__" = some (some (.ref fI))) (tI : PySem.W.typeIn X.K (.ref fI) = some (.type "function")) (hr : Room (k + 1) X.A) (hb : Binds X.K fd ps []) (hm : X.mg x = some (.ref C)) (hn : PySem.W.nsIn X.K mainGlobals x = some (some (.ref C)))
    (F1 : FnOk X.prog X.w X.K X.mg X.base CX0 k fI fd ps (spI1 C f)) (A : SA X [e] as) (hg : Gl X x := by rfl) (hdb : (x == ("__debug__" : Str)) = false := by decide) (he : starEach [e] X.env = (false, eval e X.env) :: starEach [] X.env := by rfl) : SE X false (.Call (.Name x p) [e] [] pos) (eA (mk1D x f) as) := by
  obtain ⟨ta, pa, ra⟩ := A.run
  refine ⟨_, pe_mk1 FB T iC tI hr hb hm F1 pa hg hdb he, fun β O H σ env bx d bx' E p q Q kq => ?_⟩
  obtain ⟨ds, bx1, q1, q⟩ := bnd_some q
  obtain ⟨q3, q4⟩ := opt_some q
  have q4 : bx' = bx1 := q4
  subst q4
  refine ra β O H σ env bx ds bx' E p q1 _ fun vs H1 a1 => ?_
  match ds, q3, a1.rp with
  | [u], q3, .cons (v := v) r0 .nil =>
    have q3 : (if flatS u = true then some (excD x [(.str f, u)]) else none) = some d := q3
    by_cases c : flatS u = true
    case neg => rw [if_neg c] at q3; cases q3
    rw [if_pos c] at q3
    cases q3
    refine ⟨v, rfl, fun a dx na nd ne => kq _ _ ?_⟩
    have b1 := bx_none a1.box na
    have b2 := bx_none a1.box nd
    exact ⟨a1.kp.trans (kp_two na nd ne), (a1.box.upd b2).upd b1, .exc hn upd_same (.inr ⟨dx, f, v, u, rfl, by rw [upd_ne ne, upd_same], sclr_of r0 c, rfl⟩), fun z => nomatch z⟩
theorem sx_raise1 {own own' lo xo : List Nat} {e : Expr} {f : Str} {as : Ev → M (List D)} {rpos : Pos} (FB : ExcBaseFacts B newId initId bmB) (T : XM X.K C bmB newId) (iC : PySem.W.findIn X.K (.ref C) "__init__" = some (some (.ref fI))) (tI : PySem.W.typeIn X.K (.ref fI) = some (.type "function")) (hr : Room (k + 1) X.A) (hb : Binds X.K fd ps []) (hm : X.mg x = some (.ref C)) (hn : PySem.W.nsIn X.K mainGlobals x = some (some (.ref C)))
    (F1 : FnOk X.prog X.w X.K X.mg X.base CX0 k fI fd ps (spI1 C f)) (A : SA X [e] as) (hx : ∀ i ∈ xo, i ∈ own := by decide) (hc : X.calm = true := by rfl) (hg : Gl X x := by rfl) (hdb : (x == ("__debug__" : Str)) = false := by decide) (he : starEach [e] X.env = (false, eval e X.env) :: starEach [] X.env := by rfl) :
    SX X own own' lo xo (.Raise (some (.Call (.Name x p) [e] [] pos)) none rpos) (xRaise1 x f as) := ⟨fun W tk => by
  obtain ⟨ta, pa, ra⟩ := A.run
  refine ⟨_, L2.ps_raise hc tk (pmk1 FB T iC tI hr hb hm F1 pa hg hdb he), fun β Ob H0 H σ env bx rr bx' p s b q E kq => ?_⟩
  obtain ⟨ds, bx1, q1, q⟩ := bnd_some q
  obtain ⟨d, q3, q⟩ := bnd_opt q
  have q : some (Rt.ex d env, bx1) = some (rr, bx') := q
  cases q
  refine ra β Ob H σ env bx ds bx' s.envV (s.preV p b) q1 _ fun vs H1 a1 => ?_
  match ds, q3, a1.rp with
  | [u], q3, .cons (v := v) r0 .nil =>
    have q3 : (if flatS u = true then some (excD x [(.str f, u)]) else none) = some d := q3
    by_cases c : flatS u = true
    case neg => rw [if_neg c] at q3; cases q3
    rw [if_pos c] at q3
    cases q3
    refine ⟨v, rfl, fun dx nd => ?_⟩
    have kn : Kp (bO β) H (upd H1 dx (.xd [(f, v)])) := a1.kp.trans (Kp.new nd)
    have bn : BoxOk β (upd H1 dx (.xd [(f, v)])) bx' := a1.box.upd (bx_none a1.box nd)
    exact kq _ _ σ _ ((s.after p kn).drop hx) bn ((Stp.after p kn bn).trans (Stp.drop hx)) ⟨C, x, _, rfl, rfl, hn, .inr ⟨dx, f, v, u, rfl, upd_same, sclr_of r0 c, rfl⟩⟩⟩
theorem sx_raise0 {own own' lo xo : List Nat} {rpos : Pos} (FB : ExcBaseFacts B newId initId bmB) (T : XM X.K C bmB newId) (iC : PySem.W.findIn X.K (.ref C) "__init__" = some (some (.ref fI))) (tI : PySem.W.typeIn X.K (.ref fI) = some (.type "function")) (hr : Room (k + 1) X.A) (hb : Binds X.K fd ps []) (hm : X.mg x = some (.ref C)) (hn : PySem.W.nsIn X.K mainGlobals x = some (some (.ref C)))
    (F1 : FnOk X.prog X.w X.K X.mg X.base CX0 k fI fd ps (spI0 C)) (hx : ∀ i ∈ xo, i ∈ own := by decide) (hc : X.calm = true := by rfl) (hg : Gl X x := by rfl) (hdb : (x == ("__debug__" : Str)) = false := by decide) :
    SX X own own' lo xo (.Raise (some (.Call (.Name x p) [] [] pos)) none rpos) (xRaise x) := sx_raise hc (pmk0 FB T iC tI hr hb hm F1 hg hdb) hn hx
/-- x.f of an error -/
theorem se_fld {e : Expr} {fr : Bool} {g : Ef} {f : Str} {tab : Str → Str → Bool} (A : SE X fr e g) (hT : ∀ n C, PySem.W.nsIn X.K mainGlobals n = some (some (.ref C)) → tab n f = true → XC X.K n C ∧ PySem.W.hasDictIn X.K C = true ∧ PySem.W.findIn X.K (.ref C) f = some none)
    (hb : attributeBase e f X.env (eval e X.env) = eval e X.env := by rfl) : SE X false (.Attribute e f pos) (e1 (fldD tab f) g) := by
  obtain ⟨t, pe, r⟩ := A.run
  refine ⟨fun σ H Q => t σ H fun v H1 => ∃ a C dx n u, v = .ref a ∧ H1 a = some (ExT a C (some dx)) ∧ H1 dx = some (.xd [(f, u)]) ∧ XC X.K n C ∧ PySem.W.hasDictIn X.K C = true ∧ PySem.W.findIn X.K (.ref C) f = some none ∧ Q u H1, ⟨fun pins s σ H Q I h => ?_⟩, fun β O H σ env bx d bx' E p q Q kq => ?_⟩
  · refine attr_of hb (thn (pe.run pins s σ H _ I h) fun u s1 hu => ?_)
    obtain ⟨v, H1, I1, rv, a, C, dx, n, y, ev, h1, h2, T, hd, no, q⟩ := hu
    subst ev
    have eu : u = .ref a := rv
    subst eu
    obtain ⟨oe, vs, g1, ⟨g2, g3⟩, g4⟩ := exT_at I1.hok h1
    have xd : ObjOk X.prog X.w H1 s1.heap dx (.xd [(f, y)]) := I1.hok dx _ h2
    obtain ⟨mA, ns, rel⟩ := xd
    obtain ⟨od, ho, lk⟩ := lookIn_ns ns
    have here : List.lookup f [(f, y)] = some y := by simp [List.lookup]
    obtain ⟨w, hw, rw'⟩ := RelO.some_of (v := y) (o := mA f) (by rw [← here]; exact rel f)
    have J : PySem.W.InstAt s1.heap a oe C (some od) := ⟨g1, g2, by unfold PySem.W.notCls; rw [g4] <;> rfl, by rw [g3]; exact ho⟩
    exact PySem.HandSPX.exc_get I1.kIn J T.ga T.gg T.sub (PySem.W.findObj_own hd no rfl (by rw [lk, hw])) (handed_of rw') ⟨y, H1, I1.tok _, rw', q⟩
  · obtain ⟨x, bx1, q1, q⟩ := bnd_some q
    obtain ⟨q3, q4⟩ := opt_some q
    have q4 : bx' = bx1 := q4
    subst q4
    refine r β O H σ env bx x bx' E p q1 _ fun v H1 a1 => ?_
    obtain ⟨n, rfl, hf⟩ := fldD_inv q3
    cases a1.rp with
    | @exc a0 C _ d0 _ h1 h2 h3 =>
      obtain ⟨T, hd, no⟩ := hT n C h1 hf
      rcases h3 with ⟨_, z⟩ | ⟨dx, g, y, u, rfl, h4, h5, h6⟩
      · cases z
      · cases h6
        exact ⟨a0, C, dx, n, y, rfl, h2, h4, T, hd, no, kq _ H1 ⟨a1.kp, a1.box, sclr_rp h5, fun z => nomatch z⟩⟩
end
end MD
end

section
set_option Elab.async false
set_option linter.all false
set_option maxRecDepth 100000
set_option maxHeartbeats 1000000
namespace MD
open PySem PySem.Spec PyProof.Rows L2

/-! ### what defs are told of errors and of defs that raise -/
abbrev bmVE : List Value := [.type "ValueError", .type "Exception", .type "BaseException", .type "object"]
abbrev bmLE : List Value := [.type "LookupError", .type "Exception", .type "BaseException", .type "object"]
structure Er (P : Program) (w : World) (K : PySem.W.Frag) (mg : Str → Option Value) (base : Heap) (x : Str) (C fI : Addr) (fd : FuncData) (ps : List Str) (sp : Sp) (B newId initId : String) (bmB : List Value) : Prop where
  FB : ExcBaseFacts B newId initId bmB
  T : XM K C bmB newId
  iC : PySem.W.findIn K (.ref C) "__init__" = some (some (.ref fI))
  tI : PySem.W.typeIn K (.ref fI) = some (.type "function")
  hb : Binds K fd ps []
  X : XC K x C
  ok : FnOk P w K mg base CX0 1 fI fd ps sp
  ex : PySem.W.exmOne K (.ref C) (.ref C) = some true
  mg : mg x = some (.ref C)
theorem Er.nm {P w K mg base x C fI fd ps sp B newId initId bmB} (E : Er P w K mg base x C fI fd ps sp B newId initId bmB) : PySem.W.nsIn K mainGlobals x = some (some (.ref C)) := E.X.nm
structure CalX (P : Program) (w : World) (K : PySem.W.Frag) (mg : Str → Option Value) (base : Heap) (k : Nat) (x : Str) (ps : List Str) (F : Fx) (f : Addr) (fd : FuncData) : Prop where
  ok : FnOk P w K mg base (L2.CX P w) k f fd ps (spX K F)
  mg : mg x = some (.ref f)
  kp : PySem.W.keepIn K (.ref f) = true
  bn : Binds K fd ps []
theorem cl_of {K C} (h : PySem.W.hasDictIn K C = true) : (PySem.W.clsIn K C).isSome = true := by
  obtain ⟨cd, e, _⟩ := PySem.W.any_some h
  rw [e]; rfl
/-- how isinstance answers of each error -/
def IsT (K : PySem.W.Frag) (cu : Value) (l : List (Str × Bool)) : Prop := ∀ n b, l.lookup n = some b → ∃ C, XC K n C ∧ PySem.W.kitOne K (.ref C) cu = some b
theorem isT_nil {K cu} : IsT K cu [] := fun _ _ h => by cases h
theorem isT_cons {K cu n b C l} (x : XC K n C) (k : PySem.W.kitOne K (.ref C) cu = some b) (r : IsT K cu l) : IsT K cu ((n, b) :: l) := fun m c h => by
  by_cases e : m = n
  · subst e
    rw [List.lookup_cons_self] at h
    cases h
    exact ⟨C, x, k⟩
  · have e2 : (m == n) = false := by simpa using e
    rw [List.lookup_cons, e2] at h
    exact r m c h
theorem IsT.hT {K cu l} (h : IsT K cu l) (c : Str) : ∀ n C b, PySem.W.nsIn K mainGlobals n = some (some (.ref C)) → (fun (n _ : Str) => l.lookup n) n c = some b → XC K n C ∧ PySem.W.kitOne K (.ref C) cu = some b := fun n C b h1 h2 => by
  obtain ⟨C', x, k⟩ := h n b h2
  have e := x.nm
  rw [h1] at e
  cases e
  exact ⟨x, k⟩
/-- which fields each error has -/
def FldT (K : PySem.W.Frag) (f : Str) (l : List Str) : Prop := ∀ n, n ∈ l → ∃ C, XC K n C ∧ PySem.W.hasDictIn K C = true ∧ PySem.W.findIn K (.ref C) f = some none
theorem fldT_nil {K f} : FldT K f [] := fun _ h => nomatch h
theorem fldT_cons {K f n C l} (x : XC K n C) (h1 : PySem.W.hasDictIn K C = true) (h2 : PySem.W.findIn K (.ref C) f = some none) (r : FldT K f l) : FldT K f (n :: l) := fun m h => by
  rcases List.mem_cons.mp h with e | h
  · subst e; exact ⟨C, x, h1, h2⟩
  · exact r m h
theorem FldT.hT {K f l} (h : FldT K f l) : ∀ n C, PySem.W.nsIn K mainGlobals n = some (some (.ref C)) → (fun (n _ : Str) => l.contains n) n f = true → XC K n C ∧ PySem.W.hasDictIn K C = true ∧ PySem.W.findIn K (.ref C) f = some none := fun n C h1 h2 => by
  obtain ⟨C', x, k1, k2⟩ := h n (by simpa using h2)
  have e := x.nm
  rw [h1] at e
  cases e
  exact ⟨x, k1, k2⟩
/-- the length of what is told, of arguments that raise nothing -/
theorem lnx {as : Ev → M (List D)} {n : Nat} (h : Ln as n) : ∀ env bx ds bx', xA as env bx = some (.ok ds, bx') → ds.length = n := fun env bx ds bx' q => by
  obtain ⟨d, bx1, q1, q2⟩ := bnd_some q
  have q2 : some (Rs.ok d, bx1) = some (Rs.ok ds, bx') := q2
  cases q2
  exact h _ _ _ _ q1
end MD
end

section
set_option Elab.async false
set_option linter.all false
set_option maxRecDepth 100000
set_option maxHeartbeats 4000000
namespace MD
open PySem PySem.Spec PyProof.Rows L2

/-! ### an error made by name: C(f=e) -/
section
variable {prog : Program} {w : World} {A : Around} {E : Value → Shared → Prop} {R : Result → Shared → Prop} {h : Heap} {g : Array GenState} {d : Drawn} {t : Nat} {os : OsState}
variable {nm q f1 : Str} {C N : Addr} {bs bm bmB : List Value} {hdct : Bool} {sn : List Str} {sub : List Value} {ab : Bool} {col : Option Bool} {dd : Option Addr} {k0 k1 k2 k3 k5 : Option Value} {B newId initId : String} {u : Value}
theorem check_newK {M : Model} (FB : ExcBaseFacts B newId initId bmB) (tail : ∀ Y : String, bm.contains (.type Y) = bmB.contains (.type Y)) {Q : Unit → Shared → Prop}
    (atC : h.get? C = some (excClassObj nm q C N bs bm hdct sn sub ab col dd k0 k1 k2 k3 k5 newId)) (hq : Q () ⟨h, g, d, t, os⟩) : wpAny M A (checkBuiltinCall newId ⟨[.ref C], [(f1, u)]⟩) Q E ⟨h, g, d, t, os⟩ := by
  have has : (Value.ref C :: bm).contains (.type B) = true := by rw [List.contains_cons, tail, FB.hasB, Bool.or_true]
  have star := FB.noStar
  simp only [checkBuiltinCall, FB.newKind, FB.newSplit, FB.newRow]
  repeat (first
    | refine wpAny_loadPart_at atC ?_
    | (refine wpAny_isSubtype_exc atC ?_; rw [has])
    | refine wpAny_staticBase_exc atC ?_
    | refine wpAny_madeBy_exc atC ?_
    | simp only [bne_self_eq_false, Bool.false_eq_true, if_false]
    | wp_step)
  exact hq
theorem check_callK {M : Model} {Q : Unit → Shared → Prop} (atC : h.get? C = some (excClassObj nm q C N bs bm hdct sn sub ab col dd k0 k1 k2 k3 k5 newId)) (hq : Q () ⟨h, g, d, t, os⟩) : wpAny M A (checkBuiltinCall "type.__call__" ⟨[.ref C], [(f1, u)]⟩) Q E ⟨h, g, d, t, os⟩ := by
  have sub3 := tc_sub
  have isT : (⟨h, g, d, t, os⟩ : Shared).TypeIs (.ref C) "type" := ⟨_, atC, rfl⟩
  simp only [checkBuiltinCall, tc_kind, tc_split]
  repeat (any_goals (first
    | assumption
    | with_reducible refine wpAny_loadPart_at atC ?_
    | with_reducible refine wpAny_onRaise ?_
    | with_reducible refine wpAny_map ?_
    | wp_step))
/-- the new error, as its maker lays it -/
theorem new_K (FB : ExcBaseFacts B newId initId bmB) (tail : ∀ Y : String, bm.contains (.type Y) = bmB.contains (.type Y)) (atC : h.get? C = some (excClassObj nm q C N bs bm hdct sn sub ab col dd k0 k1 k2 k3 k5 newId))
    (hq : R (.ok (.ret (.ref (h.objs.size + 1)))) ⟨(h.push (PySem.W.kdv_tup [])).push (PySem.HandSPX.excO C h.objs.size), g, d, t, os⟩) : codeAny (model prog w) A (.builtin newId ⟨[.ref C], [(f1, u)]⟩) R ⟨h, g, d, t, os⟩ := by
  have ends := FB.ends
  have has : (Value.ref C :: bm).contains (.type B) = true := by rw [List.contains_cons, tail, FB.hasB, Bool.or_true]
  have noA : (Value.ref C :: bm).contains (.type "AttributeError") = false := by rw [List.contains_cons, tail, FB.noAttr]; rfl
  have noN : (Value.ref C :: bm).contains (.type "NameError") = false := by rw [List.contains_cons, tail, FB.noName]; rfl
  refine PySem.codeAny_builtinAt FB.entry ?_
  unfold Builtin.«BaseException.__new__»
  refine PySem.wpAt_bind ?_
  show PySem.wpAt _ _ _ (stack >>= _) _ _ _
  refine PySem.wpAt_bind (PySem.wpAt_stack fun p below => PySem.wpAt_of_wpAny ?_)
  wp_walk
  refine PySem.wpAt_of_wpAny ?_
  rw [FB.owner]
  repeat (first
    | with_reducible refine wpAny_madeHere_exc FB.canon atC ?_
    | with_reducible refine wpAny_loadPart_at atC ?_
    | (with_reducible refine wpAny_isSubtype_exc atC ?_
       first | rw [has] | rw [noA] | rw [noN])
    | wp_step)
  show R _ _
  rw [Heap.size_push]
  exact hq
theorem type_K (FB : ExcBaseFacts B newId initId bmB) (tail : ∀ Y : String, bm.contains (.type Y) = bmB.contains (.type Y)) {fI : Addr} {Q : Fin → Shared → Prop} (atC : h.get? C = some (excClassObj nm q C N bs bm hdct sn sub ab col dd k0 k1 k2 k3 k5 newId))
    (hi : PySem.W.Looks (model prog w) h (typeLookup (.ref C) "__init__") (some (.ref fI))) (hb : ∀ self, PySem.W.Looks (model prog w) h (bindSpecial (.ref fI) self) (.ref fI, [self]))
    (hq : codeAny (model prog w) A (.call (.ref fI) ⟨[.ref (h.objs.size + 1)], [(f1, u)]⟩) (fun r s' => match r with | .ok (.ret v) => v = .none ∧ Q (.done (.ret (.ref (h.objs.size + 1)))) s' | .ok _ => False | .error e => E e s') ⟨(h.push (PySem.W.kdv_tup [])).push (PySem.HandSPX.excO C h.objs.size), g, d, t, os⟩) :
    wpAny (model prog w) A (Builtin.«type.__call__» ⟨[.ref C], [(f1, u)]⟩) Q E ⟨h, g, d, t, os⟩ := by
  repeat (first
    | with_reducible refine wpAny_loadPart_at atC ?_
    | with_reducible refine wpAny_madeBy_exc atC ?_
    | wp_step)
  refine codeAny_call_builtin_code (Code.quiet_builtin _ FB.quiet) (check_newK FB tail atC (new_K FB tail atC ?_))
  show wpAny _ _ _ _ _ _
  have old : ∀ b o, h.get? b = some o → ((h.push (PySem.W.kdv_tup [])).push (PySem.HandSPX.excO C h.objs.size)).get? b = some o := fun b o e => Heap.get?_push_of_some _ (Heap.get?_push_of_some _ e)
  have atC2 := old _ _ atC
  have new2 : ((h.push (PySem.W.kdv_tup [])).push (PySem.HandSPX.excO C h.objs.size)).get? (h.objs.size + 1) = some (PySem.HandSPX.excO C h.objs.size) := by heap_get
  have self1 : (Value.ref C :: bm).contains (.ref C) = true := by simp
  have i2 := hi.keeps old
  have b2 := (hb (.ref (h.objs.size + 1))).keeps old
  unfold isInstance
  repeat (first
    | with_reducible refine wpAny_loadPart_at new2 ?_
    | (with_reducible refine wpAny_isSubtype_exc atC2 ?_
       rw [self1])
    | wp_step)
  show wpAny _ _ (typeLookup (.ref C) _) _ _ _
  refine i2.at (wpAny_holding (wpAny_bind (b2.at ?_)))
  refine wpAny_bind (wpAny_call (codeAny_mono hq fun r s' z => ?_))
  match r, z with
  | .error _, z => exact z
  | .ok (.ret _), z =>
    obtain ⟨rfl, z⟩ := z
    first
      | exact wpAny_pure (wpAny_pure z)
      | (wp_walk; exact z)
theorem call_K (FB : ExcBaseFacts B newId initId bmB) (tail : ∀ Y : String, bm.contains (.type Y) = bmB.contains (.type Y)) {fI : Addr} (atC : h.get? C = some (excClassObj nm q C N bs bm hdct sn sub ab col dd k0 k1 k2 k3 k5 newId))
    (hi : PySem.W.Looks (model prog w) h (typeLookup (.ref C) "__init__") (some (.ref fI))) (hb : ∀ self, PySem.W.Looks (model prog w) h (bindSpecial (.ref fI) self) (.ref fI, [self]))
    (hq : codeAny (model prog w) (A.under (.builtin "type.__call__" ⟨[.ref C], [(f1, u)]⟩)) (.call (.ref fI) ⟨[.ref (h.objs.size + 1)], [(f1, u)]⟩) (PySem.W.InitBack (h.objs.size + 1) R) ⟨(h.push (PySem.W.kdv_tup [])).push (PySem.HandSPX.excO C h.objs.size), g, d, t, os⟩) :
    codeAny (model prog w) A (.call (.ref C) ⟨[], [(f1, u)]⟩) R ⟨h, g, d, t, os⟩ := by
  have g1 := tc_lookup
  have g2 := tc_bind (.ref C)
  have isT : (⟨h, g, d, t, os⟩ : Shared).TypeIs (.ref C) "type" := ⟨_, atC, rfl⟩
  refine codeAny_of_tree ?_
  show wpAny _ _ (callAny (.ref C) _) _ _ _
  repeat (any_goals (first
    | assumption
    | with_reducible refine wpAny_loadPart_at atC ?_
    | wp_step))
  refine ⟨rfl, codeAny_call_builtin_at (Code.quiet_builtin _ (by decide +kernel)) entry_typeCall (check_callK atC (type_K FB tail atC hi hb ?_))⟩
  refine codeAny_mono hq fun r s' z => ?_
  match r, z with
  | .error _, z => exact z
  | .ok (.ret _), z => exact z
end
section
variable {X : Cx} {pins : List (Addr × Obj)} {σ : L2.St} {H : Hp} {s : Shared} {C fI : Addr} {B newId initId : String} {bmB : List Value} {k : Nat} {fd : FuncData} {x0 f1 : Str}
theorem madeK {u : Value} {v : V} {R : Addr → Hp → Prop} {Q : Value → Shared → Prop} {sp : Sp} (FB : ExcBaseFacts B newId initId bmB) (T : XM X.K C bmB newId) (iC : PySem.W.findIn X.K (.ref C) "__init__" = some (some (.ref fI))) (tI : PySem.W.typeIn X.K (.ref fI) = some (.type "function"))
    (F1 : FnOk X.prog X.w X.K X.mg X.base CX0 k fI fd [x0, f1] sp) (hr : Room (k + 1) X.A) (hb : ∀ a b : Value, bindArgs fd ⟨[a], [(f1, b)]⟩ = pure [(x0, a), (f1, b)]) (I : Inv X pins σ H s) (r : RelV v u) (hsp : ∀ a, H a = none → sp [.ref a, v] (upd H a (exo a C none)) (fun v H2 => v = .non ∧ R a H2) E0)
    (hQ : ∀ a h2 s', s.heap.objs.size ≤ a → (∀ b o, s.heap.get? b = some o → h2.get? b = some o) → Inv X pins σ (upd H a (exo a C none)) { s with heap := h2 } → CE X.stack X.prog X.w (upd H a (exo a C none)) { s with heap := h2 } (fun v H2 => v = .non ∧ R a H2) .none s' → Q (.ref a) s') :
    wpAny (model X.prog X.w) X.A (call (.ref C) [] [(f1, u)]) Q X.xe s := by
  obtain ⟨n0, n1, n2, n3, bm, n4, n5, n6, n7, n8, n9, k0, k1, k2, k3, k5, atC, tail⟩ := PySem.W.excInit_of I.kIn T.q
  obtain ⟨hp, g, dr, tk, os⟩ := s
  have above : hp.objs.size ≤ hp.objs.size + 1 := Nat.le_succ _
  have none1 : H (hp.objs.size + 1) = none := I.hok.fresh above
  have old : ∀ b o, hp.get? b = some o → ((hp.push (PySem.W.kdv_tup [])).push (PySem.HandSPX.excO C hp.objs.size)).get? b = some o := fun b o e => Heap.get?_push_of_some _ (Heap.get?_push_of_some _ e)
  have new1 : ((hp.push (PySem.W.kdv_tup [])).push (PySem.HandSPX.excO C hp.objs.size)).get? (hp.objs.size + 1) = some (PySem.HandSPX.excO C hp.objs.size) := by heap_get
  have I2 := I.laid (t' := tk) (a := hp.objs.size + 1) (o := exo (hp.objs.size + 1) C none) old above (exo_ok new1)
  have q1 := hsp _ none1
  have rr : Vals [.ref (hp.objs.size + 1), v] [.ref (hp.objs.size + 1), u] := .cons rfl (.cons r .nil)
  have bd : BindsTo (⟨(hp.push (PySem.W.kdv_tup [])).push (PySem.HandSPX.excO C hp.objs.size), g, dr, tk, os⟩ : Shared) fd ⟨[.ref (hp.objs.size + 1)], [(f1, u)]⟩ (([x0, f1] : List Str).zip [.ref (hp.objs.size + 1), u]) := .of_eq (hb _ _)
  refine wpAny_call (call_K FB tail atC (PySem.W.looks_findIn I.kIn iC) (fun self => PySem.W.bind_fn I.kIn self tI) (codeAny_mono (F1.run _ X.stack _ _ ⟨[.ref (hp.objs.size + 1)], [(f1, u)]⟩ _ _ _ E0 (hr.make C [] [(f1, u)]) (I2.env0.make C [] [(f1, u)]) bd rr q1) fun ro s' ho => ?_))
  match ro, ho with
  | .error _, ho => exact ho.elim
  | .ok (.ret w), ho =>
    obtain ⟨v, H2, o1, o2, o3, o4, rv, ev, eR⟩ := ho
    subst ev
    have eu : w = .none := rv
    subst eu
    exact ⟨rfl, hQ _ _ s' above old I2 ⟨.non, H2, o1, o2, o3, o4, rfl, rfl, eR⟩⟩
theorem se_mkK {x f : Str} {p pos kpos : Pos} {e : Expr} {as : Ev → M (List D)} (FB : ExcBaseFacts B newId initId bmB) (T : XM X.K C bmB newId) (iC : PySem.W.findIn X.K (.ref C) "__init__" = some (some (.ref fI))) (tI : PySem.W.typeIn X.K (.ref fI) = some (.type "function")) (hr : Room (k + 1) X.A) (hb : ∀ a b : Value, bindArgs fd ⟨[a], [(f1, b)]⟩ = pure [(x0, a), (f1, b)]) (hm : X.mg x = some (.ref C)) (hn : PySem.W.nsIn X.K mainGlobals x = some (some (.ref C)))
    (F1 : FnOk X.prog X.w X.K X.mg X.base CX0 k fI fd [x0, f1] (spI1 C f)) (A : SK X [⟨some f1, e, kpos⟩] as) (hg : Gl X x := by rfl) (hall : (backToKw pos (keywordEach [⟨some f1, e, kpos⟩] X.env)).all (·.1.isSome) = true := by rfl) (hks : (backToKw pos (keywordEach [⟨some f1, e, kpos⟩] X.env)).filterMap (·.1) = [f1] := by rfl)
    (hdb : (x == ("__debug__" : Str)) = false := by decide) (hpl : ((backTo pos (starEach [] X.env)).any (·.1) || (backToKw pos (keywordEach [⟨some f1, e, kpos⟩] X.env)).any (·.1.isNone)) = false := by rfl) : SE X false (.Call (.Name x p) [] [⟨some f1, e, kpos⟩] pos) (eA (mk1D x f) as) := by
  obtain ⟨ta, pa, ra⟩ := A.run
  have pe : PE X (.Call (.Name x p) [] [⟨some f1, e, kpos⟩] pos) (fun σ H Q => ta σ H fun vs H1 => ∃ v, vs = [v] ∧ ∀ a dx, H1 a = none → H1 dx = none → dx ≠ a → Q (.ref a) (upd (upd H1 dx (.xd [(f, v)])) a (ExT a C (some dx)))) := by
    refine ⟨fun pins s σ H Q I h => wpAny_Call_Name_kw (ld_glob I hg hm ?_ hdb)⟩
    refine PySem.W.callWith_KW0 (h₀ := X.base) I.ok.mod.kin T.kp hall ?_ hpl
    refine thn (pa.run pos pins s σ H _ I h) fun ws s1 hu => ?_
    obtain ⟨vs, H1, I1, r1, v, ev, q⟩ := hu
    subst ev
    refine ⟨I1.kIn, ?_⟩
    rw [hks]
    match ws, r1 with
    | [u], .cons rv .nil =>
      show wpAny _ _ (call (.ref C) [] [(f1, u)]) _ _ _
      refine madeK (R := fun a H2 => ∃ dx, upd H1 a (exo a C none) dx = none ∧ dx ≠ a ∧ H2 = upd (upd (upd H1 a (exo a C none)) dx (exd dx [(f, v)])) a (exo a C (some dx))) FB T iC tI F1 hr hb I1 rv (fun a na => ⟨a, v, rfl, upd_same, fun dx nd ne => ⟨rfl, dx, nd, ne, rfl⟩⟩) fun a h2 s' above old I2 ce => ?_
      obtain ⟨w, H2, I3, _, _, dx, nd, ne, e3⟩ := I2.after ce
      subst e3
      have J := inv_xd (dx := dx) (inv_exT I3 upd_same) (by rw [upd_upd, upd_ne ne, upd_same])
      have na : H1 a = none := I1.hok.fresh above
      have eH : upd (upd (upd (upd (upd H1 a (exo a C none)) dx (exd dx [(f, v)])) a (exo a C (some dx))) a (ExT a C (some dx))) dx (.xd [(f, v)]) = upd (upd H1 dx (.xd [(f, v)])) a (ExT a C (some dx)) := by
        funext b
        unfold upd
        by_cases c1 : b = a
        · subst c1
          rw [if_neg (Ne.symm ne), if_pos rfl, if_pos rfl]
        · by_cases c2 : b = dx
          · subst c2
            simp [c1]
          · simp [c1, c2]
      rw [eH] at J
      exact ⟨.ref a, _, J, rfl, q a dx na (by rw [upd_ne ne] at nd; exact nd) ne⟩
  refine ⟨_, pe, fun β O H σ env bx d bx' E p q Q kq => ?_⟩
  obtain ⟨ds, bx1, q1, q⟩ := bnd_some q
  obtain ⟨q3, q4⟩ := opt_some q
  have q4 : bx' = bx1 := q4
  subst q4
  refine ra β O H σ env bx ds bx' E p q1 _ fun vs H1 a1 => ?_
  match ds, q3, a1.rp with
  | [u], q3, .cons (v := v) r0 .nil =>
    have q3 : (if flatS u = true then some (excD x [(.str f, u)]) else none) = some d := q3
    by_cases c : flatS u = true
    case neg => rw [if_neg c] at q3; cases q3
    rw [if_pos c] at q3
    cases q3
    refine ⟨v, rfl, fun a dx na nd ne => kq _ _ ?_⟩
    have b1 := bx_none a1.box na
    have b2 := bx_none a1.box nd
    exact ⟨a1.kp.trans (kp_two na nd ne), (a1.box.upd b2).upd b1, .exc hn upd_same (.inr ⟨dx, f, v, u, rfl, by rw [upd_ne ne, upd_same], sclr_of r0 c, rfl⟩), fun z => nomatch z⟩
end
/-- an error's class by its name -/
theorem pe_cls {X : Cx} {x : Str} {C : Addr} {pos : Pos} (hm : X.mg x = some (.ref C)) (hg : Gl X x := by rfl) (hdb : (x == ("__debug__" : Str)) = false := by decide) : PE X (.Name x pos) (tC (.ref C)) := pe_glob hg hm rfl hdb
end MD
end

section
set_option Elab.async false
set_option linter.all false
set_option maxRecDepth 100000
set_option maxHeartbeats 1000000
namespace MD
open PySem PySem.Spec PyProof.Rows L2

/-! ### sorted(xs) of a list -/
def leD0 : D → D → Bool := PySem.W.dataLe false (fun d : D => d)
def allAlikeB (ds : List D) : Bool := ds.all fun a => ds.all fun b => PySem.W.alike a b
def sortableB (ds : List D) : Bool := (ds.all fun d => match d with | .tuple (_ :: _) => true | _ => false) || ds.all fun d => match d with | .none => false | .tuple _ => false | _ => true
def okSort (ds : List D) : Bool := allAlikeB ds && sortableB ds && noDictA ds && ds.all fun d => decide (d.depth ≤ 60)
def sortL (ds : List D) : Option D := if okSort ds = true then some (.list (ds.mergeSort leD0)) else none
def sortFD : List D → Option D
  | [.list ds] => sortL ds
  | _ => none
theorem allAlikeB_ok {ds : List D} (h : allAlikeB ds = true) : PySem.W.AllAlike ds := fun d hd d' hd' => List.all_eq_true.mp (List.all_eq_true.mp h d hd) d' hd'
theorem sortableB_ok {ds : List D} (h : sortableB ds = true) : PySem.W.Sortable ds := by
  rcases Bool.or_eq_true_iff.mp h with h | h
  · refine .inl fun d hd => ?_
    have := List.all_eq_true.mp h d hd
    split at this
    · exact ⟨_, _, rfl⟩
    · cases this
  · refine .inr fun d hd => ?_
    have := List.all_eq_true.mp h d hd
    split at this
    · cases this
    · cases this
    · rename_i h1 h2
      exact ⟨h1, fun xs e => h2 xs e⟩
section
variable {X : Cx}
def rSortD (K : PySem.W.Frag) : List V → Hp → VK → Prop := fun xs H Q => ∃ (a : Addr) (vs : List V) (ds : List D) (R : V → D → Prop), xs = [.ref a] ∧ SqL K H a vs ∧ Paired R vs ds ∧ DpAll K H vs ds ∧ okSort ds = true ∧
  ∀ (vs' : List V) (p : Addr), Paired R vs' (ds.mergeSort leD0) → H p = none → Q (.ref p) (upd H p (.lst vs'))
theorem each_pair {R : V → D → Prop} : ∀ {vs : List V} {us : List Value} {ds : List D}, Vals vs us → Paired R vs ds → PySem.W.EachIs (fun u d => ∃ v, RelV v u ∧ R v d) us ds
  | _, _, _, .nil, .nil => .nil
  | _, _, _, .cons r t, .cons p q => .cons ⟨_, r, p⟩ (each_pair t q)
theorem pair_each {R : V → D → Prop} : ∀ {us : List Value} {ds : List D}, PySem.W.EachIs (fun u d => ∃ v, RelV v u ∧ R v d) us ds → ∃ vs, Vals vs us ∧ Paired R vs ds
  | _, _, .nil => ⟨[], .nil, .nil⟩
  | _, _, .cons ⟨v, r, p⟩ t => by
    obtain ⟨vs, h1, h2⟩ := pair_each t
    exact ⟨v :: vs, .cons r h1, .cons p h2⟩
theorem each_reads {pins : List (Addr × Obj)} {σ : L2.St} {H : Hp} {s : Shared} (I : Inv X pins σ H s) : ∀ {vs : List V} {us : List Value} {ds : List D}, Vals vs us → DpAll X.K H vs ds → PySem.W.EachIs (fun u d => ∃ as, Reads s.heap u d as) us ds
  | _, _, _, .nil, .nil => .nil
  | _, _, _, .cons r t, .cons p q => .cons (Dp.reads I _ _ _ p r) (each_reads I t q)
theorem call_sortD {k : Nat} (hr : Room k X.A) : CallR X (.builtin "sorted") (rSortD X.K) := by
  intro pins s σ H xs us Q I r h
  obtain ⟨a, vs, ds, R, rfl, hs, hp, hd, ok, q⟩ := h
  obtain ⟨its, rv, pl, hz⟩ := I.list hs
  rw [Vals.ref1 r]
  unfold okSort at ok
  simp only [Bool.and_eq_true] at ok
  have hl : its.length = ds.length := by rw [← rv.length]; exact hp.length
  refine PySem.W.sorted_data (β := D) (enc := fun d => d) (R := fun u d => ∃ v, RelV v u ∧ R v d) (bs := ds) (vs := its) pl.isList (each_pair rv hp) (each_reads I rv hd) (by rw [List.map_id']; exact allAlikeB_ok ok.1.1.1) (by rw [List.map_id']; exact sortableB_ok ok.1.1.2) (by rw [← hl, ← rv.length]; exact hz) (fun d hd => ?_) fun out h1 h2 => ?_
  · have h3 := of_decide_eq_true (List.all_eq_true.mp ok.2 d hd)
    have h4 := hr.units
    omega
  · obtain ⟨vs', v1, v2⟩ := pair_each h2
    obtain ⟨ep, he'⟩ := PyProof.Rows.sortedAll_at s.heap its out.toArray
    have hlen : vs'.length ≤ sizeLine := by rw [v1.length, h1, ← hl, ← rv.length]; exact hz
    exact ⟨.ref _, upd H (s.heap.objs.size + 1) (.lst vs'), I.laid (t' := s.toks) (fun _ _ => PyProof.Rows.sortedAll_old) (Nat.le_succ _) ⟨hlen, out, ep, v1, he'⟩, rfl, q _ _ v2 (I.hok.fresh (Nat.le_succ _))⟩
theorem rpA_pair {K β O H} : ∀ {vs : List V} {ds : List D}, RpA K β O H vs ds → Paired (fun v d => Rp K β O H v d) vs ds
  | [], _, h => by cases h; exact .nil
  | v :: vs, _, h => by
    cases h with
    | cons a b => exact .cons a (rpA_pair b)
theorem pair_rpA {K β O H} : ∀ {vs : List V} {ds : List D}, Paired (fun v d => Rp K β O H v d) vs ds → RpA K β O H vs ds
  | _, _, .nil => .nil
  | _, _, .cons a b => .cons a (pair_rpA b)
theorem sortFD_sem : RAS X.K (rSortD X.K) true sortFD := by
  intro β O H bx xs ds d p r e Q k
  unfold sortFD at e
  split at e
  · obtain ⟨v, rfl, h⟩ := r.one
    rename_i ds
    unfold sortL at e
    by_cases c : okSort ds = true
    case neg => rw [if_neg c] at e; cases e
    rw [if_pos c] at e
    cases e
    have nd : noDictA ds = true := by
      unfold okSort at c
      simp only [Bool.and_eq_true] at c
      exact c.1.2
    cases h with
    | lst a b q => exact ⟨_, _, ds, _, rfl, SqL.of a, rpA_pair q, RpA.dp _ _ q nd, c, fun vs' l hp hl => k _ _ (aft_new_lst p (pair_rpA hp) hl)⟩
  · cases e
end
end MD
end

section
set_option Elab.async false
set_option linter.all false
set_option maxRecDepth 100000
set_option maxHeartbeats 3200000
namespace MD
open PySem PySem.Spec PyProof.Rows L2

/-! ### a set to which something is added, whatever its kind: what stands there then -/
section
variable {P : Program} {w : World} {A : Around} {E : Value → Shared → Prop} {s : Shared} {a : Addr}
theorem add_store {g : Bool → Sem Unit} (hg : ∀ (b : Bool) (s₁ : Shared) (Q' : Unit → Shared → Prop), Q' () s₁ → wpAny (model P w) A (g b) Q' E s₁)
    {o : Obj} {es : Array (Int × Value)} {ep : Nat} {t : SetTable} (ho : s.heap.get? a = some o) (hd : o.data = .set es ep t) {es1 : Array (Int × Value)} {t2 : SetTable}
    (hb : es1.size < scanBound) (hf : t2.fits es1.size = true) (hr : Ris t2.place.toList) {wasDummy : Bool} {R : Option Bool → Shared → Prop}
    (k : ∀ h' es' ep' t', Heap.SameBut a s.heap h' → h'.get? a = some { o with data := .set es' ep' t' } → es'.toList.Perm es1.toList → t'.fits es'.size = true → Ris t'.place.toList → t'.led = t2.led → R (some true) { s with heap := h' }) :
    wpAny (model P w) A (do
        storeSet a es1 t2
        if (!wasDummy && t2.tooFull) = true then do
            g (relayAll t2 es1 (SetTable.grown es1.size)).2.2
            storeSet a (relayAll t2 es1 (SetTable.grown es1.size)).1 (relayAll t2 es1 (SetTable.grown es1.size)).2.1
            pure (some true)
          else pure (some true)) R E s := by
  have sb1 := Heap.SameBut.update s.heap a (Obj.putSet es1 t2)
  have ho1 := store_at (es' := es1) (t' := t2) ho hd
  refine wpAny_bind (wpAny_storeSet_of ho hd ?_ (fits_of_scanBound hb))
  by_cases c : (!wasDummy && t2.tooFull) = true
  · rw [if_pos c]
    have z1 := relayAll_perm t2 es1 (SetTable.grown es1.size)
    have z2 := relayAll_fits t2 es1 (SetTable.grown es1.size)
    have z3 := relayAll_ris t2 es1 (SetTable.grown es1.size)
    have z4 := relayAll_led t2 es1 (SetTable.grown es1.size)
    generalize relayAll t2 es1 (SetTable.grown es1.size) = Z at z1 z2 z3 z4 ⊢
    have hz : Z.1.size < scanBound := by rw [← Array.length_toList, z1.length_eq, Array.length_toList]; exact hb
    refine wpAny_bind (hg _ _ _ (wpAny_bind (wpAny_storeSet_of ho1 rfl ?_ (fits_of_scanBound hz))))
    have ho2 := store_at (es' := Z.1) (t' := Z.2.1) ho1 rfl
    exact wpAny_pure (k _ _ _ _ (sb1.trans (Heap.SameBut.update _ a _)) ho2 z1 z2 z3 z4)
  · rw [if_neg c]
    exact wpAny_pure (k _ _ _ _ sb1 ho1 (List.Perm.refl _) hf hr rfl)
theorem add_walk {K : Type} [DecidableEq K] {knd : PySem.KeyKind P w K} {k : K} {x : Value} {Q : Bool → Shared → Prop} {o : Obj} {es : Array (Int × Value)} {ep : Nat} {t : SetTable} (hkey : knd.is k x = true) (hsc : x.scannable = true)
    (ho : s.heap.get? a = some o) (hd : o.data = .set es ep t) (hel : ElemsOf knd es.toList) (hb : es.size + 1 < scanBound) (hf : t.fits es.size = true) (hr : Ris t.place.toList)
    (old : (∃ e ∈ es.toList, knd.is k e.2 = true) → Q false s)
    (new : (∀ e ∈ es.toList, knd.is k e.2 = false) → ∀ h' es' ep' t', Heap.SameBut a s.heap h' → h'.get? a = some { o with data := .set es' ep' t' } → es'.toList.Perm ((knd.hash k, x) :: es.toList) → t'.fits es'.size = true → Ris t'.place.toList → t'.led = t.led → Q true { s with heap := h' }) :
    wpAny (model P w) A (setAddHashed a x (knd.hash k)) Q E s := by
  have hb0 : es.size < scanBound := Nat.lt_of_succ_lt hb
  have hgw : ∀ (b : Bool) (s₁ : Shared) (Q' : Unit → Shared → Prop), Q' () s₁ → wpAny (model P w) A (match b with | true => rule "set.scan.the-table-gave-way" | false => pure ()) Q' E s₁ := fun b s₁ Q' q => by
    cases b
    · exact wpAny_pure q
    · exact wpAny_rule q
  unfold setAddHashed setAddHashedIn
  refine wpAny_holding (wpAny_bind (wpAny_setState_of ho hd hf ?_))
  dsimp only
  rw [byScan_of hsc hb0 hel, if_pos rfl]
  unfold setAddByScan
  refine wpAny_bind (wpAny_bind (wpAny_rule (wpAny_bind (wpAny_setScan_of hkey ho hd hf hel ?_))))
  cases hfi : List.findIdx? (fun e => knd.is k e.2) es.toList with
  | some j =>
    obtain ⟨hj, pj, _⟩ := List.findIdx?_eq_some_iff_getElem.mp hfi
    exact wpAny_pure (wpAny_pure (old ⟨_, List.getElem_mem hj, pj⟩))
  | none =>
    dsimp only
    have no := List.findIdx?_eq_none_iff.mp hfi
    have l1 := layNew_perm t es (knd.hash k) x
    have l2 := layNew_fits t es (knd.hash k) x
    have l3 := layNew_ris t es (knd.hash k) x hr
    have l4 := layNew_led t es (knd.hash k) x
    generalize layNew t es (knd.hash k) x = Z at l1 l2 l3 l4 ⊢
    obtain ⟨es1, t1, wasDummy, gave⟩ := Z
    dsimp only at l1 l2 l3 l4 ⊢
    have pc : es1.toList.Perm ((knd.hash k, x) :: es.toList) := by
      rw [Array.toList_push] at l1
      exact l1.trans (List.perm_append_singleton _ _)
    have hb1 : es1.size < scanBound := by rw [← Array.length_toList, pc.length_eq, List.length_cons, Array.length_toList]; exact hb
    have fin := new no
    refine wpAny_bind (hgw _ _ _ ?_)
    split
    · refine wpAny_bind ?_
      rw [hashByValue_scannable 8 hsc]
      refine wpAny_pure ?_
      refine add_store hgw ho hd hb1 ?_ ?_ ?_
      · first | (split <;> first | exact l2 | exact SetTable.fits_plain_off l2) | exact l2
      · first | (split <;> exact l3) | exact l3
      · intro h' es' ep' t' c1 c2 c3 c4 c5 c6
        dsimp only
        refine wpAny_pure (fin h' es' ep' t' c1 c2 (c3.trans pc) c4 c5 (c6.trans ?_))
        first | (split <;> exact l4) | exact l4
    · refine wpAny_bind (wpAny_pure ?_)
      simp only [↓reduceIte]
      refine add_store hgw ho hd hb1 l2 l3 ?_
      intro h' es' ep' t' c1 c2 c3 c4 c5 c6
      dsimp only
      exact wpAny_pure (fin h' es' ep' t' c1 c2 (c3.trans pc) c4 c5 (c6.trans l4))
end
/-! ### sets of texts -/
def keyT (e : Int × Value) : Str := match e.2 with | .str k _ => k | _ => Str.empty
def GoodT (P : Program) (w : World) (e : Int × Value) : Prop := ∃ k tk, e.2 = Value.str k tk ∧ e.1 = (PySem.strKind P w).hash k
/-- the texts of L, each once, are the set at a -/
def SetT (P : Program) (w : World) (h : Heap) (a : Addr) (L : List Str) : Prop :=
  ∃ o es ep t, h.get? a = some o ∧ o.ExactSet ∧ o.data = .set es ep t ∧ (∀ e ∈ es.toList, GoodT P w e) ∧ (es.toList.map keyT).Perm L ∧ L.Nodup ∧ t.fits es.size = true ∧ Ris t.place.toList ∧ (w.params.followText "set-order" = true ∨ t.led = true)
def addT (L : List Str) (k : Str) : List Str := if k ∈ L then L else k :: L
section
variable {P : Program} {w : World} {A : Around} {E : Value → Shared → Prop} {s : Shared} {a : Addr} {L : List Str}
theorem SetT.at {h h' : Heap} (R : SetT P w h a L) (k : ∀ o, h.get? a = some o → h'.get? a = some o) : SetT P w h' a L := by
  obtain ⟨o, es, ep, t, ho, r⟩ := R
  exact ⟨o, es, ep, t, k o ho, r⟩
theorem goodT_is {e : Int × Value} (g : GoodT P w e) (k : Str) : (PySem.strKind P w).is k e.2 = true ↔ keyT e = k := by
  obtain ⟨k0, tk, h1, _⟩ := g
  unfold keyT
  rw [h1]
  show Value.isStrOf k (.str k0 tk) = true ↔ k0 = k
  unfold Value.isStrOf
  exact beq_iff_eq
theorem goodT_el {l : List (Int × Value)} (g : ∀ e ∈ l, GoodT P w e) : ElemsOf (PySem.strKind P w) l := fun e he => by
  obtain ⟨k, tk, h1, h2⟩ := g e he
  exact ⟨⟨k, by rw [h1]; exact strKind_is P w k tk, h2⟩, by rw [h1] <;> rfl⟩
theorem setT_add {k : Str} {tk : Tok} {Q : Bool → Shared → Prop} (R : SetT P w s.heap a L) (room : L.length + 1 < scanBound)
    (hQ : ∀ b h', Heap.SameBut a s.heap h' → SetT P w h' a (addT L k) → Q b { s with heap := h' }) : wpAny (model P w) A (setAddHashed a (.str k tk) ((PySem.strKind P w).hash k)) Q E s := by
  obtain ⟨o, es, ep, t, ho, hex, hd, g, pm, nd, hf, hr, hl⟩ := R
  have hsz : es.size = L.length := by rw [← pm.length_eq, List.length_map, Array.length_toList]
  refine add_walk (strKind_is P w k tk) rfl ho hd (goodT_el g) (by rw [hsz]; exact room) hf hr (fun ⟨e, he, hk⟩ => ?_) fun no h' es' ep' t' c1 c2 c3 c4 c5 c6 => ?_
  · have hm : k ∈ L := pm.mem_iff.mp (List.mem_map.mpr ⟨e, he, (goodT_is (g e he) k).mp hk⟩)
    refine hQ false s.heap (Heap.SameBut.refl a s.heap) ?_
    unfold addT
    rw [if_pos hm]
    exact ⟨o, es, ep, t, ho, hex, hd, g, pm, nd, hf, hr, hl⟩
  · have hm : k ∉ L := fun z => by
      obtain ⟨e, he, hk⟩ := List.mem_map.mp (pm.mem_iff.mpr z)
      have := no e he
      rw [(goodT_is (g e he) k).mpr hk] at this
      cases this
    refine hQ true h' c1 ?_
    unfold addT
    rw [if_neg hm]
    have pk : (es'.toList.map keyT).Perm (k :: L) := (c3.map keyT).trans (pm.cons k)
    refine ⟨_, es', ep', t', c2, hex, rfl, fun e he => ?_, pk, List.nodup_cons.mpr ⟨hm, nd⟩, c4, c5, hl.imp id fun z => by rw [c6]; exact z⟩
    rcases List.mem_cons.mp (c3.mem_iff.mp he) with z | z
    · rw [z]; exact ⟨k, tk, rfl, rfl⟩
    · exact g e z
theorem setT_fresh {h : Heap} {led : Bool} (hl : w.params.followText "set-order" = true ∨ led = true) (ho : h.get? a = some { cls := .type "set", dict := none, data := .set #[] 0 (.fresh 0 0 led) }) : SetT P w h a [] :=
  ⟨_, #[], 0, _, ho, ⟨rfl, rfl, rfl⟩, rfl, fun e he => by simp at he, List.Perm.refl _, List.nodup_nil, rfl, List.Pairwise.nil, hl⟩
def listT (xs : List Str) : List Str := xs.foldl addT []
theorem addT_len (L : List Str) (k : Str) : (addT L k).length ≤ L.length + 1 := by
  unfold addT
  split
  · omega
  · simp
end
/-! ### set(xs) -/
section
variable {P : Program} {w : World} {A : Around} {E : Value → Shared → Prop} {s : Shared} {R : Result → Shared → Prop} {I : Addr} {fp wr : List Addr} {G : Array GenState → Array GenState → Prop} {n : Nat} {Pv : Nat → Value → Prop} {St : Nat → Shared → Prop}
theorem foldT_len (xs L : List Str) : (xs.foldl addT L).length ≤ L.length + xs.length := by
  induction xs generalizing L with
  | nil => exact Nat.le_refl _
  | cons x xs ih =>
    have h1 := ih (addT L x)
    have h2 := addT_len L x
    simp only [List.foldl_cons, List.length_cons]
    omega
theorem take_fold {xs : List Str} {i : Nat} (h : i < xs.length) : (xs.take (i + 1)).foldl addT [] = addT ((xs.take i).foldl addT []) (xs.getD i Str.empty) := by
  have e : xs.getD i Str.empty = xs[i] := by simp [List.getD, h]
  rw [List.take_succ, List.foldl_append, List.getElem?_eq_getElem h, e]
  rfl
theorem loopT (W : WalksS P w A.in1 I fp wr G n Pv St) (S : Addr) (hSf : S ∉ fp) (xs : List Str) (hsz : xs.length = n) (room : n + 1 < scanBound) (hval : ∀ i v, Pv i v → ∃ t, v = .str (xs.getD i Str.empty) t) :
    ∀ (k i : Nat) (s : Shared), n - i = k → i ≤ n → St i s → SetT P w s.heap S ((xs.take i).foldl addT []) →
      (∀ s', Moved (S :: wr) G s s' → SetT P w s'.heap S (listT xs) → R (.ok (.ret .none)) s') → codeAny (model P w) A (.builtin "set.update.loop" ⟨[.ref S, .ref I], []⟩) R s := by
  have hSw : S ∉ wr := fun h => hSf (W.sub _ h)
  have up : ∀ b ∈ wr, b ∈ S :: wr := fun b hb => List.mem_cons_of_mem _ hb
  intro k
  induction k with
  | zero =>
    intro i s hk hi hst hS hR
    have hin : i = n := by omega
    subst hin
    refine codeAny_builtin PyProof.Rows.F.entry_set_update_loop ?_
    rw [Around.under_plainId PyProof.Rows.F.plain_set_update_loop _]
    show wpAny _ A.in1 (pyNext (.ref I) >>= _) _ _ s
    refine wpAny_bind (W.done s _ _ hst fun s' hm => ?_)
    show wpAny _ A.in1 (PySem.ret Value.none) _ _ s'
    refine wpAny_pure (hR s' (hm.mono up) ?_)
    have e : xs.take i = xs := by rw [← hsz]; exact List.take_length
    rw [e] at hS
    exact hS.at fun o e => hm.heap S o hSw e
  | succ k ih =>
    intro i s hk hi hst hS hR
    have hlt : i < n := by omega
    refine codeAny_builtin PyProof.Rows.F.entry_set_update_loop ?_
    rw [Around.under_plainId PyProof.Rows.F.plain_set_update_loop _]
    show wpAny _ A.in1 (pyNext (.ref I) >>= _) _ _ s
    refine wpAny_bind (W.item i s _ _ hlt hst fun v s' hP hst' hm => ?_)
    obtain ⟨t, rfl⟩ := hval i v hP
    have hS' := hS.at (h' := s'.heap) fun o e => hm.heap S o hSw e
    show wpAny _ A.in1 (holding [Value.str (xs.getD i Str.empty) t] (setAdd S (.str (xs.getD i Str.empty) t)) >>= _) _ _ s'
    refine wpAny_bind (wpAny_holding ?_)
    unfold setAdd
    refine wpAny_holding (wpAny_bind ((PySem.strKind P w).pyHash (k := xs.getD i Str.empty) (strKind_is _ _ _ _) ?_))
    have hlen := foldT_len (xs.take i) []
    rw [List.length_take] at hlen
    refine setT_add (s := { s' with toks := s'.toks + 1 }) hS' (by simp at hlen; omega) fun b h' hsb hS2 => ?_
    rw [← take_fold (by omega)] at hS2
    refine wpAny_pure ⟨plainId_quiet PyProof.Rows.F.plain_set_update_loop _, ih (i + 1) _ (by omega) hlt (W.frame _ s' _ _ hst' (Nat.le_succ _) fun c hc o e => ?_) hS2 fun s'' hm'' hS'' => ?_⟩
    · rw [hsb.2 c (fun h : c = S => hSf (by rw [← h]; exact hc))]; exact e
    · refine hR s'' (Moved.trans W.gtrans ((hm.mono up).then_heap (Nat.le_succ _) fun c o hc e => ?_) hm'') hS''
      rw [hsb.2 c (fun h : c = S => hc (by rw [h]; exact List.mem_cons_self))]; exact e
end
section
variable {P : Program} {w : World} {A : Around} {E : Value → Shared → Prop} {s : Shared}
abbrev newSet (w : World) : Obj := { cls := .type "set", dict := none, data := .set #[] 0 (.fresh 0 0 (!w.params.followText "set-order")) }
theorem text_or_led (w : World) : w.params.followText "set-order" = true ∨ (!w.params.followText "set-order") = true := by
  cases w.params.followText "set-order"
  · exact .inr rfl
  · exact .inl rfl
theorem call_setT_list {l : Addr} {items : Array Value} {xs : List Str} {Q : Value → Shared → Prop} (hh : A.handled = none) (hl : s.heap.IsList l items) (hi : PyProof.Rows.StrsAre items.toList xs) (room : xs.length + 1 < scanBound)
    (h : ∀ (h' : Heap) (tk : Nat), SetT P w h' s.heap.objs.size (listT xs) → (∀ b o, s.heap.get? b = some o → h'.get? b = some o) → Q (.ref s.heap.objs.size) { s with heap := h', toks := tk }) :
    wpAny (model P w) A (call (.type "set") [.ref l]) Q E s := by
  obtain ⟨c, tl, hmro⟩ := PySem.F.called_set.mro
  have hmade := PySem.F.called_set.made
  have hsub := PySem.F.called_set.sub
  refine wpAny_call (codeAny_of_tree ?_)
  show wpAny _ _ (callAny (.type "set") _) _ _ _
  refine wpAny_pure ⟨Code.quiet_builtin _ (by decide +kernel), codeAny_builtin PySem.F.entry_type_call ?_⟩
  rw [Around.under_plain (weight_type_call_type "set" [.ref l] []) rfl]
  have h1 := PySem.F.called_set.notType
  have h2 := PySem.F.called_set.canCreate
  have hct := PySem.F.typeCall_set_1 (.ref l)
  repeat (any_goals (first | assumption | wp_step))
  refine codeAny_mono (code_set_led1 (.ref l) (E := E) (Q₁ := fun obj s₁ => obj = .ref s.heap.objs.size ∧ s₁ = { s with heap := s.heap.push (newSet w) }) ⟨rfl, rfl⟩) fun r s₁ hr => ?_
  cases r with
  | error e => exact hr
  | ok fl =>
    cases fl with
    | ret obj =>
      obtain ⟨rfl, rfl⟩ := hr
      have hS : (s.heap.push (newSet w)).get? s.heap.objs.size = some (newSet w) := Heap.get?_push_size _ rfl
      have hT : Shared.TypeIs { s with heap := s.heap.push (newSet w) } (.ref s.heap.objs.size) "set" := ⟨_, hS, rfl⟩
      have hli := PySem.F.called_set.init.lookup
      have hbi := PySem.F.called_set.init.bind (.ref s.heap.objs.size)
      repeat (any_goals (first | assumption | wp_step))
      refine codeAny_mono (codeAny_call_builtin (R := wants (fun r s₂ => r = .none ∧ ∃ h' tk, s₂ = { s with heap := h', toks := tk } ∧ SetT P w h' s.heap.objs.size (listT xs) ∧ (∀ b o, s.heap.get? b = some o → h'.get? b = some o)) E) PySem.F.called_set.init.plain PySem.F.entry_set_init (check_set_init_1 hT ?_)) fun r₂ s₂ hr₂ => ?_
      · obtain ⟨⟨ocls, odict, odata, oslots⟩, hol, hcl, nl, hdl⟩ := hl
        simp only at hcl hdl
        subst hcl; subst hdl
        have hol' : (s.heap.push (newSet w)).get? l = some { cls := .type "list", dict := odict, data := .seq items nl, slots := oslots } := Heap.get?_push_of_some _ hol
        have hsls := PySem.F.sub_list_set
        have hslf := PySem.F.sub_list_frozenset
        have hne : (Value.type "list" == Value.type "dict") = false := by decide
        have hl1 : (s.heap.push (newSet w)).IsList l items := ⟨_, hol', rfl, nl, rfl⟩
        unfold Builtin.«set.__init__» noKeywords Builtin.Frozenset.updateFrom
        generalize hPI : pyIter = PI
        wp_walk
        subst hPI
        refine wpAny_pyIter_list hl1 (wpAny_bind (wpAny_runValue ?_))
        have hlS : l < s.heap.objs.size := Heap.lt_size hol
        have hh3 : A.in1.in1.in1.handled = none := by simp [hh]
        have hneI : l ≠ (s.heap.push (newSet w)).objs.size := by
          rw [Heap.size_push]; exact Nat.ne_of_lt (Nat.lt_succ_of_lt hlS)
        have hSf : s.heap.objs.size ∉ [(s.heap.push (newSet w)).objs.size, l] := by
          rw [Heap.size_push]; simp only [List.mem_cons, List.mem_singleton, List.not_mem_nil, or_false, not_or]
          exact ⟨Nat.ne_of_lt (Nat.lt_succ_self _), Nat.ne_of_gt hlS⟩
        have hsz : xs.length = items.size := by rw [← StrsAre.len_eq hi, Array.length_toList]
        have hval : ∀ (i : Nat) (v : Value), items[i]? = some v → ∃ t, v = .str (xs.getD i Str.empty) t := fun i v hv => SS.strs_at hi i v (by rw [Array.getElem?_toList]; exact hv)
        refine loopT ((Walks.list hh3 _ l hneI items).toS) s.heap.objs.size hSf xs hsz (by rw [← hsz]; exact room) hval (items.size - 0) 0 _ (by omega) (Nat.zero_le _)
          ⟨⟨_, Heap.get?_push_size _ rfl, rfl, rfl⟩, (hl1.push _)⟩ (setT_fresh (text_or_led w) (Heap.get?_push_of_some _ hS)) fun s' hm hS' => ?_
        obtain ⟨h', g', d', tk', os'⟩ := s'
        have eg : g' = s.gens := hm.gens
        have ed : d' = s.drawn := hm.drawn
        have eo : os' = s.os := hm.os
        subst eg; subst ed; subst eo
        show wpAny _ _ _ _ _ _
        refine wpAny_pure ?_
        show wpAny _ _ (PySem.ret Value.none) _ _ _
        refine wpAny_pure ⟨rfl, h', tk', rfl, hS', fun b o e => ?_⟩
        have hb : b < s.heap.objs.size := Heap.lt_size e
        have hb2 : b ≠ (s.heap.push (newSet w)).objs.size := by
          rw [Heap.size_push]; exact Nat.ne_of_lt (Nat.lt_succ_of_lt hb)
        exact hm.heap b o (by simp only [List.mem_cons, List.mem_singleton, List.not_mem_nil, or_false, not_or]; exact ⟨Nat.ne_of_lt hb, hb2⟩) (Heap.get?_push_of_some _ (Heap.get?_push_of_some _ e))
      · cases r₂ with
        | error e => exact hr₂
        | ok fl₂ =>
          cases fl₂ with
          | ret r =>
            obtain ⟨rfl, h', tk, rfl, hS', hk'⟩ := hr₂
            repeat (any_goals (first | assumption | wp_step))
            exact h _ _ hS' hk'
          | _ => exact hr₂.elim
    | _ => exact hr.elim
theorem call_setT_tuple {l : Addr} {items : Array Value} {xs : List Str} {Q : Value → Shared → Prop} (hh : A.handled = none) (hl : s.heap.IsTuple l items) (hi : PyProof.Rows.StrsAre items.toList xs) (room : xs.length + 1 < scanBound)
    (h : ∀ (h' : Heap) (tk : Nat), SetT P w h' s.heap.objs.size (listT xs) → (∀ b o, s.heap.get? b = some o → h'.get? b = some o) → Q (.ref s.heap.objs.size) { s with heap := h', toks := tk }) :
    wpAny (model P w) A (call (.type "set") [.ref l]) Q E s := by
  obtain ⟨c, tl, hmro⟩ := PySem.F.called_set.mro
  have hmade := PySem.F.called_set.made
  have hsub := PySem.F.called_set.sub
  refine wpAny_call (codeAny_of_tree ?_)
  show wpAny _ _ (callAny (.type "set") _) _ _ _
  refine wpAny_pure ⟨Code.quiet_builtin _ (by decide +kernel), codeAny_builtin PySem.F.entry_type_call ?_⟩
  rw [Around.under_plain (weight_type_call_type "set" [.ref l] []) rfl]
  have h1 := PySem.F.called_set.notType
  have h2 := PySem.F.called_set.canCreate
  have hct := PySem.F.typeCall_set_1 (.ref l)
  repeat (any_goals (first | assumption | wp_step))
  refine codeAny_mono (code_set_led1 (.ref l) (E := E) (Q₁ := fun obj s₁ => obj = .ref s.heap.objs.size ∧ s₁ = { s with heap := s.heap.push (newSet w) }) ⟨rfl, rfl⟩) fun r s₁ hr => ?_
  cases r with
  | error e => exact hr
  | ok fl =>
    cases fl with
    | ret obj =>
      obtain ⟨rfl, rfl⟩ := hr
      have hS : (s.heap.push (newSet w)).get? s.heap.objs.size = some (newSet w) := Heap.get?_push_size _ rfl
      have hT : Shared.TypeIs { s with heap := s.heap.push (newSet w) } (.ref s.heap.objs.size) "set" := ⟨_, hS, rfl⟩
      have hli := PySem.F.called_set.init.lookup
      have hbi := PySem.F.called_set.init.bind (.ref s.heap.objs.size)
      repeat (any_goals (first | assumption | wp_step))
      refine codeAny_mono (codeAny_call_builtin (R := wants (fun r s₂ => r = .none ∧ ∃ h' tk, s₂ = { s with heap := h', toks := tk } ∧ SetT P w h' s.heap.objs.size (listT xs) ∧ (∀ b o, s.heap.get? b = some o → h'.get? b = some o)) E) PySem.F.called_set.init.plain PySem.F.entry_set_init (check_set_init_1 hT ?_)) fun r₂ s₂ hr₂ => ?_
      · obtain ⟨⟨ocls, odict, odata, oslots⟩, hol, hcl, nl, hdl⟩ := hl
        simp only at hcl hdl
        subst hcl; subst hdl
        have hol' : (s.heap.push (newSet w)).get? l = some { cls := .type "tuple", dict := odict, data := .seq items nl, slots := oslots } := Heap.get?_push_of_some _ hol
        have hsls := PySem.F.sub_tuple_set
        have hslf := PySem.F.sub_tuple_frozenset
        have hne : (Value.type "tuple" == Value.type "dict") = false := by decide
        have hl1 : (s.heap.push (newSet w)).IsTuple l items := ⟨_, hol', rfl, nl, rfl⟩
        unfold Builtin.«set.__init__» noKeywords Builtin.Frozenset.updateFrom
        generalize hPI : pyIter = PI
        wp_walk
        subst hPI
        refine wpAny_pyIter_tuple hl1 (wpAny_bind (wpAny_runValue ?_))
        have hlS : l < s.heap.objs.size := Heap.lt_size hol
        have hh3 : A.in1.in1.in1.handled = none := by simp [hh]
        have hneI : l ≠ (s.heap.push (newSet w)).objs.size := by
          rw [Heap.size_push]; exact Nat.ne_of_lt (Nat.lt_succ_of_lt hlS)
        have hSf : s.heap.objs.size ∉ [(s.heap.push (newSet w)).objs.size, l] := by
          rw [Heap.size_push]; simp only [List.mem_cons, List.mem_singleton, List.not_mem_nil, or_false, not_or]
          exact ⟨Nat.ne_of_lt (Nat.lt_succ_self _), Nat.ne_of_gt hlS⟩
        have hsz : xs.length = items.size := by rw [← StrsAre.len_eq hi, Array.length_toList]
        have hval : ∀ (i : Nat) (v : Value), items[i]? = some v → ∃ t, v = .str (xs.getD i Str.empty) t := fun i v hv => SS.strs_at hi i v (by rw [Array.getElem?_toList]; exact hv)
        refine loopT ((Walks.tuple hh3 _ l hneI items).toS) s.heap.objs.size hSf xs hsz (by rw [← hsz]; exact room) hval (items.size - 0) 0 _ (by omega) (Nat.zero_le _)
          ⟨⟨_, Heap.get?_push_size _ rfl, rfl, rfl⟩, (hl1.push _)⟩ (setT_fresh (text_or_led w) (Heap.get?_push_of_some _ hS)) fun s' hm hS' => ?_
        obtain ⟨h', g', d', tk', os'⟩ := s'
        have eg : g' = s.gens := hm.gens
        have ed : d' = s.drawn := hm.drawn
        have eo : os' = s.os := hm.os
        subst eg; subst ed; subst eo
        show wpAny _ _ _ _ _ _
        refine wpAny_pure ?_
        show wpAny _ _ (PySem.ret Value.none) _ _ _
        refine wpAny_pure ⟨rfl, h', tk', rfl, hS', fun b o e => ?_⟩
        have hb : b < s.heap.objs.size := Heap.lt_size e
        have hb2 : b ≠ (s.heap.push (newSet w)).objs.size := by
          rw [Heap.size_push]; exact Nat.ne_of_lt (Nat.lt_succ_of_lt hb)
        exact hm.heap b o (by simp only [List.mem_cons, List.mem_singleton, List.not_mem_nil, or_false, not_or]; exact ⟨Nat.ne_of_lt hb, hb2⟩) (Heap.get?_push_of_some _ (Heap.get?_push_of_some _ e))
      · cases r₂ with
        | error e => exact hr₂
        | ok fl₂ =>
          cases fl₂ with
          | ret r =>
            obtain ⟨rfl, h', tk, rfl, hS', hk'⟩ := hr₂
            repeat (any_goals (first | assumption | wp_step))
            exact h _ _ hS' hk'
          | _ => exact hr₂.elim
    | _ => exact hr.elim
end
end MD
end

section
set_option Elab.async false
set_option linter.all false
set_option maxRecDepth 100000
set_option maxHeartbeats 3200000
namespace MD
open PySem PySem.Spec PyProof.Rows L2

/-! ### sorted(set(xs)) of texts -/
def leT (x y : Str) : Bool := decide (x.cps.toList ≤ y.cps.toList)
section
variable {P : Program} {w : World} {A : Around} {E : Value → Shared → Prop} {s : Shared} {a : Addr}
theorem strs_each : ∀ (l : List Value), (∀ v ∈ l, ∃ k tk, v = Value.str k tk) → PySem.W.EachIs (fun v (k : Str) => ∃ tk, v = Value.str k tk) l (l.map fun v => match v with | .str k _ => k | _ => Str.empty)
  | [], _ => .nil
  | v :: l, h => by
    obtain ⟨k, tk, rfl⟩ := h v List.mem_cons_self
    exact .cons ⟨tk, rfl⟩ (strs_each l fun u hu => h u (List.mem_cons_of_mem _ hu))
theorem sorted_setT {L : List Str} {Q : Value → Shared → Prop} (R : SetT P w s.heap a L) (hh : A.handled = none) (room : L.length < scanBound) (hu : A.units + 10 < cLine)
    (hQ : ∀ s' p (out : List Value) (c : Nat) (ys : List Str), (∀ b o, s.heap.get? b = some o → s'.heap.get? b = some o) → s'.gens = s.gens → s'.os = s.os → s.heap.objs.size ≤ p →
      s'.heap.get? p = some (seqObj "list" out.toArray c) → PySem.W.EachIs (fun v (k : Str) => ∃ tk, v = Value.str k tk) out ys → ys.Pairwise (fun x y => leT x y = true) → ys.Perm L → Q (.ref p) s') :
    wpAny (model P w) A (call (.builtin "sorted") [.ref a]) Q E s := by
  obtain ⟨o, es, ep, t, ho, hex, hd, g, pm0, nd, hf, hr, hl⟩ := R
  have hsz : es.size = L.length := by rw [← pm0.length_eq, List.length_map, Array.length_toList]
  refine Calls.call_function_entry kind_sorted plain_sorted entry_sorted (args_sorted1 _) ?_
  unfold Builtin.«sorted»
  refine wpAny_bind (m := checkCount "sorted" 1 1 _) (wpAny_pure ?_)
  refine wpAny_bind (collect_set (A := A.in1) hh ⟨o, ho, hex.1, hd⟩ hf (by rw [hsz]; exact room) hr hl fun s1 vs k1 hz g1 o1 pm => ?_)
  have hvl : vs.length = L.length := by rw [pm.length_eq, List.length_map, Array.length_toList]; exact hsz
  have hstr : ∀ v ∈ vs, ∃ k tk, v = Value.str k tk := fun v hv => by
    obtain ⟨e, he, q⟩ := List.mem_map.mp (pm.mem_iff.mp hv)
    obtain ⟨k, tk, h1, _⟩ := g e he
    exact ⟨k, tk, by rw [← q]; exact h1⟩
  have hE := strs_each vs hstr
  have hp : (vs.map fun v => match v with | .str k _ => k | _ => Str.empty).Perm L := by
    have q := pm.map fun v => match v with | .str k _ => k | _ => Str.empty
    rw [List.map_map] at q
    exact q.trans pm0
  generalize (vs.map fun v => match v with | .str k _ => k | _ => Str.empty) = ks at hE hp
  have hkl : ks.length = L.length := hp.length_eq
  refine wpAny_bind (wpAny_newList ?_ (by rw [hvl]; exact fits_of_scanBound room))
  have hoL : (s1.heap.push (seqObj "list" vs.toArray 0)).get? s1.heap.objs.size = some (seqObj "list" vs.toArray 0) := Heap.get?_push_size _ rfl
  have er : PySem.W.EachIs (fun v (b : Str) => ∃ as, Reads (s1.heap.push (seqObj "list" vs.toArray 0)) v (PyData.str b) as ∧ s1.heap.objs.size ∉ as) vs ks := hE.mono fun v b ⟨tk, e⟩ => ⟨[], by rw [e]; exact .str _ _, List.not_mem_nil⟩
  refine wpAny_bind (wpAny_holding (PySem.W.list_sort_data (β := Str) (enc := fun b => PyData.str b) (R := fun v k => ∃ tk, v = Value.str k tk) hoL hE er (PySem.W.AllAlike.of fun b b' => rfl) (PySem.W.Sortable.others fun b => ⟨(fun z => nomatch z), (fun xs z => nomatch z)⟩) (by rw [hkl]; exact fits_of_scanBound room) (fun b hb => ?_) fun out h1 h2 => ?_))
  · show A.units + 1 + 1 + 0 < cLine
    omega
  · rw [PySem.W.dataLe_str (fun b : Str => b)] at h2
    obtain ⟨c, hc⟩ := sortedHeap_at (vs := vs) (out := out.toArray) hoL
    refine wpAny_pure ⟨_, rfl, hQ _ s1.heap.objs.size out c (ks.mergeSort leT) (fun b u e => ?_) g1 o1 hz hc h2 ?_ ((List.mergeSort_perm ks _).trans hp)⟩
    · have q := k1 b u e
      have hlt := Heap.lt_size q
      show (sortedHeap (s1.heap.push (seqObj "list" vs.toArray 0)) s1.heap.objs.size vs out.toArray).get? b = some u
      rw [sortedHeap_old (Nat.ne_of_lt hlt) (by rw [size_push']; exact Nat.lt_succ_of_lt hlt)]
      exact Heap.get?_push_of_some _ q
    · exact List.pairwise_mergeSort (le := leT) (fun x y z h1 h2 => by
        unfold leT at *
        exact decide_eq_true (List.le_trans (of_decide_eq_true h1) (of_decide_eq_true h2))) (fun x y => by
        unfold leT
        rcases List.le_total x.cps.toList y.cps.toList with h | h
        · rw [decide_eq_true h]; rfl
        · rw [decide_eq_true h]; simp) ks
theorem leT_anti {x y : Str} (h1 : leT x y = true) (h2 : leT y x = true) : x = y := by
  have e : x.cps.toList = y.cps.toList := List.le_antisymm (of_decide_eq_true h1) (of_decide_eq_true h2)
  cases x; cases y
  congr 1
  exact Array.toList_inj.mp e
theorem sorted_one : ∀ {ys zs : List Str}, ys.Pairwise (fun x y => leT x y = true) → zs.Pairwise (fun x y => leT x y = true) → ys.Perm zs → ys = zs
  | [], zs, _, _, p => p.nil_eq
  | y :: ys, [], _, _, p => p.symm.nil_eq.symm
  | y :: ys, z :: zs, h1, h2, p => by
    obtain ⟨a1, a2⟩ := List.pairwise_cons.mp h1
    obtain ⟨b1, b2⟩ := List.pairwise_cons.mp h2
    have e : y = z := by
      rcases List.mem_cons.mp (p.mem_iff.mp List.mem_cons_self) with e | m
      · exact e
      · rcases List.mem_cons.mp (p.mem_iff.mpr List.mem_cons_self) with e | m2
        · exact e.symm
        · exact leT_anti (a1 z m2) (b1 y m)
    subst e
    rw [sorted_one a2 b2 p.cons_inv]
theorem leT_sorted (L : List Str) : (L.mergeSort leT).Pairwise (fun x y => leT x y = true) := List.pairwise_mergeSort (le := leT) (fun x y z h1 h2 => by
    unfold leT at *
    exact decide_eq_true (List.le_trans (of_decide_eq_true h1) (of_decide_eq_true h2))) (fun x y => by
    unfold leT
    rcases List.le_total x.cps.toList y.cps.toList with h | h
    · rw [decide_eq_true h]; rfl
    · rw [decide_eq_true h]; simp) L
end
/-- what sorted(set(xs)) tells -/
def sortT (xs : List Str) : List Str := (listT xs).mergeSort leT
def sortSetFD : List D → Option D
  | [.list ds] => (strsD ds).bind fun xs => if xs.length ≤ 4000 then some (.list ((sortT xs).map .str)) else none
  | [.tuple ds] => (strsD ds).bind fun xs => if xs.length ≤ 4000 then some (.list ((sortT xs).map .str)) else none
  | _ => none
def SetTO (P : Program) (w : World) (a : Addr) (L : List Str) : HO := .ext fun h => SetT P w h a L
section
variable {X : Cx}
theorem setTO_new {P : Program} {w : World} {H : Hp} {h : Heap} {a : Addr} {L : List Str} (R : SetT P w h a L) : ObjOk P w H h a (SetTO P w a L) := by
  have ⟨o, _, _, _, ho, _⟩ := R
  exact ⟨R, ⟨o, ho⟩, fun h1 h2 p k => SetT.at p k⟩
def rSetTx (X : Cx) : List V → Hp → VK → Prop := fun vs H Q => ∃ (a : Addr) (xs : List Str), vs = [.ref a] ∧ (SqL X.K H a (xs.map V.str) ∨ SqT X.K H a (xs.map V.str)) ∧ xs.length ≤ 4000 ∧ ∀ p, H p = none → Q (.ref p) (upd H p (SetTO X.prog X.w p (listT xs)))
theorem call_setTx (hc : X.calm = true) : CallR X (.type "set") (rSetTx X) := by
  intro pins s σ H vs us Q I r h
  obtain ⟨a, xs, rfl, hq, hl, q⟩ := h
  rw [Vals.ref1 r]
  have fin : ∀ (h' : Heap) (tk : Nat), SetT X.prog X.w h' s.heap.objs.size (listT xs) → (∀ b o, s.heap.get? b = some o → h'.get? b = some o) → EP X pins σ Q (.ref s.heap.objs.size) { s with heap := h', toks := tk } := fun h' tk hS hk =>
    ⟨.ref _, upd H s.heap.objs.size (SetTO X.prog X.w s.heap.objs.size (listT xs)), I.laid (t' := tk) hk (Nat.le_refl _) (setTO_new hS), rfl, q _ (I.hok.fresh (Nat.le_refl _))⟩
  have room : xs.length + 1 < scanBound := Nat.lt_of_le_of_lt (Nat.succ_le_succ hl) (by decide)
  rcases hq with hq | hq
  · obtain ⟨its, rv, pl, hz⟩ := I.list hq
    exact call_setT_list (I.ok.hd hc) pl.isList (by simpa using strsAre_of rv) room fin
  · obtain ⟨its, rv, pl, hz⟩ := I.tuple hq
    exact call_setT_tuple (I.ok.hd hc) pl (by simpa using strsAre_of rv) room fin
theorem vals_strs : ∀ {us : List Value} {ys : List Str}, PySem.W.EachIs (fun v (k : Str) => ∃ tk, v = Value.str k tk) us ys → Vals (ys.map V.str) us
  | _, _, .nil => .nil
  | _, _, .cons ⟨tk, e⟩ t => .cons ⟨tk, e⟩ (vals_strs t)
def rSortTx (X : Cx) : List V → Hp → VK → Prop := fun vs H Q => ∃ (a : Addr) (L : List Str), vs = [.ref a] ∧ H a = some (SetTO X.prog X.w a L) ∧ L.length ≤ 4000 ∧ ∀ p, H p = none → Q (.ref p) (upd H p (.lst ((L.mergeSort leT).map V.str)))
theorem call_sortTx {k : Nat} (hr : Room k X.A) : CallR X (.builtin "sorted") (rSortTx X) := by
  intro pins s σ H vs us Q I r h
  obtain ⟨a, L, rfl, ha, hl, q⟩ := h
  rw [Vals.ref1 r]
  have R : SetT X.prog X.w s.heap a L := (I.hok a _ ha).1
  refine sorted_setT R hr.hd (Nat.lt_of_le_of_lt hl (by decide)) (by have := hr.un; omega) fun s' p out c ys k g o hp hg he hs pm => ?_
  have ey : ys = L.mergeSort leT := sorted_one hs (leT_sorted L) (pm.trans (List.mergeSort_perm L leT).symm)
  subst ey
  have hlen : ((L.mergeSort leT).map V.str).length ≤ sizeLine := by rw [List.length_map, List.length_mergeSort, sizeLine_eq]; omega
  have hn : H p = none := I.hok.fresh hp
  have J : Inv X pins σ (upd H p (.lst ((L.mergeSort leT).map V.str))) { s with heap := s'.heap, gens := s'.gens, drawn := s'.drawn, toks := s'.toks } :=
    I.call (ch := []) (Un.laid k hp hn) (I.hok.laid k hp ⟨hlen, out, c, vals_strs he, hg⟩) (by rw [g]; exact I.bare) (fun _ z => nomatch z)
  have e : s' = { s with heap := s'.heap, gens := s'.gens, drawn := s'.drawn, toks := s'.toks } := by
    cases s'
    cases s
    cases o
    rfl
  rw [e]
  exact ⟨.ref p, _, J, rfl, q p hn⟩
theorem strs_paired : ∀ {vs : List V} {xs : List Str} {K : PySem.W.Frag} {β : Option Addr} {O : Addr → Prop} {H : Hp} {ds : List D}, RpA K β O H vs ds → strsD ds = some xs → vs = xs.map V.str := fun h e => strs_rp h e
theorem listT_len (xs : List Str) : (listT xs).length ≤ xs.length := by
  have := foldT_len xs []
  simpa [listT] using this
theorem rpA_strs {K : PySem.W.Frag} {β : Option Addr} {O : Addr → Prop} {H : Hp} : ∀ ys : List Str, RpA K β O H (ys.map V.str) (ys.map PyData.str)
  | [] => .nil
  | y :: ys => .cons (.str y) (rpA_strs ys)
theorem se_sortSet {a : Expr} {f : Ef} {fr : Bool} {k : Nat} {p pos p2 pos2 : Pos} (A : SE X fr a f) (hr : Room k X.A) (hm : X.mg "sorted" = none) (hm2 : X.mg "set" = none) (hc : X.calm = true := by rfl) (hg : Gl X "sorted" := by rfl) (hg2 : Gl X "set" := by rfl)
    (na : starEach [a] X.env = (false, eval a X.env) :: starEach [] X.env := by rfl) (nb : starEach [.Call (.Name "set" p2) [a] [] pos2] X.env = (false, eval (.Call (.Name "set" p2) [a] [] pos2) X.env) :: starEach [] X.env := by rfl) :
    SE X true (.Call (.Name "sorted" p) [.Call (.Name "set" p2) [a] [] pos2] [] pos) (eA sortSetFD (aCons f aNil)) := by
  obtain ⟨t, pe, r⟩ := A.run
  refine ⟨_, pe_callB (call_sortTx hr) hg hm (by decide +kernel) (pa_cons (pe_callTy (call_setTx hc) hg2 hm2 (by decide +kernel) (pa_cons pe pa_nil na) (by decide) (by decide) na rfl) pa_nil nb) (by decide) (by decide) nb rfl, fun β O H σ env bx d bx' E p q Q k => ?_⟩
  obtain ⟨xs, bx1, q1, q⟩ := bnd_some q
  obtain ⟨q3, q4⟩ := opt_some q
  have q4 : bx' = bx1 := q4
  subst q4
  obtain ⟨x, bx2, es, q5, q6, rfl⟩ := aCons_some q1
  obtain ⟨rfl, rfl⟩ := aNil_some q6
  refine r β O H σ env bx x _ E p q5 _ fun v H1 a1 => ?_
  have p1 := p.step a1.kp a1.box
  have key : ∃ (b : Addr) (ts : List Str), v = .ref b ∧ (SqL X.K H1 b (ts.map V.str) ∨ SqT X.K H1 b (ts.map V.str)) ∧ ts.length ≤ 4000 ∧ d = .list ((sortT ts).map .str) := by
    have fin : ∀ ds : List D, ((strsD ds).bind fun xs => if xs.length ≤ 4000 then some (PyData.list ((sortT xs).map .str)) else none) = some d → ∃ ts, strsD ds = some ts ∧ ts.length ≤ 4000 ∧ d = .list ((sortT ts).map .str) := fun ds h => by
      obtain ⟨ts, h1, h2⟩ := Option.bind_eq_some_iff.mp h
      by_cases c : ts.length ≤ 4000
      · rw [if_pos c] at h2
        cases h2
        exact ⟨ts, h1, c, rfl⟩
      · rw [if_neg c] at h2; cases h2
    have rv := a1.rp
    cases x with
    | list ds =>
      obtain ⟨ts, h1, h2, h3⟩ := fin ds q3
      cases rv with
      | lst x y z => exact ⟨_, ts, rfl, .inl (by have := SqL.of (K := X.K) x; rwa [strs_rp z h1] at this), h2, h3⟩
    | tuple ds =>
      obtain ⟨ts, h1, h2, h3⟩ := fin ds q3
      cases rv with
      | tup x z => exact ⟨_, ts, rfl, .inr (by have := SqT.of (K := X.K) x; rwa [strs_rp z h1] at this), h2, h3⟩
    | _ => cases q3
  obtain ⟨b, ts, rfl, hq, hl, rfl⟩ := key
  refine ⟨b, ts, rfl, hq, hl, fun p2 hp2 => ?_⟩
  have hl2 := listT_len ts
  refine ⟨p2, listT ts, rfl, upd_same, by omega, fun p3 hp3 => ?_⟩
  have p3n : p3 ≠ p2 := fun z => by rw [z, upd_same] at hp3; cases hp3
  have k2 : Kp (bO β) H1 (upd H1 p2 (SetTO X.prog X.w p2 (listT ts))) := Kp.new hp2
  have b2 : BoxOk β (upd H1 p2 (SetTO X.prog X.w p2 (listT ts))) bx' := a1.box.upd fun z => by
    obtain ⟨xs, e⟩ := a1.box.there z
    rw [hp2] at e; cases e
  have pp := p1.step k2 b2
  have z := aft_new_lst (K := X.K) (xs := (sortT ts).map V.str) (ds := (sortT ts).map PyData.str) pp (rpA_strs _) hp3
  have hH3 : H p3 = none := p.none (a1.kp.trans k2) b2 hp3
  refine k _ _ ⟨(a1.kp.trans k2).trans z.kp, z.box, z.rp, fun w => ?_⟩
  obtain ⟨p', ds', e1, e2, e3, vs', e4, e5⟩ := z.fr w
  exact ⟨p', ds', e1, e2, by cases e1; exact hH3, vs', e4, e5⟩
end
end MD
end

section
set_option Elab.async false
set_option linter.all false
set_option maxRecDepth 100000
set_option maxHeartbeats 1000000
namespace MD
open PySem PySem.Spec PyProof.Rows L2

section
variable {X : Cx} {own own' own2 lo : List Nat}
/-! ### x = a new list of flat things, told by what own lists hold -/
def sSetOV (i : Nat) (a : Ef) : Sf := fun env => bnd (a env) fun d => match d with
  | .list ds => if i < env.length ∧ flatA ds = true then ret (.nx (env.set i (some (.list ds)))) else fail
  | _ => fail
theorem ss_setOV {st : Stmt} {i : Nat} {f : Ef} (A : SAs X st i true f) (m : i ∉ own := by decide) : SS X own (i :: own) lo st (sSetOV i f) := by
  obtain ⟨t, pe, r⟩ := A.run
  refine ⟨_, pe, fun β Ob H0 H σ env bx fl bx' p s b q E k => ?_⟩
  obtain ⟨d, bx1, q1, q⟩ := bnd_some q
  refine r β Ob H σ env bx d bx1 s.envV (s.preV p b) q1 _ fun v H1 a => ?_
  obtain ⟨l, ds, rfl, rfl, hn, vs, hv, rr⟩ := a.fr rfl
  have q : (if i < env.length ∧ flatA ds = true then ret (Fl.nx (env.set i (some (.list ds)))) else fail) bx1 = some (fl, bx') := q
  by_cases hl : i < env.length ∧ flatA ds = true
  case neg => rw [if_neg hl] at q; cases q
  rw [if_pos hl] at q
  have q : some (Fl.nx (env.set i (some (.list ds))), bx1) = some (fl, bx') := q
  cases q
  have hσ : i < σ.length := by rw [s.len]; exact hl.1
  have s1 := StR.setO p s b m hl.1 a.kp hn hv (rr.flatA hl.2)
  exact k _ H1 s1 a.box ⟨a.kp.mono fun q e => .inl (p.bo q e), dom_of a.kp a.box, (Stp.setO (Ob := Ob) (H := H) m hσ hn).ow⟩
/-! ### for .. in a new list of flat things -/
def sForF (set : D → Ev → Option Ev) (a : Ef) (body : Sf) : Sf := fun env => bnd (a env) fun d => match d with
  | .list ds => if flatA ds = true then forL set body ds env else fail
  | _ => fail
theorem flat_at : ∀ {ds : List D} {i : Nat} {d : D}, flatA ds = true → ds[i]? = some d → flat d = true
  | [], i, d, _, e => by simp at e
  | x :: ds, 0, d, h, e => by
    have h : flat x = true ∧ flatA ds = true := by simpa [flatA] using h
    have e : some x = some d := e
    cases e
    exact h.1
  | x :: ds, i + 1, d, h, e => by
    have h : flat x = true ∧ flatA ds = true := by simpa [flatA] using h
    exact flat_at h.2 (by simpa using e)
theorem ss_forF {tg iter : Expr} {body : List Stmt} {pos : Pos} {is : List Nat} {set : D → Ev → Option Ev} {g : Ef} {f : Sf} (hp : PassesOwn (model X.prog X.w) X.A X.env X.xe) (hc : X.calm = true) (I : SE X true iter g) (G : SG X tg is set) (B : SSs X own own own body f)
    (hm : ∀ i ∈ is, i ∉ own := by decide) (hs : ∀ x, foldedSetIterable iter X.env x = pure x := by intro _; rfl) : SS X own own lo (.For tg iter body [] pos) (sForF set g f) := by
  obtain ⟨te, pe, re⟩ := I.run
  obtain ⟨tb, pb, rb⟩ := B.run
  refine ⟨_, ps_for hp hc (pi_list pe) G.run pb hs, fun β Ob H0 H σ env bx fl bx' p s b q E k => ?_⟩
  obtain ⟨d, bx1, q1, q⟩ := bnd_some q
  cases d with
  | list ds =>
    have q : (if flatA ds = true then forL set f ds env else fail) bx1 = some (fl, bx') := q
    by_cases hf : flatA ds = true
    case neg => rw [if_neg hf] at q; cases q
    rw [if_pos hf] at q
    refine for_sem (pr := false) (ds := ds) (O := Ow Ob own σ) rb hm p s (.inr rfl) (fun R kR => ?_) q E k
    refine re β Ob H σ env bx _ bx1 s.envV (s.preV p b) q1 _ fun v H1 a => ?_
    obtain ⟨l, ds', rfl, e, hn, vs, hv, rr⟩ := a.fr rfl
    cases e
    have hO : ¬ Ow Ob own σ l := (s.preM p b).no hn
    refine ⟨l, rfl, ⟨vs, SqL.of hv⟩, kR _ H1 (YAt vs) a.kp a.box ?_ ?_⟩
    · rw [← rr.length]
      exact walk_list.mono (fun Hn z => SqL.of ((z.elim (fun w => nomatch w) id : Kp (Ow Ob own σ) H1 Hn) _ _ hv fun w => (hO w).elim)) fun i H x H' _ _ y => y
    · intro i Hn x H' hi hk y
      obtain ⟨e1, e2⟩ := y
      subst e1
      have hk : Kp (Ow Ob own σ) H1 H' := hk.elim (fun w => nomatch w) id
      obtain ⟨d, g1, g2⟩ := rr.getV e2
      refine ⟨Same.refl _, d, g1, fun O' _ => Rp.flatK (fun q xs e => hk _ _ e fun _ => rfl) _ _ g2 (flat_at hf g1)⟩
  | _ => cases q
end
end MD
end

section
set_option Elab.async false
set_option linter.all false
set_option maxRecDepth 100000
set_option maxHeartbeats 1000000
namespace MD
open PySem PySem.Spec PyProof.Rows L2

section
variable {X : Cx}
/-! ### x.index(y) of texts -/
def sindexD : D → D → Option D
  | .str a, .str b => match Builtin.Str.occurrences a b 0 a.length 1 with
    | i :: _ => some (.int (i : Nat))
    | [] => none
  | _, _ => none
theorem sindexD_inv {x y d : D} (h : sindexD x y = some d) : ∃ a b i rest, x = .str a ∧ y = .str b ∧ Builtin.Str.occurrences a b 0 a.length 1 = i :: rest ∧ d = .int (i : Nat) := by
  unfold sindexD at h
  split at h
  · split at h
    · cases h; exact ⟨_, _, _, _, rfl, rfl, by assumption, rfl⟩
    · cases h
  · cases h
theorem se_sindex {o e : Expr} {fa fb : Bool} {a b : Ef} {apos pos : Pos} (A : SE X fa o a) (B : SE X fb e b) (hs : starEach [e] X.env = [(false, eval e X.env)] := by rfl) (hbase : attributeBase o "index" X.env (eval o X.env) = eval o X.env := by rfl) (hline : (apos.endLine == pos.line) = true := by rfl) :
    SE X false (.Call (.Attribute o "index" apos) [e] [] pos) (e2 sindexD a b) := by
  obtain ⟨ta, pa, ra⟩ := A.run
  obtain ⟨tb, pb, rb⟩ := B.run
  refine ⟨_, pe_m1 F.slot_str_index F.type_str_index mt_sindex pa pb hs hbase hline, fun β O H σ env bx d bx' E p q Q k => ?_⟩
  obtain ⟨x, bx1, q1, q⟩ := bnd_some q
  obtain ⟨y, bx2, q2, q⟩ := bnd_some q
  obtain ⟨q3, q4⟩ := opt_some q
  have q4 : bx' = bx2 := q4
  subst q4
  refine ra β O H σ env bx x bx1 E p q1 _ fun v H1 a1 => ?_
  have p1 := p.step a1.kp a1.box
  obtain ⟨z, w, i, rest, rfl, rfl, e, rfl⟩ := sindexD_inv q3
  have ev : v = .str z := by cases a1.rp; rfl
  subst ev
  refine ⟨⟨z, rfl⟩, rb β O H1 σ env bx1 _ bx' (E.step (p.kO a1.kp)) p1 q2 _ fun u H2 a2 => ?_⟩
  cases a2.rp
  exact ⟨z, w, i, rest, rfl, rfl, e, k _ H2 ⟨a1.kp.trans a2.kp, a2.box, .int _, fun z => nomatch z⟩⟩
/-! ### x.upper() -/
def upperD : D → Option D
  | .str a => if a.length ≤ 5592405 then some (.str (Txt.upper a)) else none
  | _ => none
theorem upperD_inv {x d : D} (h : upperD x = some d) : ∃ a, x = .str a ∧ a.length ≤ 5592405 ∧ d = .str (Txt.upper a) := by
  cases x with
  | str a =>
    have h : (if a.length ≤ 5592405 then some (PyData.str (Txt.upper a)) else none) = some d := h
    by_cases c : a.length ≤ 5592405
    · rw [if_pos c] at h; cases h; exact ⟨a, rfl, c, rfl⟩
    · rw [if_neg c] at h; cases h
  | _ => cases h
theorem se_upper {o : Expr} {fa : Bool} {a : Ef} {apos pos : Pos} (A : SE X fa o a) (hbase : attributeBase o "upper" X.env (eval o X.env) = eval o X.env := by rfl) (hline : (apos.endLine == pos.line) = true := by rfl) :
    SE X false (.Call (.Attribute o "upper" apos) [] [] pos) (e1 upperD a) := by
  obtain ⟨ta, pa, ra⟩ := A.run
  refine ⟨_, pe_m0 F.slot_str_upper F.type_str_upper mt_upper pa hbase hline, fun β O H σ env bx d bx' E p q Q k => ?_⟩
  obtain ⟨x, bx1, q1, q⟩ := bnd_some q
  obtain ⟨q3, q4⟩ := opt_some q
  have q4 : bx' = bx1 := q4
  subst q4
  refine ra β O H σ env bx x bx' E p q1 _ fun v H1 a1 => ?_
  obtain ⟨z, rfl, c, rfl⟩ := upperD_inv q3
  have ev : v = .str z := by cases a1.rp; rfl
  subst ev
  exact ⟨⟨z, rfl⟩, z, rfl, rfl, c, k _ H1 ⟨a1.kp, a1.box, .str _, fun z => nomatch z⟩⟩
/-! ### the least of a list of numbers -/
def minL : List Int → Option Int
  | [] => none
  | a :: r => match minL r with
    | none => some a
    | some b => some (if b < a then b else a)
theorem minL_none : ∀ {l : List Int}, minL l = none → l = []
  | [], _ => rfl
  | a :: r, h => by
    unfold minL at h
    cases z : minL r <;> rw [z] at h <;> cases h
theorem minL_spec : ∀ {l : List Int} {m : Int}, minL l = some m → m ∈ l ∧ ∀ y ∈ l, m ≤ y
  | [], _, h => by cases h
  | a :: r, m, h => by
    unfold minL at h
    cases z : minL r with
    | none =>
      rw [z] at h
      cases h
      have e := minL_none z
      subst e
      exact ⟨by simp, fun y hy => by simp at hy; omega⟩
    | some b =>
      rw [z] at h
      obtain ⟨h1, h2⟩ := minL_spec z
      have h : some (if b < a then b else a) = some m := h
      cases h
      by_cases c : b < a
      · rw [if_pos c]
        exact ⟨List.mem_cons_of_mem _ h1, fun y hy => by
          rcases List.mem_cons.mp hy with rfl | hy
          · omega
          · exact h2 y hy⟩
      · rw [if_neg c]
        exact ⟨List.mem_cons_self, fun y hy => by
          rcases List.mem_cons.mp hy with rfl | hy
          · omega
          · have := h2 y hy; omega⟩
def minFD : List D → Option D
  | [.list ds] => (intsD ds).bind fun l => (minL l).map .int
  | _ => none
theorem minFD_sem : RAS X.K (rMin X.K) false minFD := by
  intro β O H bx xs ds d p r e Q k
  unfold minFD at e
  split at e
  · obtain ⟨v, rfl, h⟩ := r.one
    rename_i ds
    obtain ⟨bs, z, e⟩ := Option.bind_eq_some_iff.mp e
    obtain ⟨m, z2, rfl⟩ := Option.map_eq_some_iff.mp e
    obtain ⟨h1, h2⟩ := minL_spec z2
    cases h with
    | lst a b c =>
      refine ⟨_, bs, rfl, by rw [← ints_rp c z]; exact SqL.of a, List.length_pos_of_mem h1, fun m' g1 g2 => ?_⟩
      have : m' = m := by
        have := g2 m h1
        have := h2 m' g1
        omega
      subst this
      exact k _ _ (aft_same p (.int _))
  · cases e
end
end MD
end

section
set_option Elab.async false
set_option linter.all false
set_option maxRecDepth 100000
set_option maxHeartbeats 1600000
namespace MD
open PySem PySem.Spec PyProof.Rows L2

/-! ### tuple(text) -/
theorem call_tuple_text {X : Cx} (hc : X.calm = true) : CallR X (.type "tuple") (fun xs H Q => ∃ x : Str, xs = [.str x] ∧ x.length ≤ sizeLine ∧ ∀ l, H l = none → Q (.ref l) (upd H l (.tup (x.cps.toList.map fun c => V.str ⟨#[c]⟩)))) := by
  intro pins s σ H xs us Q I r h
  obtain ⟨x, rfl, hx, q⟩ := h
  obtain ⟨u, rfl, t, rfl⟩ := vals1 r
  refine call_tuple_str (I.ok.hd hc) x t (fun h' tk acc' kp ha => ?_) hx
  obtain ⟨hs, hv⟩ := ha
  have hvals : Vals (x.cps.toList.map fun c => V.str ⟨#[c]⟩) acc'.toList := by
    have h1 := vals_of_get acc'.toList (fun j => V.str ⟨#[x.cps.getD j 0]⟩) (fun j u e => by
      obtain ⟨c, t, h2, rfl⟩ := hv j u (by simpa using e)
      refine ⟨t, ?_⟩
      congr 3
      simp [Array.getD, h2]
      have h3 := h2
      rw [Array.getElem?_eq_some_iff] at h3
      obtain ⟨h4, h5⟩ := h3
      simp [h4, h5])
    have e2 : (List.range acc'.toList.length).map (fun j => V.str ⟨#[x.cps.getD j 0]⟩) = x.cps.toList.map fun c => V.str ⟨#[c]⟩ := by
      apply List.ext_getElem?
      intro i
      by_cases hi : i < x.cps.size
      · simp [hi, hs, Array.getD]
      · rw [List.getElem?_eq_none (by simpa [hs] using hi), List.getElem?_eq_none (by simpa using hi)]
    rw [e2] at h1
    exact h1
  have hz : (x.cps.toList.map fun c => V.str ⟨#[c]⟩).length ≤ sizeLine := by rw [List.length_map]; exact hx
  have hT : IsTup (h'.push { cls := .type "tuple", data := .seq acc' }) h'.objs.size acc'.toList.toArray := by
    have := IsTup.new h' acc'
    simpa using this
  have I1 : Inv X pins σ H { s with heap := h', toks := tk } := I.kept (t' := tk) kp
  have I2 : Inv X pins σ (upd H h'.objs.size (.tup (x.cps.toList.map fun c => V.str ⟨#[c]⟩))) { s with heap := h'.push { cls := .type "tuple", data := .seq acc' }, toks := tk } :=
    I1.laid (t' := tk) (fun b o e => Heap.get?_push_of_some _ e) (Nat.le_refl _) (show ObjOk X.prog X.w _ _ _ (.tup (x.cps.toList.map fun c => V.str ⟨#[c]⟩)) from ⟨hz, acc'.toList, hvals, hT⟩)
  exact ⟨.ref h'.objs.size, _, I2, rfl, q _ (I1.hok.fresh (Nat.le_refl _))⟩
def tupAD : List D → Option D
  | [.str z] => if z.length ≤ sizeLine then some (.tuple (signs z)) else none
  | l => tupFD l
section
variable {X : Cx}
theorem call_tupleAll : CallR X (.type "tuple") (fun xs H Q => (∃ p ys, xs = [.ref p] ∧ ((SqL X.K H p ys ∧ ∀ l, H l = none → Q (.ref l) (upd H l (.tup ys))) ∨ (SqT X.K H p ys ∧ Q (.ref p) H))) ∨ (X.calm = true ∧ ∃ x : Str, xs = [.str x] ∧ x.length ≤ sizeLine ∧ ∀ l, H l = none → Q (.ref l) (upd H l (.tup (x.cps.toList.map fun c => V.str ⟨#[c]⟩))))) := by
  intro pins s σ H xs us Q I r h
  rcases h with h | ⟨hc, h⟩
  · exact call_tuple_of pins s σ H xs us Q I r h
  · exact call_tuple_text hc pins s σ H xs us Q I r h
theorem tupAD_sem (hc : X.calm = true) : RAS X.K (fun xs H Q => (∃ p ys, xs = [.ref p] ∧ ((SqL X.K H p ys ∧ ∀ l, H l = none → Q (.ref l) (upd H l (.tup ys))) ∨ (SqT X.K H p ys ∧ Q (.ref p) H))) ∨ (X.calm = true ∧ ∃ x : Str, xs = [.str x] ∧ x.length ≤ sizeLine ∧ ∀ l, H l = none → Q (.ref l) (upd H l (.tup (x.cps.toList.map fun c => V.str ⟨#[c]⟩))))) false tupAD := by
  intro β O H bx xs ds d p r e Q k
  unfold tupAD at e
  split at e
  · rename_i z
    obtain ⟨v, rfl, h⟩ := r.one
    cases h
    by_cases c : z.length ≤ sizeLine
    · rw [if_pos c] at e
      cases e
      refine .inr ⟨hc, z, rfl, c, fun q hq => k _ _ (aft_new_tup p ?_ hq)⟩
      have go : ∀ l : List Nat, RpA X.K β O H (l.map fun c => V.str ⟨#[c]⟩) (l.map fun c => PyData.str ⟨#[c]⟩) := fun l => by
        induction l with
        | nil => exact .nil
        | cons a l ih => exact .cons (.str _) ih
      exact go _
    · rw [if_neg c] at e; cases e
  · exact .inl (tupFD_sem (X := X) β O H bx xs _ d p r e Q k)

/-! ### len(set(xs)) of texts -/
def lenSetFD : List D → Option D
  | [.list ds] => (strsD ds).bind fun xs => if xs.length ≤ 4000 then some (.int (listT xs).length) else none
  | [.tuple ds] => (strsD ds).bind fun xs => if xs.length ≤ 4000 then some (.int (listT xs).length) else none
  | _ => none
def rLenTx (X : Cx) : List V → Hp → VK → Prop := fun vs H Q => ∃ (a : Addr) (L : List Str), vs = [.ref a] ∧ H a = some (SetTO X.prog X.w a L) ∧ L.length ≤ 4000 ∧ Q (.int (L.length : Nat)) H
theorem call_lenTx : CallR X (.builtin "len") (rLenTx X) := by
  intro pins s σ H vs us Q I r h
  obtain ⟨a, L, rfl, ha, hl, q⟩ := h
  rw [Vals.ref1 r]
  have R : SetT X.prog X.w s.heap a L := (I.hok a _ ha).1
  obtain ⟨o, es, ep, t, ho, hex, hd, g, pm, nd, hf, hr, hL⟩ := R
  have hsz : es.size = L.length := by rw [← pm.length_eq, List.length_map, Array.length_toList]
  refine call_len_set ho hex hd hf (by rw [hsz]; omega) ⟨.int L.length, H, I.tok _, ⟨_, by rw [hsz]⟩, q⟩
theorem se_lenSet {a : Expr} {f : Ef} {fr : Bool} {p pos p2 pos2 : Pos} (A : SE X fr a f) (hm : X.mg "len" = none) (hm2 : X.mg "set" = none) (hc : X.calm = true := by rfl) (hg : Gl X "len" := by rfl) (hg2 : Gl X "set" := by rfl)
    (na : starEach [a] X.env = (false, eval a X.env) :: starEach [] X.env := by rfl) (nb : starEach [.Call (.Name "set" p2) [a] [] pos2] X.env = (false, eval (.Call (.Name "set" p2) [a] [] pos2) X.env) :: starEach [] X.env := by rfl) :
    SE X false (.Call (.Name "len" p) [.Call (.Name "set" p2) [a] [] pos2] [] pos) (eA lenSetFD (aCons f aNil)) := by
  obtain ⟨t, pe, r⟩ := A.run
  refine ⟨_, pe_callB call_lenTx hg hm (by decide +kernel) (pa_cons (pe_callTy (call_setTx hc) hg2 hm2 (by decide +kernel) (pa_cons pe pa_nil na) (by decide) (by decide) na rfl) pa_nil nb) (by decide) (by decide) nb rfl, fun β O H σ env bx d bx' E p q Q k => ?_⟩
  obtain ⟨xs, bx1, q1, q⟩ := bnd_some q
  obtain ⟨q3, q4⟩ := opt_some q
  have q4 : bx' = bx1 := q4
  subst q4
  obtain ⟨x, bx2, es, q5, q6, rfl⟩ := aCons_some q1
  obtain ⟨rfl, rfl⟩ := aNil_some q6
  refine r β O H σ env bx x _ E p q5 _ fun v H1 a1 => ?_
  have p1 := p.step a1.kp a1.box
  have key : ∃ (b : Addr) (ts : List Str), v = .ref b ∧ (SqL X.K H1 b (ts.map V.str) ∨ SqT X.K H1 b (ts.map V.str)) ∧ ts.length ≤ 4000 ∧ d = .int (listT ts).length := by
    have fin : ∀ ds : List D, ((strsD ds).bind fun xs => if xs.length ≤ 4000 then some (PyData.int (listT xs).length) else none) = some d → ∃ ts, strsD ds = some ts ∧ ts.length ≤ 4000 ∧ d = .int (listT ts).length := fun ds h => by
      obtain ⟨ts, h1, h2⟩ := Option.bind_eq_some_iff.mp h
      by_cases c : ts.length ≤ 4000
      · rw [if_pos c] at h2
        cases h2
        exact ⟨ts, h1, c, rfl⟩
      · rw [if_neg c] at h2; cases h2
    have rv := a1.rp
    cases x with
    | list ds =>
      obtain ⟨ts, h1, h2, h3⟩ := fin ds q3
      cases rv with
      | lst x y z => exact ⟨_, ts, rfl, .inl (by have := SqL.of (K := X.K) x; rwa [strs_rp z h1] at this), h2, h3⟩
    | tuple ds =>
      obtain ⟨ts, h1, h2, h3⟩ := fin ds q3
      cases rv with
      | tup x z => exact ⟨_, ts, rfl, .inr (by have := SqT.of (K := X.K) x; rwa [strs_rp z h1] at this), h2, h3⟩
    | _ => cases q3
  obtain ⟨b, ts, rfl, hq, hl, rfl⟩ := key
  refine ⟨b, ts, rfl, hq, hl, fun p2 hp2 => ?_⟩
  have hl2 := listT_len ts
  have k2 : Kp (bO β) H1 (upd H1 p2 (SetTO X.prog X.w p2 (listT ts))) := Kp.new hp2
  have b2 : BoxOk β (upd H1 p2 (SetTO X.prog X.w p2 (listT ts))) bx' := a1.box.upd fun z => by
    obtain ⟨xs, e⟩ := a1.box.there z
    rw [hp2] at e; cases e
  have pp := p1.step k2 b2
  refine ⟨p2, listT ts, rfl, upd_same, by omega, ?_⟩
  have z := aft_same (K := X.K) pp (.int ((listT ts).length : Int))
  exact k _ _ ⟨(a1.kp.trans k2).trans z.kp, z.box, z.rp, fun w => nomatch w⟩
end
end MD
end

section
set_option Elab.async false
set_option linter.all false
set_option maxRecDepth 100000
set_option maxHeartbeats 1600000
namespace MD
open PySem PySem.Spec PyProof.Rows L2

section
variable {X : Cx}
/-! ### a tuple of texts that the module keeps -/
structure GTup (K : PySem.W.Frag) (mg : Str → Option Value) (x : Str) (zs : List Str) : Prop where
  at' : ∃ a : Addr, mg x = some (.ref a) ∧ ∀ H, SqT K H a (zs.map V.str)
theorem rpA_str {K : PySem.W.Frag} {β : Option Addr} {O : Addr → Prop} {H : Hp} : ∀ ys : List Str, RpA K β O H (ys.map V.str) (ys.map PyData.str)
  | [] => .nil
  | y :: ys => .cons (.str y) (rpA_str ys)
theorem si_gtup {tg : Expr} {x : Str} {zs : List Str} {pos : Pos} (h : GTup X.K X.mg x zs) (hg : Gl X x := by rfl) (hd : (x == ("__debug__" : Str)) = false := by decide) : SI X tg (.Name x pos) false (iOf itemsD (eC (.tuple (zs.map .str)))) := by
  obtain ⟨a, hm, hT⟩ := h.at'
  refine ⟨_, pi_tup (pe_glob (v := .ref a) hg hm rfl hd), fun β O H σ env bx ds bx' E p q R k => ?_⟩
  have q : some (zs.map PyData.str, bx) = some (ds, bx') := q
  cases q
  refine ⟨_, rfl, ⟨_, hT H⟩, k _ H (YAt (zs.map V.str)) .refl p.box ?_ ?_⟩
  · rw [List.length_map, ← List.length_map (f := V.str)]
    exact walk_tup.mono (fun Hn _ => hT Hn) fun i H x H' _ _ y => y
  · intro i Hn x H' hi hk y
    obtain ⟨e1, e2⟩ := y
    subst e1
    obtain ⟨d, g1, g2⟩ := (rpA_str (K := X.K) (β := β) (O := O) (H := H) zs).getV e2
    have hk : Kp O H H' := hk.elim (fun w => nomatch w) id
    exact ⟨Same.refl _, d, g1, fun O' ho => Rp.map hk (ho.elim (fun w => nomatch w) id) _ _ g2⟩
/-! ### x.strip(y), x.endswith(y) -/
def stripD : D → D → Option D
  | .str a, .str b => if a.length ≤ sizeLine then some (.str (Txt.stripChars a b)) else none
  | _, _ => none
theorem stripD_inv {x y d : D} (h : stripD x y = some d) : ∃ a b, x = .str a ∧ y = .str b ∧ a.length ≤ sizeLine ∧ d = .str (Txt.stripChars a b) := by
  unfold stripD at h
  split at h
  · split at h
    · cases h; exact ⟨_, _, rfl, rfl, by assumption, rfl⟩
    · cases h
  · cases h
theorem se_stripC {o e : Expr} {fa fb : Bool} {a b : Ef} {apos pos : Pos} (A : SE X fa o a) (B : SE X fb e b) (hs : starEach [e] X.env = [(false, eval e X.env)] := by rfl) (hbase : attributeBase o "strip" X.env (eval o X.env) = eval o X.env := by rfl) (hline : (apos.endLine == pos.line) = true := by rfl) :
    SE X false (.Call (.Attribute o "strip" apos) [e] [] pos) (e2 stripD a b) := by
  obtain ⟨ta, pa, ra⟩ := A.run
  obtain ⟨tb, pb, rb⟩ := B.run
  refine ⟨_, pe_m1 F.slot_str_strip F.type_str_strip mt_stripChars pa pb hs hbase hline, fun β O H σ env bx d bx' E p q Q k => ?_⟩
  obtain ⟨x, bx1, q1, q⟩ := bnd_some q
  obtain ⟨y, bx2, q2, q⟩ := bnd_some q
  obtain ⟨q3, q4⟩ := opt_some q
  have q4 : bx' = bx2 := q4
  subst q4
  refine ra β O H σ env bx x bx1 E p q1 _ fun v H1 a1 => ?_
  have p1 := p.step a1.kp a1.box
  obtain ⟨z, w, rfl, rfl, hz, rfl⟩ := stripD_inv q3
  have ev : v = .str z := by cases a1.rp; rfl
  subst ev
  refine ⟨⟨z, rfl⟩, rb β O H1 σ env bx1 _ bx' (E.step (p.kO a1.kp)) p1 q2 _ fun u H2 a2 => ?_⟩
  cases a2.rp
  exact ⟨z, w, rfl, rfl, hz, k _ H2 ⟨a1.kp.trans a2.kp, a2.box, .str _, fun z => nomatch z⟩⟩
def endsD : D → D → Option D
  | .str a, .str b => some (.bool (Txt.endswith a b))
  | _, _ => none
theorem endsD_inv {x y d : D} (h : endsD x y = some d) : ∃ a b, x = .str a ∧ y = .str b ∧ d = .bool (Txt.endswith a b) := by
  unfold endsD at h
  split at h
  · cases h; exact ⟨_, _, rfl, rfl, rfl⟩
  · cases h
theorem se_ends {o e : Expr} {fa fb : Bool} {a b : Ef} {apos pos : Pos} (A : SE X fa o a) (B : SE X fb e b) (hs : starEach [e] X.env = [(false, eval e X.env)] := by rfl) (hbase : attributeBase o "endswith" X.env (eval o X.env) = eval o X.env := by rfl) (hline : (apos.endLine == pos.line) = true := by rfl) :
    SE X false (.Call (.Attribute o "endswith" apos) [e] [] pos) (e2 endsD a b) := by
  obtain ⟨ta, pa, ra⟩ := A.run
  obtain ⟨tb, pb, rb⟩ := B.run
  refine ⟨_, pe_m1 F.slot_str_endswith F.type_str_endswith mt_endswith pa pb hs hbase hline, fun β O H σ env bx d bx' E p q Q k => ?_⟩
  obtain ⟨x, bx1, q1, q⟩ := bnd_some q
  obtain ⟨y, bx2, q2, q⟩ := bnd_some q
  obtain ⟨q3, q4⟩ := opt_some q
  have q4 : bx' = bx2 := q4
  subst q4
  refine ra β O H σ env bx x bx1 E p q1 _ fun v H1 a1 => ?_
  have p1 := p.step a1.kp a1.box
  obtain ⟨z, w, rfl, rfl, rfl⟩ := endsD_inv q3
  have ev : v = .str z := by cases a1.rp; rfl
  subst ev
  refine ⟨⟨z, rfl⟩, rb β O H1 σ env bx1 _ bx' (E.step (p.kO a1.kp)) p1 q2 _ fun u H2 a2 => ?_⟩
  cases a2.rp
  exact ⟨z, w, rfl, rfl, k _ H2 ⟨a1.kp.trans a2.kp, a2.box, .bl _, fun z => nomatch z⟩⟩
/-! ### a text within a text -/
def inTD : D → D → Option D
  | .str a, .str z => some (.bool (!(Builtin.Str.occurrences z a 0 z.length 1).isEmpty))
  | _, _ => none
theorem inTD_sem : R2S X.K (fun x y H Q => ∃ i j, x = .str i ∧ y = .str j ∧ Q (.bl (!(Builtin.Str.occurrences j i 0 j.length 1).isEmpty)) H) false inTD := by
  intro β O H bx x y dx dy d p rx ry e Q k
  cases rx with
  | str a =>
    cases ry with
    | str z =>
      cases e
      exact ⟨_, _, rfl, rfl, k _ _ (aft_same p (.bl _))⟩
    | _ => cases e
  | _ => cases e
theorem hgInT : ∀ x y d, inTD x y = some d → ∃ c, d = .bool c := fun x y d h => by
  unfold inTD at h
  split at h
  · cases h; exact ⟨_, rfl⟩
  · cases h
/-! ### divmod of ints -/
def divmodFD : List D → Option D
  | [.int i, .int j] => if 0 < j ∧ j < 1073741824 then some (.tuple [.int (i / j), .int (i % j)]) else none
  | _ => none
theorem divmodFD_sem : RAS X.K (fun xs H Q => ∃ i j, xs = [.int i, .int j] ∧ CDiv i j ∧ ∀ p, H p = none → Q (.ref p) (upd H p (.tup [.int (i / j), .int (i % j)]))) false divmodFD := by
  intro β O H bx xs ds d p r e Q k
  unfold divmodFD at e
  split at e
  · rename_i i j
    split at e
    · rename_i hc
      cases e
      obtain ⟨v, w, rfl, h1, h2⟩ := r.two
      cases h1; cases h2
      exact ⟨i, j, rfl, hc, fun q hq => k _ _ (aft_new_tup p (.cons (.int _) (.cons (.int _) .nil)) hq)⟩
    · cases e
  · cases e
end
end MD
end

section
set_option Elab.async false
set_option linter.all false
set_option maxRecDepth 100000
/-! Mth1: the helpers that all laws share, as plain functions, and what they give. -/
namespace MD
open PySem L2

def Run {α : Type} (m : M α) (bx : Bx) (Q : α → Bx → Prop) : Prop := ∃ a bx', m bx = some (a, bx') ∧ Q a bx'
theorem run_ret {α : Type} {a : α} {bx : Bx} {Q : α → Bx → Prop} (h : Q a bx) : Run (ret a) bx Q := ⟨a, bx, rfl, h⟩
theorem run_bnd {α γ : Type} {m : M α} {k : α → M γ} {bx : Bx} {Q : γ → Bx → Prop} (h : Run m bx fun a b => Run (k a) b Q) : Run (bnd m k) bx Q := by
  obtain ⟨a, b, e, c, b', e2, q⟩ := h
  exact ⟨c, b', by unfold bnd; rw [e]; exact e2, q⟩
theorem run_opt {α : Type} {o : Option α} {a : α} {bx : Bx} {Q : α → Bx → Prop} (e : o = some a) (h : Q a bx) : Run (opt o) bx Q := ⟨a, bx, by unfold opt; rw [e], h⟩
theorem Run.mono {α : Type} {m : M α} {bx : Bx} {Q Q' : α → Bx → Prop} (h : Run m bx Q) (i : ∀ a b, Q a b → Q' a b) : Run m bx Q' := by
  obtain ⟨a, b, e, q⟩ := h
  exact ⟨a, b, e, i a b q⟩
theorem Run.of {α : Type} {m : M α} {bx : Bx} {a : α} {b : Bx} {Q : α → Bx → Prop} (e : m bx = some (a, b)) (q : Q a b) : Run m bx Q := ⟨a, b, e, q⟩
section
variable {env : Ev} {bx : Bx} {Q : D → Bx → Prop}
theorem run_var {i : Nat} {d : D} (e : env[i]? = some (some d)) (h : Q d bx) : Run (eVar i env) bx Q := run_opt (by rw [e]; rfl) h
theorem run_c {d : D} (h : Q d bx) : Run (eC d env) bx Q := run_ret h
theorem run_e1 {g : D → Option D} {a : Ef} (h : Run (a env) bx fun x b => ∃ d, g x = some d ∧ Q d b) : Run (e1 g a env) bx Q := run_bnd (h.mono fun x b ⟨d, e, q⟩ => run_opt e q)
theorem run_e2 {g : D → D → Option D} {a c : Ef} (h : Run (a env) bx fun x b => Run (c env) b fun y b' => ∃ d, g x y = some d ∧ Q d b') : Run (e2 g a c env) bx Q :=
  run_bnd (h.mono fun x b q => run_bnd (q.mono fun y b' ⟨d, e, q⟩ => run_opt e q))
theorem run_ix {a c : Ef} (h : Run (a env) bx fun x b => Run (c env) b fun y b' => Run (ixM x y) b' Q) : Run (eIx a c env) bx Q := run_bnd (h.mono fun x b q => run_bnd q)
theorem run_A {g : List D → Option D} {as : Ev → M (List D)} (h : Run (as env) bx fun xs b => ∃ d, g xs = some d ∧ Q d b) : Run (eA g as env) bx Q := run_bnd (h.mono fun x b ⟨d, e, q⟩ => run_opt e q)
theorem run_call {F : Ff} {as : Ev → M (List D)} (h : Run (as env) bx fun xs b => Run (F xs) b Q) : Run (eCall F as env) bx Q := run_bnd h
theorem run_callK {is : List Nat} {F : Ff} {as : Ev → M (List D)} (h : Run (as env) bx fun xs b => Run (F (pick is xs)) b Q) : Run (eCallK is F as env) bx Q := run_bnd h
theorem run_nil {Q : List D → Bx → Prop} (h : Q [] bx) : Run (aNil env) bx Q := run_ret h
theorem run_cons {a : Ef} {as : Ev → M (List D)} {Q : List D → Bx → Prop} (h : Run (a env) bx fun x b => Run (as env) b fun xs b' => Q (x :: xs) b') : Run (aCons a as env) bx Q := run_bnd (h.mono fun x b q => run_bnd (q.mono fun xs b' q => run_ret q))
theorem run_sl {g : D → Option Int → Option Int → Option D} {a : Ef} {l u : Pf} (h : Run (a env) bx fun x b => Run (l env) b fun lo b => Run (u env) b fun hi b => ∃ d, g x lo hi = some d ∧ Q d b) : Run (eSl g a l u env) bx Q :=
  run_bnd (h.mono fun x b q => run_bnd (q.mono fun lo b q => run_bnd (q.mono fun hi b ⟨d, e, q⟩ => run_opt e q)))
theorem run_no {Q : Option Int → Bx → Prop} (h : Q none bx) : Run (pNo env) bx Q := run_ret h
theorem run_so {a : Ef} {Q : Option Int → Bx → Prop} (h : Run (a env) bx fun x b => ∃ i, x = .int i ∧ Q (some i) b) : Run (pSo a env) bx Q := run_bnd (h.mono fun x b ⟨i, e, q⟩ => run_opt (by rw [e]; rfl) q)
theorem run_tOf {a : Ef} {Q : Bool → Bx → Prop} (h : Run (a env) bx fun x b => ∃ c, truD x = some c ∧ Q c b) : Run (tOf a env) bx Q := run_bnd (h.mono fun x b ⟨d, e, q⟩ => run_opt e q)
theorem run_tNt {a : Tf} {Q : Bool → Bx → Prop} (h : Run (a env) bx fun c b => Q (!c) b) : Run (tNt a env) bx Q := run_bnd (h.mono fun x b q => run_ret q)
theorem run_tAn {a c : Tf} {Q : Bool → Bx → Prop} (h : Run (a env) bx fun k b => if k = true then Run (c env) b Q else Q false b) : Run (tAn a c env) bx Q := run_bnd (h.mono fun x b q => by
  cases x with
  | true => exact q
  | false => exact run_ret q)
theorem run_tOrr {a c : Tf} {Q : Bool → Bx → Prop} (h : Run (a env) bx fun k b => if k = true then Q true b else Run (c env) b Q) : Run (tOrr a c env) bx Q := run_bnd (h.mono fun x b q => by
  cases x with
  | true => exact run_ret q
  | false => exact q)
theorem run_eIf {c : Tf} {a e : Ef} (h : Run (c env) bx fun k b => if k = true then Run (a env) b Q else Run (e env) b Q) : Run (eIf c a e env) bx Q := run_bnd (h.mono fun x b q => by
  cases x with
  | true => exact q
  | false => exact q)
theorem run_eAn {a c : Ef} (h : Run (a env) bx fun x b => ∃ k, truD x = some k ∧ if k = true then Run (c env) b Q else Q x b) : Run (eAn a c env) bx Q := run_bnd (h.mono fun x b ⟨k, e, q⟩ => run_bnd (run_opt e (by
  cases k with
  | true => exact q
  | false => exact run_ret q)))
theorem run_eOr {a c : Ef} (h : Run (a env) bx fun x b => ∃ k, truD x = some k ∧ if k = true then Q x b else Run (c env) b Q) : Run (eOr a c env) bx Q := run_bnd (h.mono fun x b ⟨k, e, q⟩ => run_bnd (run_opt e (by
  cases k with
  | true => exact run_ret q
  | false => exact q)))
theorem run_it {g : D → Option (List D)} {a : Ef} {Q : List D → Bx → Prop} (h : Run (a env) bx fun x b => ∃ d, g x = some d ∧ Q d b) : Run (iOf g a env) bx Q := run_bnd (h.mono fun x b ⟨d, e, q⟩ => run_opt e q)
theorem run_its {g : List D → Option (List D)} {a : Ev → M (List D)} {Q : List D → Bx → Prop} (h : Run (a env) bx fun x b => ∃ d, g x = some d ∧ Q d b) : Run (iArgs g a env) bx Q := run_bnd (h.mono fun x b ⟨d, e, q⟩ => run_opt e q)
theorem run_lc {vs : List Nat} {set : D → Ev → Option Ev} {it : Lf} {tt : Tf} {el : Ef} (h : Run (it env) bx fun ds b => ds.length ≤ sizeLine ∧ Run (compL set tt el (maskE vs env) ds) b fun ys b' => Q (.list ys) b') : Run (eLc vs set it tt el env) bx Q :=
  run_bnd (h.mono fun ds b ⟨hz, q⟩ => by
    rw [if_pos hz]
    exact run_bnd (q.mono fun ys b' q => run_ret q))
end
section
variable {env : Ev} {bx : Bx} {Q : Fl → Bx → Prop}
theorem run_seq {a c : Sf} (h : Run (a env) bx fun fl b => match fl with | .nx e => Run (c e) b Q | o => Q o b) : Run (sSeq a c env) bx Q := run_bnd (h.mono fun fl b q => by
  cases fl with
  | nx e => exact q
  | rt d => exact run_ret q
  | bk e => exact run_ret q
  | ct e => exact run_ret q)
theorem run_setM {own : List Nat} {i : Nat} {a : Ef} (h : Run (a (maskE own env)) bx fun d b => Q (.nx (env.set i (some d))) b) : Run (sSetM own i a env) bx Q := run_bnd (h.mono fun d b q => run_ret q)
theorem run_setV {i : Nat} {a : Ef} (h : Run (a env) bx fun d b => flat d = true ∧ Q (.nx (env.set i (some d))) b) : Run (sSetV i a env) bx Q := run_bnd (h.mono fun d b ⟨f, q⟩ => by rw [if_pos f]; exact run_ret q)
theorem run_setO {own : List Nat} {i : Nat} {a : Ef} (hi : i < env.length) (h : Run (a (maskE own env)) bx fun d b => Q (.nx (env.set i (some d))) b) : Run (sSetO own i a env) bx Q := run_bnd (h.mono fun d b q => by rw [if_pos hi]; exact run_ret q)
theorem run_rt {a : Ef} (h : Run (a env) bx fun d b => Q (.rt d) b) : Run (sRet a env) bx Q := run_bnd (h.mono fun d b q => run_ret q)
theorem run_snil (h : Q (.nx env) bx) : Run (sNil env) bx Q := run_ret h
theorem run_sif {c : Tf} {a e : Sf} (h : Run (c env) bx fun k b => if k = true then Run (a env) b Q else Run (e env) b Q) : Run (sIf c a e env) bx Q := run_bnd (h.mono fun x b q => by
  cases x with
  | true => exact q
  | false => exact q)
theorem run_for {msk : List Nat} {set : D → Ev → Option Ev} {it : Lf} {body : Sf} (h : Run (it (maskE msk env)) bx fun ds b => Run (forL set body ds env) b Q) : Run (sFor msk set it body env) bx Q := run_bnd h
theorem run_par {own is : List Nat} {as : Ev → M (List D)} (h : Run (as (maskE own env)) bx fun ds b => ∃ e, setL is ds env = some e ∧ Q (.nx e) b) : Run (sPar own is as env) bx Q := run_bnd (h.mono fun ds b ⟨e, z, q⟩ => run_bnd (run_opt z (run_ret q)))
theorem run_app {msk : List Nat} {vis : Bool} {i : Nat} {a : Ef} {l : List D} (hl : env[i]? = some (some (.list l))) (h : Run (a (maskE msk env)) bx fun d b => ((vis = true → flat d = true) ∧ l.length < sizeLine) ∧ Q (.nx (env.set i (some (.list (l ++ [d]))))) b) : Run (sApp msk vis i a env) bx Q :=
  run_bnd (h.mono fun d b ⟨z, q⟩ => run_bnd (run_opt (by unfold getL; rw [hl]) (by rw [if_pos z]; exact run_ret q)))
theorem run_aug {g : Int → Int → Int} {i : Nat} {a : Ef} {x : Int} (hx : env[i]? = some (some (.int x))) (h : Run (a env) bx fun d b => ∃ y, d = .int y ∧ Q (.nx (env.set i (some (.int (g x y))))) b) : Run (sAug g i a env) bx Q :=
  run_bnd (run_opt (by unfold getI; rw [hx]) (run_bnd (h.mono fun d b ⟨y, e, q⟩ => run_bnd (run_opt (by rw [e]; rfl) (run_ret q)))))
theorem run_putB {i : Nat} {ix a : Ef} {bx' : Bx} {z n : Int} {j : Nat} (hi : isBox env i = true) (h : Run (a env) bx fun d b => d = .int n ∧ Run (ix env) b fun k b => k = .int z ∧ ixN 3 z = some j ∧ putB b j n = some bx' ∧ Q (.nx env) bx') : Run (sPutB i ix a env) bx Q :=
  run_bnd (h.mono fun d b ⟨e, q⟩ => run_bnd (q.mono fun k b ⟨e1, e2, e3, q⟩ => run_bnd (run_opt (by subst e1; rfl) (run_bnd (run_opt (a := n) (by subst e; rfl) (run_bnd (run_opt e2 ⟨.nx env, bx', by
    show (if isBox env i = true then _ else _) = _
    rw [if_pos hi, e3], q⟩)))))))
end
theorem run_F {n N : Nat} {body : Sf} {ds : List D} {bx : Bx} {Q : D → Bx → Prop} (hl : ds.length = n) (h : Run (body (ds.map some ++ List.replicate (N - n) none)) bx fun fl b => match fl with | .rt d => Q d b | .nx _ => Q .none b | _ => False) : Run (mkF n N body ds) bx Q := by
  unfold mkF
  rw [if_pos hl]
  unfold endF
  refine run_bnd (h.mono fun fl b q => ?_)
  cases fl with
  | nx e => exact run_ret q
  | rt d => exact run_ret q
  | bk e => exact q.elim
  | ct e => exact q.elim

/-! ### a for's turns, a comprehension's turns -/
theorem run_forL {set : D → Ev → Option Ev} {body : Sf} (I : Nat → Ev → Bx → Prop) {Q : Fl → Bx → Prop} : ∀ (ds : List D) (k : Nat) (env : Ev) (bx : Bx), I k env bx →
    (∀ i d env bx, ds[i]? = some d → I (k + i) env bx → ∃ e, set d env = some e ∧ Run (body e) bx fun fl b => match fl with | .nx e => I (k + i + 1) e b | .ct e => I (k + i + 1) e b | .bk e => Q (.nx e) b | .rt v => Q (.rt v) b) →
    (∀ env bx, I (k + ds.length) env bx → Q (.nx env) bx) → Run (forL set body ds env) bx Q
  | [], k, env, bx, h, _, f => run_ret (f env bx h)
  | d :: ds, k, env, bx, h, s, f => by
    obtain ⟨e, h1, h2⟩ := s 0 d env bx rfl h
    show Run (bnd (opt (set d env)) _) bx Q
    refine run_bnd (run_opt h1 (run_bnd (h2.mono fun fl b q => ?_)))
    have again := fun env bx (h : I (k + 1) env bx) => run_forL (set := set) (body := body) I (Q := Q) ds (k + 1) env bx h (fun i d env bx e1 e2 => by
      have := s (i + 1) d env bx e1 (by rw [show k + (i + 1) = k + 1 + i by omega]; exact e2)
      rw [show k + (i + 1) = k + 1 + i by omega] at this
      exact this) (fun env bx h => f env bx (by rw [show k + (d :: ds).length = k + 1 + ds.length by simp; omega]; exact h))
    cases fl with
    | nx e => exact again e b q
    | ct e => exact again e b q
    | bk e => exact run_ret q
    | rt v => exact run_ret q
/-- every turn keeps one word -/
theorem run_forL' {set : D → Ev → Option Ev} {body : Sf} (I : Nat → Ev → Bx → Prop) {Q : Fl → Bx → Prop} {ds : List D} {env : Ev} {bx : Bx} (h : I 0 env bx)
    (s : ∀ i d env bx, ds[i]? = some d → I i env bx → ∃ e, set d env = some e ∧ Run (body e) bx fun fl b => match fl with | .nx e => I (i + 1) e b | .ct e => I (i + 1) e b | .bk e => Q (.nx e) b | .rt v => Q (.rt v) b)
    (f : ∀ env bx, I ds.length env bx → Q (.nx env) bx) : Run (forL set body ds env) bx Q :=
  run_forL I ds 0 env bx h (fun i d env bx e1 e2 => by
    rw [Nat.zero_add] at e2 ⊢
    exact s i d env bx e1 e2) fun env bx h => f env bx (by rw [Nat.zero_add] at h; exact h)
/-- a comprehension without draws: the image of each item -/
theorem comp_pure {set : D → Ev → Option Ev} {tt : Tf} {el : Ef} {env0 : Ev} {bx : Bx} (p : D → Bool) (g : D → D) : ∀ {ds : List D}, (∀ d ∈ ds, ∃ e, set d env0 = some e ∧ tt e bx = some (p d, bx) ∧ (p d = true → el e bx = some (g d, bx))) →
    compL set tt el env0 ds bx = some ((ds.filter p).map g, bx)
  | [], _ => rfl
  | d :: ds, h => by
    obtain ⟨e, h1, h2, h3⟩ := h d List.mem_cons_self
    have ih := comp_pure (set := set) (tt := tt) (el := el) (env0 := env0) (bx := bx) p g (ds := ds) fun x hx => h x (List.mem_cons_of_mem _ hx)
    show bnd (opt (set d env0)) _ bx = _
    unfold bnd opt
    rw [h1]
    show bnd (tt e) _ bx = _
    unfold bnd
    rw [h2]
    cases c : p d with
    | false => simp [c, ih]
    | true =>
      rw [c] at h3
      simp [c, h3 rfl, ih, ret]

/-! ### the draws -/
def takeB : Sf := sSeq (sIf (tOf (e2 gtD (eIx (eVar 0) (eC (.int 0))) (eC (.int 0))))
  (sSeq (sSetM [] 5 (e2 modD (eA intFD (aCons (eIx (eVar 0) (eC (.int 0))) (aNil))) (eVar 1)))
  (sSeq (sPutB 0 (eC (.int 0)) (e2 fdivD (eIx (eVar 0) (eC (.int 0))) (eVar 1)))
  (sRet (eVar 5))))
  (sNil))
  (sSeq (sPutB 0 (eC (.int 2)) (e2 addD (eIx (eVar 0) (eC (.int 2))) (eC (.int 1))))
  (sSeq (sSetM [] 2 (e2 modD (eA intFD (aCons (e2 mulAD (e2 addD (eIx (eVar 0) (eC (.int 1))) (e2 mulAD (eC (.int 48271)) (eIx (eVar 0) (eC (.int 2))))) (e2 addD (eC (.int 39373)) (eIx (eVar 0) (eC (.int 2))))) (aNil))) (eC (.int 2147483647))))
  (sSeq (sSetM [] 3 (e2 addD (e2 modD (eA intFD (aCons (eVar 2) (aNil))) (eC (.int 40009))) (eC (.int 7))))
  (sSeq (sSetM [] 4 (e2 modD (eA intFD (aCons (e2 mulAD (e2 addD (e2 addD (eVar 2) (eIx (eVar 0) (eC (.int 2)))) (e2 fdivD (eIx (eVar 0) (eC (.int 1))) (eC (.int 1000003)))) (eVar 3)) (aNil))) (eC (.int 2147483629))))
  (sRet (e2 modD (eA intFD (aCons (e2 fdivD (e2 modD (eA intFD (aCons (e2 addD (e2 mulAD (eVar 4) (eC (.int 48271))) (eVar 2)) (aNil))) (eC (.int 2147483587))) (eC (.int 64))) (aNil))) (eVar 1)))))))
def takeF : Ff := mkF 2 6 takeB
/-- a box with m draws to come -/
def Good (m : Nat) (bx : Bx) : Prop := ∃ x y z : Int, bx = some (x, y, z) ∧ 0 ≤ x ∧ 0 ≤ y ∧ y < 2 ^ 100 ∧ 0 ≤ z ∧ z + m ≤ 2 ^ 100
theorem Good.mono {m n : Nat} {bx : Bx} (h : Good m bx) (l : n ≤ m) : Good n bx := by
  obtain ⟨x, y, z, e, h1, h2, h3, h4, h5⟩ := h
  exact ⟨x, y, z, e, h1, h2, h3, h4, by omega⟩
theorem mulAD_int {a b : Int} {j k : Nat} (ha : a.natAbs < 2 ^ j) (hb : b.natAbs < 2 ^ k) (h : j + k ≤ 134217728) : mulAD (.int a) (.int b) = some (.int (a * b)) := by
  show (if (Builtin.Int.intBits a : Int) + (Builtin.Int.intBits b : Int) ≤ 134217728 then some (PyData.int (a * b)) else none) = _
  exact if_pos (mulx_ok ha hb h)
theorem modD_int {a b : Int} (h : 0 < b) : modD (.int a) (.int b) = some (.int (a % b)) := by
  show (if 0 < b then some (PyData.int (a % b)) else none) = _
  exact if_pos h
theorem fdivD_int {a b : Int} (h : 0 < b) (h2 : b.natAbs < 2 ^ 200) : fdivD (.int a) (.int b) = some (.int (a / b)) := by
  show (if 0 < b ∧ b.natAbs.log2 < 9000 then some (PyData.int (a / b)) else none) = _
  refine if_pos ⟨h, ?_⟩
  have := PySem.Flt.log2_lt_of (k := 200) (by decide) h2
  omega
theorem nat_lt {a : Int} {k : Nat} (h0 : 0 ≤ a) (h : a < 2 ^ k) : a.natAbs < 2 ^ k := by
  have e : (a.natAbs : Int) = a := Int.natAbs_of_nonneg h0
  have h2 : (a.natAbs : Int) < ((2 ^ k : Nat) : Int) := by
    rw [e]
    simpa using h
  exact Int.ofNat_lt.mp h2
theorem nat_up {a : Int} {j k : Nat} (h : a.natAbs < 2 ^ j) (l : j ≤ k) : a.natAbs < 2 ^ k := Nat.lt_of_lt_of_le h (Nat.pow_le_pow_right (by decide) l)

/-! ### expressions that draw nothing -/
def Pu (f : Ef) (env : Ev) (bx : Bx) (d : D) : Prop := f env bx = some (d, bx)
def PuA (f : Ev → M (List D)) (env : Ev) (bx : Bx) (d : List D) : Prop := f env bx = some (d, bx)
section
variable {env : Ev} {bx : Bx}
theorem Pu.run {f : Ef} {d : D} {Q : D → Bx → Prop} (h : Pu f env bx d) (q : Q d bx) : Run (f env) bx Q := ⟨d, bx, h, q⟩
theorem p_var {i : Nat} {d : D} (e : env[i]? = some (some d)) : Pu (eVar i) env bx d := by
  unfold Pu eVar opt
  rw [e]
  rfl
theorem p_c {d : D} : Pu (eC d) env bx d := rfl
theorem p_e1 {g : D → Option D} {a : Ef} {x d : D} (h : Pu a env bx x) (e : g x = some d) : Pu (e1 g a) env bx d := by
  unfold Pu e1 bnd
  rw [h]
  unfold opt
  simp only [e]
theorem p_e2 {g : D → D → Option D} {a c : Ef} {x y d : D} (h : Pu a env bx x) (h2 : Pu c env bx y) (e : g x y = some d) : Pu (e2 g a c) env bx d := by
  unfold Pu e2 bnd
  rw [h]
  simp only []
  unfold Pu at h2
  rw [h2]
  unfold opt
  simp only [e]
theorem p_ix {a c : Ef} {x y d : D} (h : Pu a env bx x) (h2 : Pu c env bx y) (e : ixM x y bx = some (d, bx)) : Pu (eIx a c) env bx d := by
  unfold Pu eIx bnd
  rw [h]
  simp only []
  unfold Pu at h2
  rw [h2]
  exact e
theorem p_nil : PuA aNil env bx [] := rfl
theorem p_cons {a : Ef} {as : Ev → M (List D)} {x : D} {xs : List D} (h : Pu a env bx x) (h2 : PuA as env bx xs) : PuA (aCons a as) env bx (x :: xs) := by
  unfold PuA aCons bnd
  rw [h]
  simp only []
  unfold PuA at h2
  rw [h2]
  rfl
theorem p_A {g : List D → Option D} {as : Ev → M (List D)} {xs : List D} {d : D} (h : PuA as env bx xs) (e : g xs = some d) : Pu (eA g as) env bx d := by
  unfold Pu eA bnd
  rw [h]
  unfold opt
  simp only [e]
theorem p_A1 {g : List D → Option D} {a : Ef} {x d : D} (h : Pu a env bx x) (e : g [x] = some d) : Pu (eA g (aCons a aNil)) env bx d := p_A (p_cons h p_nil) e
theorem p_sl {g : D → Option Int → Option Int → Option D} {a : Ef} {l u : Pf} {x d : D} {lo hi : Option Int} (h : Pu a env bx x) (h2 : l env bx = some (lo, bx)) (h3 : u env bx = some (hi, bx)) (e : g x lo hi = some d) : Pu (eSl g a l u) env bx d := by
  unfold Pu eSl bnd
  rw [h]
  simp only [h2, h3]
  unfold opt
  simp only [e]
theorem p_so {a : Ef} {i : Int} (h : Pu a env bx (.int i)) : pSo a env bx = some (some i, bx) := by
  unfold pSo bnd
  rw [h]
  rfl
theorem p_call {F : Ff} {as : Ev → M (List D)} {xs : List D} {d : D} (h : PuA as env bx xs) (e : F xs bx = some (d, bx)) : Pu (eCall F as) env bx d := by
  unfold Pu eCall bnd
  rw [h]
  exact e
theorem p_callK {is : List Nat} {F : Ff} {as : Ev → M (List D)} {xs : List D} {d : D} (h : PuA as env bx xs) (e : F (pick is xs) bx = some (d, bx)) : Pu (eCallK is F as) env bx d := by
  unfold Pu eCallK bnd
  rw [h]
  exact e
theorem run_call' {F : Ff} {as : Ev → M (List D)} {xs : List D} {Q : D → Bx → Prop} (h : PuA as env bx xs) (q : Run (F xs) bx Q) : Run (eCall F as env) bx Q := run_bnd ⟨xs, bx, h, q⟩
theorem run_callK' {is : List Nat} {F : Ff} {as : Ev → M (List D)} {xs : List D} {Q : D → Bx → Prop} (h : PuA as env bx xs) (q : Run (F (pick is xs)) bx Q) : Run (eCallK is F as env) bx Q := run_bnd ⟨xs, bx, h, q⟩
theorem run_one {a : Ef} {Q : List D → Bx → Prop} (h : Run (a env) bx fun x b => Q [x] b) : Run (aCons a aNil env) bx Q := run_cons (h.mono fun x b q => run_nil q)
theorem p_lc {vs : List Nat} {set : D → Ev → Option Ev} {it : Lf} {tt : Tf} {el : Ef} {ds ys : List D} (h : it env bx = some (ds, bx)) (hz : ds.length ≤ 1000000) (e : compL set tt el (maskE vs env) ds bx = some (ys, bx)) : Pu (eLc vs set it tt el) env bx (.list ys) := by
  unfold Pu eLc bnd
  rw [h]
  simp only []
  rw [if_pos (Nat.le_trans hz (by decide : 1000000 ≤ sizeLine)), e]
  rfl
theorem p_of {g : D → Option (List D)} {a : Ef} {x : D} {ds : List D} (h : Pu a env bx x) (e : g x = some ds) : iOf g a env bx = some (ds, bx) := by
  unfold iOf bnd
  rw [h]
  unfold opt
  simp only [e]
theorem p_args {g : List D → Option (List D)} {as : Ev → M (List D)} {xs ds : List D} (h : PuA as env bx xs) (e : g xs = some ds) : iArgs g as env bx = some (ds, bx) := by
  unfold iArgs bnd
  rw [h]
  unfold opt
  simp only [e]
theorem p_tOf {a : Ef} {x : D} {c : Bool} (h : Pu a env bx x) (e : truD x = some c) : tOf a env bx = some (c, bx) := by
  unfold tOf bnd
  rw [h]
  unfold opt
  simp only [e]
theorem run_setM' {own : List Nat} {i : Nat} {a : Ef} {d : D} {Q : Fl → Bx → Prop} (h : Pu a (maskE own env) bx d) (q : Q (.nx (env.set i (some d))) bx) : Run (sSetM own i a env) bx Q := run_setM (h.run q)
theorem run_rt' {a : Ef} {d : D} {Q : Fl → Bx → Prop} (h : Pu a env bx d) (q : Q (.rt d) bx) : Run (sRet a env) bx Q := run_rt (h.run q)
theorem run_sif' {a : Ef} {s t : Sf} {d : D} {c : Bool} {Q : Fl → Bx → Prop} (h : Pu a env bx d) (e : truD d = some c) (q : if c = true then Run (s env) bx Q else Run (t env) bx Q) : Run (sIf (tOf a) s t env) bx Q := run_sif (run_tOf (h.run ⟨c, e, q⟩))
theorem run_putB' {i : Nat} {ix a : Ef} {bx' : Bx} {z n : Int} {j : Nat} {Q : Fl → Bx → Prop} (hi : isBox env i = true) (h : Pu a env bx (.int n)) (h2 : Pu ix env bx (.int z)) (e : ixN 3 z = some j) (e2 : putB bx j n = some bx') (q : Q (.nx env) bx') : Run (sPutB i ix a env) bx Q :=
  run_putB hi (h.run ⟨rfl, h2.run ⟨rfl, e, e2, q⟩⟩)
end
theorem take_ok {m : Nat} {n : Int} {bx : Bx} (hn : 0 < n) (hb : n < 2 ^ 100) (g : Good (m + 1) bx) : Run (takeF [boxD, .int n]) bx fun d b => ∃ r, d = .int r ∧ 0 ≤ r ∧ r < n ∧ Good m b := by
  obtain ⟨x, y, z, rfl, hx, hy, hy2, hz, hz2⟩ := g
  have hnn : n.natAbs < 2 ^ 200 := nat_up (nat_lt (by omega) hb) (by decide)
  refine run_F rfl ?_
  refine run_seq (run_sif' (p_e2 (p_ix (p_var rfl) p_c rfl) p_c rfl) rfl ?_)
  by_cases c : 0 < x
  · rw [if_pos (decide_eq_true c)]
    refine run_seq (run_setM' (p_e2 (p_A1 (p_ix (p_var rfl) p_c rfl) rfl) (p_var rfl) (modD_int hn)) ?_)
    refine run_seq (run_putB' (bx' := some (x / n, y, z)) rfl (p_e2 (p_ix (p_var rfl) p_c rfl) (p_var rfl) (fdivD_int hn hnn)) p_c rfl rfl ?_)
    refine run_rt' (p_var rfl) ?_
    exact ⟨_, rfl, Int.emod_nonneg _ (by omega), Int.emod_lt_of_pos _ hn, x / n, y, z, rfl, Int.ediv_nonneg hx (by omega), hy, hy2, hz, by omega⟩
  · rw [if_neg (by simpa using c)]
    refine run_snil ?_
    refine run_seq (run_putB' (bx' := some (x, y, z + 1)) rfl (p_e2 (p_ix (p_var rfl) p_c rfl) p_c rfl) p_c rfl rfl ?_)
    have z1 : (0 : Int) ≤ z + 1 := by omega
    have z2 : z + 1 < 2 ^ 101 := by omega
    have nz := nat_lt z1 z2
    have m1 : mulAD (.int 48271) (.int (z + 1)) = some (.int (48271 * (z + 1))) := mulAD_int (j := 16) (k := 101) (by decide) nz (by decide)
    have a1 : (0 : Int) ≤ y + 48271 * (z + 1) := by omega
    have a2 : y + 48271 * (z + 1) < 2 ^ 120 := by omega
    have b1 : (0 : Int) ≤ 39373 + (z + 1) := by omega
    have b2 : 39373 + (z + 1) < 2 ^ 102 := by omega
    have m2 : mulAD (.int (y + 48271 * (z + 1))) (.int (39373 + (z + 1))) = some (.int ((y + 48271 * (z + 1)) * (39373 + (z + 1)))) := mulAD_int (nat_lt a1 a2) (nat_lt b1 b2) (by decide)
    refine run_seq (run_setM' (p_e2 (p_A1 (p_e2 (p_e2 (p_ix (p_var rfl) p_c rfl) (p_e2 p_c (p_ix (p_var rfl) p_c rfl) m1) rfl) (p_e2 p_c (p_ix (p_var rfl) p_c rfl) rfl) m2) rfl) p_c (modD_int (by decide))) ?_)
    generalize hw : (y + 48271 * (z + 1)) * (39373 + (z + 1)) % 2147483647 = w1
    have w1a : 0 ≤ w1 := by rw [← hw]; exact Int.emod_nonneg _ (by decide)
    have w1b : w1 < 2147483647 := by rw [← hw]; exact Int.emod_lt_of_pos _ (by decide)
    refine run_seq (run_setM' (p_e2 (p_e2 (p_A1 (p_var rfl) rfl) p_c (modD_int (by decide))) p_c rfl) ?_)
    generalize hf : w1 % 40009 + 7 = fr
    have fa : 0 ≤ fr := by omega
    have fb : fr < 2 ^ 16 := by omega
    have c1 : 0 ≤ w1 + (z + 1) + y / 1000003 := by
      have := Int.ediv_nonneg hy (show (0 : Int) ≤ 1000003 by decide)
      omega
    have c2 : w1 + (z + 1) + y / 1000003 < 2 ^ 110 := by
      have : y / 1000003 ≤ y := Int.ediv_le_self _ hy
      omega
    have m3 : mulAD (.int (w1 + (z + 1) + y / 1000003)) (.int fr) = some (.int ((w1 + (z + 1) + y / 1000003) * fr)) := mulAD_int (nat_lt c1 c2) (nat_lt fa fb) (by decide)
    refine run_seq (run_setM' (p_e2 (p_A1 (p_e2 (p_e2 (p_e2 (p_var rfl) (p_ix (p_var rfl) p_c rfl) rfl) (p_e2 (p_ix (p_var rfl) p_c rfl) p_c (fdivD_int (by decide) (by decide))) rfl) (p_var rfl) m3) rfl) p_c (modD_int (by decide))) ?_)
    generalize hv : (w1 + (z + 1) + y / 1000003) * fr % 2147483629 = w2
    have w2a : 0 ≤ w2 := by rw [← hv]; exact Int.emod_nonneg _ (by decide)
    have w2b : w2 < 2147483629 := by rw [← hv]; exact Int.emod_lt_of_pos _ (by decide)
    have m4 : mulAD (.int w2) (.int 48271) = some (.int (w2 * 48271)) := mulAD_int (j := 31) (k := 16) (nat_lt w2a (by omega)) (by decide) (by decide)
    refine run_rt' (p_e2 (p_A1 (p_e2 (p_e2 (p_A1 (p_e2 (p_e2 (p_var rfl) p_c m4) (p_var rfl) rfl) rfl) p_c (modD_int (by decide))) p_c (fdivD_int (by decide) (by decide))) rfl) (p_var rfl) (modD_int hn)) ?_
    exact ⟨_, rfl, Int.emod_nonneg _ (by omega), Int.emod_lt_of_pos _ hn, x, y, z + 1, rfl, hx, hy, hy2, z1, by omega⟩
end MD
end

section
set_option Elab.async false
set_option linter.all false
set_option maxRecDepth 100000
namespace MD
open PySem L2

/-! ### texts by their signs -/
abbrev S (l : List Nat) : Str := ⟨l.toArray⟩
theorem S_inj {a b : List Nat} : S a = S b ↔ a = b := ⟨fun h => by
  have := congrArg (fun s : Str => s.cps.toList) h
  simpa using this, fun h => by rw [h]⟩
theorem S_len (a : List Nat) : (S a).length = a.length := by simp [Str.length]
theorem S_app (a b : List Nat) : S a ++ S b = S (a ++ b) := by
  show Str.append _ _ = _
  unfold Str.append
  simp
theorem S_of (x : Str) : x = S x.cps.toList := by
  obtain ⟨c⟩ := x
  simp
theorem S_signs (a : List Nat) : signs (S a) = a.map fun c => .str (S [c]) := by simp [signs]
theorem S_cut (a : List Nat) (lo hi : Option Int) : cutS (S a) lo hi = S (cutL a lo hi) := by
  unfold cutS cutL
  simp [Str.length]
theorem S_rev (a : List Nat) : revS (S a) = S a.reverse := by simp [revS]
theorem eqB_str {a b : List Nat} : eqB (.str (S a)) (.str (S b)) = some (decide (a = b)) := by
  show some (decide (S a = S b)) = _
  congr 1
  exact decide_eq_decide.mpr S_inj
theorem neD_str {a b : List Nat} : neD (.str (S a)) (.str (S b)) = some (.bool (!decide (a = b))) := by
  unfold neD
  rw [eqB_str]
  rfl
theorem eqD_str {a b : List Nat} : eqD (.str (S a)) (.str (S b)) = some (.bool (decide (a = b))) := by
  unfold eqD
  rw [eqB_str]
  rfl
abbrev sl : Nat := 16777216
theorem sz {n : Nat} (h : n ≤ 1000000) : n ≤ sizeLine := Nat.le_trans h (by decide)
theorem slD_str {a : List Nat} {lo hi : Option Int} (h : a.length ≤ 1000000) : slD (.str (S a)) lo hi = some (.str (S (cutL a lo hi))) := by
  show (if (S a).length ≤ sizeLine then some (PyData.str (cutS (S a) lo hi)) else none) = _
  rw [if_pos (by rw [S_len]; exact sz h), S_cut]
theorem revD_str {a : List Nat} (h : a.length ≤ 1000000) : revD (.str (S a)) = some (.str (S a.reverse)) := by
  show (if (S a).length ≤ sizeLine then some (PyData.str (revS (S a))) else none) = _
  rw [if_pos (by rw [S_len]; exact sz h), S_rev]
theorem addD_str {a b : List Nat} (h : a.length + b.length ≤ 1000000) : addD (.str (S a)) (.str (S b)) = some (.str (S (a ++ b))) := by
  show (if (S a).length + (S b).length ≤ sizeLine then some (PyData.str (S a ++ S b)) else none) = _
  rw [if_pos (by rw [S_len, S_len]; exact sz h), S_app]
theorem lenD_str {a : List Nat} (h : a.length ≤ 1000000) : lenD [.str (S a)] = some (.int a.length) := by
  show (if (S a).length ≤ sizeLine then some (PyData.int ((S a).length : Nat)) else none) = _
  rw [if_pos (by rw [S_len]; exact sz h), S_len]
theorem addD_list {a b : List D} (h : a.length + b.length ≤ 1000000) : addD (.list a) (.list b) = some (.list (a ++ b)) := by
  show (if a.length + b.length ≤ sizeLine then some (PyData.list (a ++ b)) else none) = _
  rw [if_pos (sz h)]
theorem gLst_ok {a : List D} (h : a.length ≤ 1000000) : gLst a = some (.list a) := if_pos (sz h)
theorem gTup_ok {a : List D} (h : a.length ≤ 1000000) : gTup a = some (.tuple a) := if_pos (sz h)
theorem ixM_ix {x y d : D} {bx : Bx} (h : ixD x y = some d) : ixM x y bx = some (d, bx) := by
  unfold ixM
  split
  · cases h
  · unfold opt
    rw [h]
theorem atI_lt {α : Type} {l : List α} {i : Nat} (h : i < l.length) : atI l (i : Int) = some l[i] := atI_nat (by simp [h])
theorem cut_to {α : Type} {l : List α} (n : Nat) : cutL l none (some (n : Int)) = l.take n := by
  unfold cutL
  rw [HT.sIx_none, HT.sIx_nat, List.drop_zero, Nat.sub_zero]
  by_cases h : n ≤ l.length
  · rw [Nat.min_eq_left h]
  · rw [Nat.min_eq_right (by omega), List.take_of_length_le (Nat.le_refl _), List.take_of_length_le (by omega)]
theorem cut_from {α : Type} {l : List α} (n : Nat) : cutL l (some (n : Int)) none = l.drop n := by
  unfold cutL
  rw [HT.sIx_none, HT.sIx_nat]
  by_cases h : n ≤ l.length
  · rw [Nat.min_eq_left h, List.take_of_length_le (by simp)]
  · rw [Nat.min_eq_right (by omega), Nat.sub_self, List.take_zero, List.drop_eq_nil_of_le (by omega)]
theorem sIx_neg1 (n d : Nat) : HT.sIx n d (some (-1)) = n - 1 := by
  show (if (-1 : Int) < 0 then ((-1 : Int) + (n : Int)).toNat else min (-1 : Int).toNat n) = n - 1
  rw [if_pos (by decide)]
  omega
theorem cut_last {α : Type} {l : List α} : cutL l (some (-1)) none = l.drop (l.length - 1) := by
  unfold cutL
  rw [HT.sIx_none, sIx_neg1, List.take_of_length_le (by simp)]
theorem cut_butlast {α : Type} {l : List α} : cutL l none (some (-1)) = l.take (l.length - 1) := by
  unfold cutL
  rw [HT.sIx_none, sIx_neg1, List.drop_zero, Nat.sub_zero]

/-! ### one of several -/
def ofB : Sf := sRet (eIx (eVar 1) (eCall takeF (aCons (eVar 0) (aCons (eA lenD (aCons (eVar 1) (aNil))) (aNil)))))
def ofF : Ff := mkF 2 2 ofB
theorem of_ok {m : Nat} {bx : Bx} {x : D} {n : Nat} {it : Nat → D} (hn : 0 < n) (h2 : n ≤ 1000000) (hl : lenD [x] = some (.int n)) (hi : ∀ i, i < n → ixD x (.int i) = some (it i)) (g : Good (m + 1) bx) : Run (ofF [boxD, x]) bx fun d b => ∃ i : Nat, i < n ∧ d = it i ∧ Good m b := by
  refine run_F rfl (run_rt (run_ix (run_var rfl (run_call' (p_cons (p_var rfl) (p_cons (p_A1 (p_var rfl) hl) p_nil)) ?_))))
  refine (take_ok (n := (n : Int)) (by omega) (by omega) g).mono fun d b ⟨r, e, h0, h1, g'⟩ => ?_
  subst e
  obtain ⟨k, rfl⟩ := Int.eq_ofNat_of_zero_le h0
  have hk : k < n := by omega
  exact .of (ixM_ix (hi k hk)) ⟨k, hk, rfl, g'⟩
theorem of_str {m : Nat} {bx : Bx} {a : List Nat} (hn : a ≠ []) (h2 : a.length ≤ 1000000) (g : Good (m + 1) bx) : Run (ofF [boxD, .str (S a)]) bx fun d b => ∃ c, c ∈ a ∧ d = .str (S [c]) ∧ Good m b := by
  have hl : 0 < a.length := List.length_pos_iff.mpr hn
  refine (of_ok (n := a.length) (it := fun i => .str (S [a.getD i 0])) hl h2 (lenD_str h2) (fun i hi => ?_) g).mono fun d b ⟨i, hi, e, g'⟩ => ⟨a.getD i 0, ?_, e, g'⟩
  · show (if (S a).length ≤ sizeLine then (atI (S a).cps.toList (i : Int)).map (fun c => PyData.str ⟨#[c]⟩) else none) = _
    rw [if_pos (by rw [S_len]; exact sz h2)]
    have : atI (S a).cps.toList (i : Int) = some (a.getD i 0) := by
      rw [atI_lt (by simpa using hi)]
      simp [List.getD, hi]
    rw [this]
    rfl
  · simp [List.getD, hi]
theorem of_list {m : Nat} {bx : Bx} {a : List D} (hn : a ≠ []) (h2 : a.length ≤ 1000000) (g : Good (m + 1) bx) : Run (ofF [boxD, .list a]) bx fun d b => d ∈ a ∧ Good m b := by
  have hl : 0 < a.length := List.length_pos_iff.mpr hn
  refine (of_ok (n := a.length) (it := fun i => a.getD i .none) hl h2 rfl (fun i hi => ?_) g).mono fun d b ⟨i, hi, e, g'⟩ => ⟨?_, g'⟩
  · show atI a (i : Int) = _
    rw [atI_lt hi]
    simp [List.getD, hi]
  · rw [e]
    simp [List.getD, hi]

/-! ### letters, rows -/
def L8 : List Nat := [97, 98, 99, 100, 101, 102, 103, 104]
theorem abc : (Str.ofString "abcdefgh") = S L8 := by decide +kernel
theorem emp : (Str.ofString "") = S [] := by decide +kernel
/-- no two like neighbours -/
def noAdj : List Nat → Bool
  | a :: b :: r => (a != b) && noAdj (b :: r)
  | _ => true
theorem noAdj_snoc {a : List Nat} {c : Nat} (h : noAdj a = true) (hc : a.getLast? ≠ some c) : noAdj (a ++ [c]) = true := by
  induction a with
  | nil => rfl
  | cons x r ih =>
    cases r with
    | nil =>
      have : x ≠ c := fun z => hc (by rw [z]; rfl)
      simp [noAdj, this]
    | cons y r =>
      rw [noAdj, Bool.and_eq_true] at h
      show ((x != y) && noAdj (y :: r ++ [c])) = true
      rw [h.1, Bool.true_and]
      exact ih h.2 (by rw [List.getLast?_cons_cons] at hc; exact hc)
def rowB : Sf := sSeq (sSetM [] 3 (eC (.str (Str.ofString ""))))
  (sSeq (sFor [] (setN 4) (iArgs rangeD (aCons (eCall takeF (aCons (eVar 0) (aCons (e2 addD (eVar 2) (eC (.int 1))) (aNil)))) (aNil)))
  (sSeq (sSetM [] 5 (eLc [6] (setN 6) (iOf itemsD (eSl slD (eC (.str (Str.ofString "abcdefgh"))) (pNo) (pSo (eVar 1)))) (tOf (e2 neD (eVar 6) (eSl slD (eVar 3) (pSo (e1 negD (eC (.int 1)))) (pNo)))) (eVar 6)))
  (sSetM [] 3 (e2 addD (eVar 3) (eCall ofF (aCons (eVar 0) (aCons (eVar 5) (aNil))))))))
  (sRet (eVar 3)))
def rowF : Ff := mkF 3 7 rowB
/-- a row of the first many letters -/
structure Row (many : Nat) (a : List Nat) : Prop where
  ad : noAdj a = true
  le : ∀ c ∈ a, c ∈ L8.take many
theorem last_drop {a : List Nat} {c : Nat} : ([c] = a.drop (a.length - 1)) ↔ a.getLast? = some c := by
  cases h : a.getLast? with
  | none =>
    rw [List.getLast?_eq_none_iff] at h
    subst h
    simp
  | some x =>
    obtain ⟨r, rfl⟩ := List.getLast?_eq_some_iff.mp h
    simp
    exact eq_comm
theorem rangeItems_get {lo : Int} {n i : Nat} {d : D} (h : (rangeItems lo n)[i]? = some d) : d = .int (lo + i) ∧ i < n := by
  unfold rangeItems at h
  rw [List.getElem?_map] at h
  cases e : (List.range n)[i]? with
  | none => rw [e] at h; cases h
  | some k =>
    rw [e] at h
    obtain ⟨h1, h2⟩ := List.getElem?_eq_some_iff.mp e
    simp at h1 h2
    subst h2
    cases h
    exact ⟨rfl, h1⟩
theorem rangeItems_len {lo : Int} {n : Nat} : (rangeItems lo n).length = n := by simp [rangeItems]
theorem rangeD1 {n : Int} (h0 : 0 ≤ n) (h : n < 2 ^ 62) : rangeD [.int n] = some (rangeItems 0 n.toNat) := by
  show (if -(2 ^ 62) ≤ n ∧ n < 2 ^ 62 then some (rangeItems 0 n.toNat) else none) = _
  rw [if_pos ⟨by omega, h⟩]
theorem row_ok {m : Nat} {bx : Bx} {many : Nat} {lg : Nat} (h2 : 2 ≤ many) (hl : lg ≤ 10000) (g : Good (m + lg + 1) bx) : Run (rowF [boxD, .int many, .int lg]) bx fun d b => ∃ a, d = .str (S a) ∧ Row many a ∧ a.length ≤ lg ∧ Good m b := by
  refine run_F rfl (run_seq (run_setM' p_c ?_))
  rw [emp]
  refine run_seq (run_for (run_its (run_one (run_call' (p_cons (p_var rfl) (p_cons (p_e2 (p_var rfl) p_c rfl) p_nil)) ?_))))
  refine (take_ok (m := m + lg) (by omega) (by omega) (by simpa [Nat.add_assoc] using g)).mono fun d b ⟨r, e, h0, h1, g'⟩ => ?_
  subst e
  refine ⟨_, rangeD1 h0 (by omega), ?_⟩
  refine run_forL' (fun i env b => ∃ a, Row many a ∧ a.length ≤ i ∧ Good (m + lg - i) b ∧ ∃ d4 d5 d6, env = [some boxD, some (.int many), some (.int lg), some (.str (S a)), d4, d5, d6]) ⟨[], ⟨rfl, fun c h => (List.not_mem_nil h).elim⟩, Nat.le_refl _, g', none, none, none, rfl⟩ ?_ ?_
  · rintro i d env b hd ⟨a, ra, la, ga, d4, d5, d6, rfl⟩
    obtain ⟨rfl, hi⟩ := rangeItems_get hd
    have hi2 : i < lg := by omega
    refine ⟨_, rfl, ?_⟩
    have hla : a.length ≤ 1000000 := by omega
    have many8 : ((L8.take many).length : Nat) ≤ 8 := by rw [List.length_take]; exact Nat.min_le_right _ _
    -- the letters that may follow
    have comp : Pu (eLc [6] (setN 6) (iOf itemsD (eSl slD (eC (.str (Str.ofString "abcdefgh"))) (pNo) (pSo (eVar 1)))) (tOf (e2 neD (eVar 6) (eSl slD (eVar 3) (pSo (e1 negD (eC (.int 1)))) (pNo)))) (eVar 6)) (maskE [] [some boxD, some (.int many), some (.int lg), some (.str (S a)), some (.int (0 + i)), d5, d6]) b
        (.list (((L8.take many).filter fun c => decide (a.getLast? ≠ some c)).map fun c => .str (S [c]))) := by
      rw [abc]
      have e7 : slD (.str (S L8)) none (some (many : Int)) = some (.str (S (L8.take many))) := by
        rw [slD_str (by decide), cut_to]
      have e8 : itemsD (.str (S (L8.take many))) = some ((L8.take many).map fun c => .str (S [c])) := by
        show some (signs _) = _
        rw [S_signs]
      refine p_lc (p_of (p_sl p_c rfl (p_so (p_var rfl)) e7) e8) (by rw [List.length_map]; omega) ?_
      have h := comp_pure (set := setN 6) (tt := tOf (e2 neD (eVar 6) (eSl slD (eVar 3) (pSo (e1 negD (eC (.int 1)))) (pNo)))) (el := eVar 6) (env0 := maskE [6] (maskE [] [some boxD, some (.int many), some (.int lg), some (.str (S a)), some (.int (0 + i)), d5, d6])) (bx := b)
        (fun d => match d with | .str x => decide (a.getLast? ≠ some (x.cps.getD 0 0)) | _ => false) id (ds := (L8.take many).map fun c => .str (S [c])) ?_
      · rw [h]
        congr 2
        rw [List.map_id, List.filter_map]
        rfl
      · intro d hd
        obtain ⟨c, hc, rfl⟩ := List.mem_map.mp hd
        have e9 : (!decide ([c] = a.drop (a.length - 1))) = decide (a.getLast? ≠ some c) := by
          rw [← decide_not]
          exact decide_eq_decide.mpr (not_congr last_drop)
        have e10 := neD_str (a := [c]) (b := a.drop (a.length - 1))
        rw [e9] at e10
        have e11 : slD (.str (S a)) (some (-1)) none = some (.str (S (a.drop (a.length - 1)))) := by rw [slD_str hla, cut_last]
        exact ⟨_, rfl, p_tOf (p_e2 (p_var rfl) (p_sl (p_var rfl) (p_so (p_e1 p_c rfl)) rfl e11) e10) rfl, fun _ => p_var rfl⟩
    refine run_seq (run_setM' comp ?_)
    refine run_setM (run_e2 (run_var rfl (run_call' (p_cons (p_var rfl) (p_cons (p_var rfl) p_nil)) ?_)))
    have ne : (((L8.take many).filter fun c => decide (a.getLast? ≠ some c)).map fun c => PyData.str (S [c])) ≠ [] := by
      have two : (97 : Nat) ∈ L8.take many ∧ (98 : Nat) ∈ L8.take many := by
        obtain ⟨k, rfl⟩ : ∃ k, many = k + 2 := ⟨many - 2, by omega⟩
        exact ⟨List.mem_cons_self, List.mem_cons_of_mem _ List.mem_cons_self⟩
      obtain ⟨c, hc, hn⟩ : ∃ c, c ∈ L8.take many ∧ a.getLast? ≠ some c := by
        by_cases h : a.getLast? = some 97
        · exact ⟨98, two.2, by rw [h]; decide⟩
        · exact ⟨97, two.1, h⟩
      intro z
      have hm : PyData.str (S [c]) ∈ (((L8.take many).filter fun c => decide (a.getLast? ≠ some c)).map fun c => PyData.str (S [c])) := List.mem_map.mpr ⟨c, List.mem_filter.mpr ⟨hc, decide_eq_true hn⟩, rfl⟩
      rw [z] at hm
      cases hm
    refine (of_list (m := m + lg - i - 1) ne (by rw [List.length_map]; have := List.length_filter_le (fun c => decide (a.getLast? ≠ some c)) (L8.take many); omega) (by rw [show m + lg - i - 1 + 1 = m + lg - i by omega]; exact ga)).mono fun d b' ⟨hd, g2⟩ => ?_
    obtain ⟨c, hc, rfl⟩ := List.mem_map.mp hd
    rw [List.mem_filter] at hc
    refine ⟨_, addD_str (by simp; omega), a ++ [c], ⟨noAdj_snoc ra.ad (of_decide_eq_true hc.2), fun x hx => ?_⟩, by simp; omega, by rw [show m + lg - (i + 1) = m + lg - i - 1 by omega]; exact g2, _, _, _, rfl⟩
    rcases List.mem_append.mp hx with h | h
    · exact ra.le x h
    · have : x = c := by simpa using h
      rw [this]; exact hc.1
  · rintro env b ⟨a, ra, la, ga, d4, d5, d6, rfl⟩
    rw [rangeItems_len] at la ga
    exact run_rt' (p_var rfl) ⟨a, rfl, ra, by omega, ga.mono (by omega)⟩
end MD
end

section
set_option Elab.async false
set_option linter.all false
set_option maxRecDepth 100000
namespace MD
open PySem L2

theorem run_compL {set : D → Ev → Option Ev} {tt : Tf} {el : Ef} {env0 : Ev} (I : Nat → Bx → Prop) (P : D → Prop) : ∀ (ds : List D) (k : Nat) (bx : Bx), I k bx →
    (∀ i d bx, ds[i]? = some d → I (k + i) bx → ∃ e, set d env0 = some e ∧ tt e bx = some (true, bx) ∧ Run (el e) bx fun y b => P y ∧ I (k + i + 1) b) →
    Run (compL set tt el env0 ds) bx fun ys b => ys.length = ds.length ∧ (∀ y ∈ ys, P y) ∧ I (k + ds.length) b
  | [], k, bx, h, _ => run_ret ⟨rfl, fun y h => (List.not_mem_nil h).elim, h⟩
  | d :: ds, k, bx, h, s => by
    obtain ⟨e, h1, h2, h3⟩ := s 0 d bx rfl h
    show Run (bnd (opt (set d env0)) _) bx _
    refine run_bnd (run_opt h1 (run_bnd ⟨true, bx, h2, ?_⟩))
    show Run (bnd (el e) fun y => bnd (compL set tt el env0 ds) fun ys => ret (y :: ys)) bx _
    refine run_bnd (h3.mono fun y b ⟨py, ib⟩ => run_bnd ?_)
    refine (run_compL (set := set) (tt := tt) (el := el) (env0 := env0) I P ds (k + 1) b ib fun i d bx e1 e2 => ?_).mono fun ys b' ⟨q1, q2, q3⟩ => run_ret ⟨by simp [q1], fun z hz => ?_, ?_⟩
    · have := s (i + 1) d bx e1 (by rw [show k + (i + 1) = k + 1 + i by omega]; exact e2)
      rw [show k + (i + 1) = k + 1 + i by omega] at this
      exact this
    · rcases List.mem_cons.mp hz with rfl | hz
      · exact py
      · exact q2 z hz
    · rw [show k + (d :: ds).length = k + 1 + ds.length by simp; omega]
      exact q3

/-! ### words -/
def wordB : Sf := sRet (e2 joinD (eC (.str (Str.ofString ""))) (eLc [3] (setN 3) (iArgs rangeD (aCons (eCall takeF (aCons (eVar 0) (aCons (e2 addD (eVar 2) (eC (.int 1))) (aNil)))) (aNil))) (tYesF) (eCall ofF (aCons (eVar 0) (aCons (eSl slD (eC (.str (Str.ofString "abcdefgh"))) (pNo) (pSo (eVar 1))) (aNil))))))
def wordF : Ff := mkF 3 4 wordB
theorem S_eta (x : Str) (l : List Nat) (h : x.cps.toList = l) : x = S l := by
  rw [S_of x, h]
theorem glue_nil : ∀ (ms : List (List Nat)) (A : List Nat), (ms.map S).foldl (fun acc p => acc ++ (S []).cps ++ p.cps) A.toArray = (A ++ ms.flatten).toArray
  | [], A => by simp
  | m :: ms, A => by
    rw [List.map_cons, List.foldl_cons]
    have e : A.toArray ++ (S []).cps ++ (S m).cps = (A ++ m).toArray := by simp
    rw [e, glue_nil ms, List.flatten_cons, List.append_assoc]
theorem join_nil (ls : List (List Nat)) : Txt.join (S []) (ls.map S) = S ls.flatten := by
  show Builtin.Str.glued _ _ = _
  unfold Builtin.Str.glued
  cases ls with
  | nil => rfl
  | cons a r =>
    show (⟨(r.map S).foldl (fun acc p => acc ++ (S []).cps ++ p.cps) a.toArray⟩ : Str) = _
    rw [glue_nil, List.flatten_cons]
theorem strsD_map : ∀ ls : List (List Nat), strsD (ls.map fun l => .str (S l)) = some (ls.map S)
  | [] => rfl
  | a :: r => by
    show (strsD (r.map fun l => .str (S l))).map (S a :: ·) = _
    rw [strsD_map r]
    rfl
theorem joinD_nil {ls : List (List Nat)} (h : (ls.map List.length).sum ≤ 1000000) : joinD (.str (S [])) (.list (ls.map fun l => .str (S l))) = some (.str (S ls.flatten)) := by
  show (match strsD (ls.map fun l => .str (S l)) with | none => none | some l => if (l.map Str.length).sum + l.length * (S []).length ≤ 16777216 then some (PyData.str (Txt.join (S []) l)) else none) = _
  rw [strsD_map]
  show (if ((ls.map S).map Str.length).sum + (ls.map S).length * (S []).length ≤ 16777216 then some (PyData.str (Txt.join (S []) (ls.map S))) else none) = _
  have e : (ls.map S).map Str.length = ls.map List.length := by
    rw [List.map_map]
    refine List.map_congr_left fun l _ => S_len l
  have e0 : (S ([] : List Nat)).length = 0 := rfl
  rw [e, e0, Nat.mul_zero, if_pos (by omega), join_nil]
theorem list_strs {M : List Nat} : ∀ {ys : List D}, (∀ y ∈ ys, ∃ c, c ∈ M ∧ y = .str (S [c])) → ∃ a : List Nat, (∀ c ∈ a, c ∈ M) ∧ ys = (a.map fun c => [c]).map fun l => .str (S l)
  | [], _ => ⟨[], fun c h => (List.not_mem_nil h).elim, rfl⟩
  | y :: ys, h => by
    obtain ⟨a, h1, h2⟩ := list_strs (ys := ys) fun z hz => h z (List.mem_cons_of_mem _ hz)
    obtain ⟨c, hc, rfl⟩ := h y List.mem_cons_self
    refine ⟨c :: a, fun x hx => ?_, by rw [h2]; rfl⟩
    rcases List.mem_cons.mp hx with rfl | hx
    · exact hc
    · exact h1 x hx
theorem flat_one : ∀ a : List Nat, (a.map fun c => [c]).flatten = a
  | [] => rfl
  | c :: a => by simp [flat_one a]
theorem sum_one : ∀ a : List Nat, ((a.map fun c => [c]).map List.length).sum = a.length
  | [] => rfl
  | c :: a => by
    have ih := sum_one a
    rw [List.map_cons, List.map_cons, List.sum_cons, ih]
    show 1 + a.length = a.length + 1
    omega
theorem word_ok {m : Nat} {bx : Bx} {many : Nat} {lg : Nat} (h2 : 1 ≤ many) (hl : lg ≤ 10000) (g : Good (m + lg + 1) bx) : Run (wordF [boxD, .int many, .int lg]) bx fun d b => ∃ a, d = .str (S a) ∧ (∀ c ∈ a, c ∈ L8.take many) ∧ a.length ≤ lg ∧ Good m b := by
  refine run_F rfl (run_rt (run_e2 (run_c ?_)))
  rw [emp, abc]
  refine run_lc (run_its (run_one (run_call' (p_cons (p_var rfl) (p_cons (p_e2 (p_var rfl) p_c rfl) p_nil)) ?_)))
  refine (take_ok (m := m + lg) (by omega) (by omega) (by simpa [Nat.add_assoc] using g)).mono fun d b ⟨r, e, h0, h1, g'⟩ => ?_
  subst e
  refine ⟨_, rangeD1 h0 (by omega), by rw [rangeItems_len]; exact sz (by omega), ?_⟩
  have ne : L8.take many ≠ [] := by
    obtain ⟨k, rfl⟩ : ∃ k, many = k + 1 := ⟨many - 1, by omega⟩
    intro z
    cases z
  have le8 : (L8.take many).length ≤ 8 := by rw [List.length_take]; exact Nat.min_le_right _ _
  refine (run_compL (fun i b => Good (m + lg - i) b) (fun y => ∃ c, c ∈ L8.take many ∧ y = .str (S [c])) (rangeItems 0 r.toNat) 0 b g' fun i d b hd hg => ?_).mono fun ys b' ⟨q1, q2, q3⟩ => ?_
  · obtain ⟨rfl, hi⟩ := rangeItems_get hd
    refine ⟨_, rfl, rfl, run_call' (p_cons (p_var rfl) (p_cons (p_sl p_c rfl (p_so (p_var rfl)) (by rw [slD_str (by decide), cut_to])) p_nil)) ?_⟩
    rw [Nat.zero_add] at hg ⊢
    refine (of_str (m := m + lg - i - 1) ne (by omega) (by rw [show m + lg - i - 1 + 1 = m + lg - i by omega]; exact hg)).mono fun d b ⟨c, h1, h2, h3⟩ => ⟨⟨c, h1, h2⟩, by rw [show m + lg - (i + 1) = m + lg - i - 1 by omega]; exact h3⟩
  · obtain ⟨a, h1, rfl⟩ := list_strs q2
    rw [rangeItems_len] at q1 q3
    have la : a.length = r.toNat := by simpa using q1
    refine ⟨_, joinD_nil (by rw [sum_one]; omega), a, by rw [flat_one], h1, by omega, q3.mono (by omega)⟩

/-! ### the same -/
def sameB (self : Ff) : Sf := sSeq (sIf (tOf (e1 (isiD ["list", "tuple"]) (eVar 1)))
  (sSeq (sIf (tOrr (tOf (e2 neD (e1 (isiD ["list"]) (eVar 0)) (e1 (isiD ["list"]) (eVar 1)))) (tOf (e2 neD (e1 (isiD ["tuple"]) (eVar 0)) (e1 (isiD ["tuple"]) (eVar 1)))))
  (sRet (eC (.bool false)))
  (sNil))
  (sRet (eAn (e2 eqD (eA lenD (aCons (eVar 0) (aNil))) (eA lenD (aCons (eVar 1) (aNil)))) (eA allFD (aCons (eLc [2, 3] (setT [2, 3]) (iArgs zipD (aCons (eVar 0) (aCons (eVar 1) (aNil)))) (tYesF) (eCall self (aCons (eVar 2) (aCons (eVar 3) (aNil))))) (aNil))))))
  (sNil))
  (sSeq (sIf (tOrr (tOf (e2 isND (eVar 1) (eC .none))) (tOf (e1 (isiD ["bool", "str"]) (eVar 1))))
  (sRet (eAn (e2 eqD (eVar 0) (eVar 1)) (eAn (e2 eqD (e1 (isiD ["bool"]) (eVar 0)) (e1 (isiD ["bool"]) (eVar 1))) (e2 eqD (e2 isND (eVar 0) (eC .none)) (e2 isND (eVar 1) (eC .none))))))
  (sNil))
  (sRet (eAn (e1 (isiD ["int"]) (eVar 0)) (eAn (eNt (e1 (isiD ["bool"]) (eVar 0))) (e2 eqD (eVar 0) (eVar 1))))))
def sameR : Nat → Ff
  | 0 => fun _ => fail
  | n + 1 => mkF 2 4 (sameB (sameR n))
/-- plain data of a depth below n, its lists not long -/
inductive Pl : Nat → D → Prop
  | non {n} : Pl (n + 1) .none
  | bool {n} (b : Bool) : Pl (n + 1) (.bool b)
  | int {n} (i : Int) : Pl (n + 1) (.int i)
  | str {n} (x : Str) : Pl (n + 1) (.str x)
  | list {n} {ds : List D} : ds.length ≤ 1000000 → (∀ d ∈ ds, Pl n d) → Pl (n + 1) (.list ds)
  | tuple {n} {ds : List D} : ds.length ≤ 1000000 → (∀ d ∈ ds, Pl n d) → Pl (n + 1) (.tuple ds)
theorem isi_k {cs : List String} {d : D} {t : String} {b : Bool} (h : tyD d = some t) (e : isiAny t cs = some b) : isiD cs d = some (.bool b) := by
  unfold isiD
  rw [h]
  show (isiAny t cs).map PyData.bool = _
  rw [e]
  rfl
theorem zip_self_get {ds : List D} {i : Nat} {d : D} (h : (zipItems ds ds)[i]? = some d) : ∃ e, e ∈ ds ∧ d = .tuple [e, e] := by
  unfold zipItems at h
  rw [List.getElem?_zipWith] at h
  cases c : ds[i]? with
  | none => rw [c] at h; cases h
  | some e =>
    rw [c] at h
    cases h
    exact ⟨e, List.mem_of_getElem? c, rfl⟩
theorem bools_all : ∀ n : Nat, (boolsD (List.replicate n (.bool true))).map (fun bs => PyData.bool (bs.all id)) = some (.bool true)
  | 0 => rfl
  | n + 1 => by
    have ih := bools_all n
    show ((boolsD (List.replicate n (.bool true))).map (true :: ·)).map (fun bs => PyData.bool (bs.all id)) = _
    cases c : boolsD (List.replicate n (.bool true)) with
    | none => rw [c] at ih; cases ih
    | some bs =>
      rw [c] at ih
      simpa using ih
theorem comp_same {self : Ff} {bx : Bx} {env0 : Ev} {ds : List D} (he : env0.length = 4) (h : ∀ d ∈ ds, self [d, d] bx = some (.bool true, bx)) :
    compL (setT [2, 3]) tYesF (eCall self (aCons (eVar 2) (aCons (eVar 3) (aNil)))) env0 (zipItems ds ds) bx = some (List.replicate ds.length (.bool true), bx) := by
  have := comp_pure (set := setT [2, 3]) (tt := tYesF) (el := eCall self (aCons (eVar 2) (aCons (eVar 3) (aNil)))) (env0 := env0) (bx := bx) (fun _ => true) (fun _ => .bool true) (ds := zipItems ds ds) (fun d hd => by
    obtain ⟨i, hi⟩ := List.mem_iff_getElem?.mp hd
    obtain ⟨e, h1, rfl⟩ := zip_self_get hi
    refine ⟨_, rfl, rfl, fun _ => ?_⟩
    match env0, he with
    | [_, _, _, _], _ => exact p_call (p_cons (p_var rfl) (p_cons (p_var rfl) p_nil)) (h e h1))
  rw [this]
  congr 2
  have e0 : (zipItems ds ds).filter (fun _ => true) = zipItems ds ds := List.filter_eq_self.mpr fun _ _ => rfl
  rw [e0]
  have e1 : (zipItems ds ds).length = ds.length := by rw [zip_len]; omega
  rw [← e1]
  exact List.map_const'
theorem same_list {self : Ff} {bx : Bx} {ds : List D} (hz : ds.length ≤ 1000000) (h : ∀ d ∈ ds, self [d, d] bx = some (.bool true, bx)) (x : D) (hx : x = .list ds ∨ x = .tuple ds) :
    Run (mkF 2 4 (sameB self) [x, x]) bx fun d b => d = .bool true ∧ b = bx := by
  obtain ⟨t, ht, i1, i2, i3⟩ : ∃ t, tyD x = some t ∧ isiAny t ["list", "tuple"] = some true ∧ (∃ c, isiAny t ["list"] = some c) ∧ ∃ c, isiAny t ["tuple"] = some c := by
    rcases hx with rfl | rfl
    · exact ⟨"list", rfl, by decide +kernel, ⟨true, by decide +kernel⟩, ⟨false, by decide +kernel⟩⟩
    · exact ⟨"tuple", rfl, by decide +kernel, ⟨false, by decide +kernel⟩, ⟨true, by decide +kernel⟩⟩
  obtain ⟨c1, i2⟩ := i2
  obtain ⟨c2, i3⟩ := i3
  have hlen : lenD [x] = some (.int ds.length) := by rcases hx with rfl | rfl <;> rfl
  have hzip : zipD [x, x] = some (zipItems ds ds) := by rcases hx with rfl | rfl <;> rfl
  have nb : ∀ c : Bool, neD (.bool c) (.bool c) = some (.bool false) := fun c => by cases c <;> rfl
  have eqi : ∀ n : Int, eqD (.int n) (.int n) = some (.bool true) := fun n => by
    show some (PyData.bool (decide (n = n))) = _
    simp
  refine run_F rfl (run_seq (run_sif' (p_e1 (p_var rfl) (isi_k ht i1)) rfl ?_))
  rw [if_pos rfl]
  refine run_seq (run_sif (run_tOrr (Run.of (p_tOf (p_e2 (p_e1 (p_var rfl) (isi_k ht i2)) (p_e1 (p_var rfl) (isi_k ht i2)) (nb c1)) rfl) ?_)))
  rw [if_neg (by decide)]
  refine Run.of (p_tOf (p_e2 (p_e1 (p_var rfl) (isi_k ht i3)) (p_e1 (p_var rfl) (isi_k ht i3)) (nb c2)) rfl) ?_
  rw [if_neg (by decide)]
  refine run_snil (run_rt (run_eAn (Pu.run (p_e2 (p_A1 (p_var rfl) hlen) (p_A1 (p_var rfl) hlen) (eqi _)) ⟨true, rfl, ?_⟩)))
  rw [if_pos rfl]
  refine Pu.run (p_A1 (p_lc (p_args (p_cons (p_var rfl) (p_cons (p_var rfl) p_nil)) hzip) (by rw [zip_len]; omega) (comp_same rfl h)) (bools_all _)) ⟨rfl, rfl⟩
theorem same_ok : ∀ (n : Nat) (d : D) (bx : Bx), Pl n d → sameR n [d, d] bx = some (.bool true, bx) := by
  intro n
  induction n with
  | zero => intro d bx h; cases h
  | succ n ih =>
    intro d bx h
    have fin : Run (mkF 2 4 (sameB (sameR n)) [d, d]) bx (fun x b => x = .bool true ∧ b = bx) → sameR (n + 1) [d, d] bx = some (.bool true, bx) := fun ⟨a, b, e, h1, h2⟩ => by
      subst h1 h2
      exact e
    refine fin ?_
    have k1 : isiAny "bool" ["bool"] = some true := by decide +kernel
    have k2 : isiAny "str" ["bool"] = some false := by decide +kernel
    have k3 : isiAny "NoneType" ["bool"] = some false := by decide +kernel
    have eqb : ∀ c : Bool, eqD (.bool c) (.bool c) = some (.bool true) := fun c => by cases c <;> rfl
    cases h with
    | list hz hd => exact same_list hz (fun d hm => ih d bx (hd d hm)) _ (.inl rfl)
    | tuple hz hd => exact same_list hz (fun d hm => ih d bx (hd d hm)) _ (.inr rfl)
    | non =>
      refine run_F rfl (run_seq (run_sif' (p_e1 (p_var rfl) (isi_k rfl (show isiAny "NoneType" ["list", "tuple"] = some false by decide +kernel))) rfl ?_))
      rw [if_neg (by decide)]
      refine run_snil (run_seq (run_sif (run_tOrr (Run.of (p_tOf (p_e2 (p_var rfl) p_c rfl) rfl) ?_))))
      rw [if_pos (by decide), if_pos rfl]
      refine run_rt (run_eAn (Pu.run (p_e2 (p_var rfl) (p_var rfl) (show eqD .none .none = some (.bool true) from rfl)) ⟨true, rfl, ?_⟩))
      rw [if_pos rfl]
      refine run_eAn (Pu.run (p_e2 (p_e1 (p_var rfl) (isi_k rfl k3)) (p_e1 (p_var rfl) (isi_k rfl k3)) (eqb _)) ⟨true, rfl, ?_⟩)
      rw [if_pos rfl]
      exact Pu.run (p_e2 (p_e2 (p_var rfl) p_c rfl) (p_e2 (p_var rfl) p_c rfl) (eqb _)) ⟨rfl, rfl⟩
    | bool c =>
      refine run_F rfl (run_seq (run_sif' (p_e1 (p_var rfl) (isi_k rfl (show isiAny "bool" ["list", "tuple"] = some false by decide +kernel))) rfl ?_))
      rw [if_neg (by decide)]
      refine run_snil (run_seq (run_sif (run_tOrr (Run.of (p_tOf (p_e2 (p_var rfl) p_c rfl) rfl) ?_))))
      rw [if_neg (by decide)]
      refine Run.of (p_tOf (p_e1 (p_var rfl) (isi_k rfl (show isiAny "bool" ["bool", "str"] = some true by decide +kernel))) rfl) ?_
      rw [if_pos rfl]
      refine run_rt (run_eAn (Pu.run (p_e2 (p_var rfl) (p_var rfl) (eqb c)) ⟨true, rfl, ?_⟩))
      rw [if_pos rfl]
      refine run_eAn (Pu.run (p_e2 (p_e1 (p_var rfl) (isi_k rfl k1)) (p_e1 (p_var rfl) (isi_k rfl k1)) (eqb _)) ⟨true, rfl, ?_⟩)
      rw [if_pos rfl]
      exact Pu.run (p_e2 (p_e2 (p_var rfl) p_c rfl) (p_e2 (p_var rfl) p_c rfl) (eqb _)) ⟨rfl, rfl⟩
    | str x =>
      refine run_F rfl (run_seq (run_sif' (p_e1 (p_var rfl) (isi_k rfl (show isiAny "str" ["list", "tuple"] = some false by decide +kernel))) rfl ?_))
      rw [if_neg (by decide)]
      refine run_snil (run_seq (run_sif (run_tOrr (Run.of (p_tOf (p_e2 (p_var rfl) p_c rfl) rfl) ?_))))
      rw [if_neg (by decide)]
      refine Run.of (p_tOf (p_e1 (p_var rfl) (isi_k rfl (show isiAny "str" ["bool", "str"] = some true by decide +kernel))) rfl) ?_
      rw [if_pos rfl]
      have eqs : eqD (.str x) (.str x) = some (.bool true) := by
        show some (PyData.bool (decide (x = x))) = _
        simp
      refine run_rt (run_eAn (Pu.run (p_e2 (p_var rfl) (p_var rfl) eqs) ⟨true, rfl, ?_⟩))
      rw [if_pos rfl]
      refine run_eAn (Pu.run (p_e2 (p_e1 (p_var rfl) (isi_k rfl k2)) (p_e1 (p_var rfl) (isi_k rfl k2)) (eqb _)) ⟨true, rfl, ?_⟩)
      rw [if_pos rfl]
      exact Pu.run (p_e2 (p_e2 (p_var rfl) p_c rfl) (p_e2 (p_var rfl) p_c rfl) (eqb _)) ⟨rfl, rfl⟩
    | int i =>
      refine run_F rfl (run_seq (run_sif' (p_e1 (p_var rfl) (isi_k rfl (show isiAny "int" ["list", "tuple"] = some false by decide +kernel))) rfl ?_))
      rw [if_neg (by decide)]
      refine run_snil (run_seq (run_sif (run_tOrr (Run.of (p_tOf (p_e2 (p_var rfl) p_c rfl) rfl) ?_))))
      rw [if_neg (by decide)]
      refine Run.of (p_tOf (p_e1 (p_var rfl) (isi_k rfl (show isiAny "int" ["bool", "str"] = some false by decide +kernel))) rfl) ?_
      rw [if_neg (by decide)]
      have eqi : eqD (.int i) (.int i) = some (.bool true) := by
        show some (PyData.bool (decide (i = i))) = _
        simp
      refine run_snil (run_rt (run_eAn (Pu.run (p_e1 (p_var rfl) (isi_k rfl (show isiAny "int" ["int"] = some true by decide +kernel))) ⟨true, rfl, ?_⟩)))
      rw [if_pos rfl]
      refine run_eAn (Run.of (bx := bx) (a := .bool true) (b := bx) ?_ ⟨true, rfl, ?_⟩)
      · unfold eNt bnd
        rw [show e1 (isiD ["bool"]) (eVar 0) _ bx = some (.bool false, bx) from p_e1 (p_var rfl) (isi_k rfl (show isiAny "int" ["bool"] = some false by decide +kernel))]
        rfl
      · rw [if_pos rfl]
        exact Pu.run (p_e2 (p_var rfl) (p_var rfl) eqi) ⟨rfl, rfl⟩
end MD
end

section
set_option Elab.async false
set_option linter.all false
set_option maxRecDepth 100000
namespace MD
open PySem L2

/-! ### the law's frame: cells, boxes, the end -/
def boxB (off : Int) : Sf := sSeq (sSetM [] 2 (eIf (tOf (e2 ltD (eVar 1) (eA lenD (aCons (eVar 0) (aNil))))) (eIx (eVar 0) (eVar 1)) (eC (.int 0)))) (sRet (eA gLst (aCons (e2 mulAD (eA absD (aCons (eVar 2) (aNil))) (eA intFD (aCons (e2 geD (eA absD (aCons (eVar 2) (aNil))) (e2 powD (eC (.int 10)) (eC (.int 18)))) (aNil)))) (aCons (e2 addD (e2 addD (e2 modD (eA intFD (aCons (eVar 2) (aNil))) (eC (.int 2305843009213693951))) (e2 mulAD (eC (.int 39373)) (eVar 1))) (eC (.int off))) (aCons (eC (.int 0)) (aNil))))))
def boxF (off : Int) : Ff := mkF 2 3 (boxB off)
def cellsB : Sf := sSeq (sSetO [] 2 (eOr (eA listAD (aCons (eSl slD (eVar 0) (pNo) (pSo (eVar 1))) (aNil))) (eA gLst (aCons (eC (.int 0)) (aNil)))))
  (sSeq (sFor [2] (setT [3, 4]) (iArgs enumD (aCons (eSl slD (eVar 0) (pSo (eVar 1)) (pSo (eC (.int 63)))) (aNil)))
  (sSeq (sSetM [2] 5 (e2 modD (eA intFD (aCons (eVar 3) (aNil))) (eVar 1)))
  (sPut 2 (eVar 5) (e2 addD (eIx (eVar 2) (eVar 5)) (e2 mulAD (eVar 4) (e2 addD (eVar 3) (eC (.int 2))))))))
  (sRet (eVar 2)))
def cellsF : Ff := mkF 2 6 cellsB
theorem run_put {i : Nat} {ix a : Ef} {env : Ev} {bx : Bx} {d : D} {z : Int} {l : List D} {j : Nat} {Q : Fl → Bx → Prop} (hl : env[i]? = some (some (.list l))) (h : Pu a env bx d) (hf : flat d = true) (h2 : Pu ix env bx (.int z)) (e : ixN l.length z = some j) (q : Q (.nx (env.set i (some (.list (l.set j d))))) bx) : Run (sPut i ix a env) bx Q :=
  run_bnd (h.run (run_bnd (h2.run (run_bnd (run_opt (a := z) rfl (run_bnd (run_opt (a := l) (by unfold getL; rw [hl]) (run_bnd (run_opt e (by rw [if_pos hf]; exact run_ret q))))))))))
/-- ints of at most so many bits -/
def Bits (k : Nat) (l : List Int) : Prop := ∀ z ∈ l, z.natAbs < 2 ^ k
theorem bits_of {z : Int} {k : Nat} (h : Builtin.Int.intBits z ≤ k) : z.natAbs < 2 ^ (k + 1) := by
  unfold Builtin.Int.intBits at h
  by_cases c : z = 0
  · subst c
    exact Nat.two_pow_pos _
  · have h2 : z.natAbs.log2 + 1 ≤ k := by
      have : (z == 0) = false := by simpa using c
      simpa [this] using h
    exact Nat.lt_of_lt_of_le (Nat.lt_log2_self) (Nat.pow_le_pow_right (by decide) (by omega))
theorem run_elim {α : Type} {m : M α} {bx : Bx} {Q : α → Bx → Prop} {R : Prop} (h : Run m bx Q) (k : ∀ a b, m bx = some (a, b) → Q a b → R) : R := by
  obtain ⟨a, b, e, q⟩ := h
  exact k a b e q
theorem map_set {l : List Int} {j : Nat} {v : Int} : (l.map PyData.int).set j (.int v) = (l.set j v).map PyData.int := by
  rw [List.map_set]
theorem atI_map {l : List Int} {j : Nat} (h : j < l.length) : atI (l.map PyData.int) (j : Int) = some (.int l[j]) := by
  rw [atI_lt (by simpa using h)]
  simp
theorem ixN_lt {n j : Nat} (h : j < n) : ixN n (j : Int) = some j := by
  unfold ixN
  rw [if_pos (by omega), if_pos (by omega), Int.toNat_natCast]
theorem enumItems_get {ds : List D} {i : Nat} {d : D} (h : (enumItems ds)[i]? = some d) : ∃ e, ds[i]? = some e ∧ d = .tuple [.int i, e] := by
  have hi : i < ds.length := by
    have := (List.getElem?_eq_some_iff.mp h).1
    rw [enum_len] at this
    exact this
  have e1 : ds[i]? = some ds[i] := by simp [hi]
  refine ⟨ds[i], e1, ?_⟩
  rw [enum_get e1] at h
  exact (Option.some.inj h).symm
theorem cells_ok {K : Nat} (hK : K ≤ 2000000) {ns : List Int} (hl : ns.length ≤ 63) (hb : Bits K ns) (bx : Bx) : ∃ cs : List Int, cs.length ≤ 3 ∧ Bits (K + 13) cs ∧ cellsF [rolD (ns.map .int), .int 3] bx = some (.list (cs.map .int), bx) := by
  refine run_elim (α := D) (m := cellsF [rolD (ns.map .int), .int 3]) (bx := bx) (Q := fun (d : D) (b : Bx) => ∃ cs : List Int, d = PyData.list (cs.map PyData.int) ∧ b = bx ∧ cs.length ≤ 3 ∧ Bits (K + 13) cs) ?_ (fun d b e ⟨cs, h1, h2, h3, h4⟩ => ⟨cs, h3, h4, by rw [e, h1, h2]⟩)
  obtain ⟨T, hT⟩ : ∃ T : Nat, T = 2 ^ (K + 7) := ⟨_, rfl⟩
  have hT13 : T * 64 = 2 ^ (K + 13) := by rw [hT, show K + 13 = (K + 7) + 6 by omega, Nat.pow_add 2 (K + 7) 6]
  have hTK : (2 : Nat) ^ K ≤ T := by rw [hT]; exact Nat.pow_le_pow_right (by decide) (by omega)
  have hT0 : 0 < T := by rw [hT]; exact Nat.two_pow_pos _
  have tk : cutL (ns.map PyData.int) none (some (3 : Int)) = (ns.take 3).map PyData.int := by
    have := cut_to (l := ns.map PyData.int) 3
    rw [List.map_take]
    exact this
  have dr : ∃ ms : List Int, cutL (ns.map PyData.int) (some (3 : Int)) (some (63 : Int)) = ms.map PyData.int ∧ ms.length ≤ 63 ∧ (∀ z ∈ ms, z ∈ ns) ∧ (ns.length ≤ 3 → ms = []) := by
    refine ⟨(ns.drop (min 3 ns.length)).take (min 63 ns.length - min 3 ns.length), ?_, ?_, ?_, ?_⟩
    · unfold cutL
      rw [List.length_map, show ((63 : Int)) = ((63 : Nat) : Int) from rfl, show ((3 : Int)) = ((3 : Nat) : Int) from rfl, HT.sIx_nat, HT.sIx_nat, List.map_take, List.map_drop]
    · rw [List.length_take, List.length_drop]
      omega
    · intro z hz
      exact List.mem_of_mem_drop (List.mem_of_mem_take hz)
    · intro h
      rw [Nat.min_eq_right h, Nat.min_eq_right (show ns.length ≤ 63 by omega), Nat.sub_self, List.take_zero]
  obtain ⟨ms, hms, hml, hmem, hm0⟩ := dr
  have first : ∃ cs : List Int, Pu (eOr (eA listAD (aCons (eSl slD (eVar 0) (pNo) (pSo (eVar 1))) (aNil))) (eA gLst (aCons (eC (.int 0)) (aNil)))) [some (rolD (ns.map .int)), some (.int 3), none, none, none, none] bx (.list (cs.map .int)) ∧ cs.length ≤ 3 ∧ (3 < ns.length → cs.length = 3) ∧ (∀ z ∈ cs, z.natAbs < T) := by
    have e1 : Pu (eA listAD (aCons (eSl slD (eVar 0) (pNo) (pSo (eVar 1))) (aNil))) [some (rolD (ns.map .int)), some (.int 3), none, none, none, none] bx (.list ((ns.take 3).map .int)) :=
      p_A1 (p_sl (p_var rfl) rfl (p_so (p_var rfl)) (show slD (rolD (ns.map .int)) none (some 3) = some (.list ((ns.take 3).map .int)) by rw [← tk]; rfl)) rfl
    by_cases c : ns = []
    · subst c
      refine ⟨[0], ?_, by decide, by simp, by simpa using hT0⟩
      unfold Pu eOr bnd
      rw [e1]
      rfl
    · refine ⟨ns.take 3, ?_, by rw [List.length_take]; omega, fun h => by rw [List.length_take]; omega, fun z hz => Nat.lt_of_lt_of_le (hb z (List.mem_of_mem_take hz)) hTK⟩
      unfold Pu eOr bnd
      rw [e1]
      have : truD (.list ((ns.take 3).map PyData.int)) = some true := by
        cases ns with
        | nil => exact (c rfl).elim
        | cons a r => rfl
      simp only [opt, this]
      rfl
  obtain ⟨cs, hcs, hc3, hcn, hcb⟩ := first
  refine run_F rfl (run_seq (run_setO (show (2 : Nat) < 6 by decide) (Pu.run hcs ?_)))
  refine run_seq (run_for (Run.of (p_args (p_cons (p_sl (p_var rfl) (p_so (p_var rfl)) (p_so p_c) (show slD (rolD (ns.map .int)) (some 3) (some 63) = some (.list (ms.map .int)) by rw [← hms]; rfl)) p_nil) (show enumD [.list (ms.map .int)] = some (enumItems (ms.map .int)) from rfl)) ?_))
  refine run_forL' (fun i env b => b = bx ∧ ∃ cs : List Int, cs.length ≤ 3 ∧ (3 < ns.length → cs.length = 3) ∧ (∀ z ∈ cs, z.natAbs < (i + 1) * T) ∧ ∃ d3 d4 d5, env = [some (rolD (ns.map .int)), some (.int 3), some (.list (cs.map .int)), d3, d4, d5])
    ⟨rfl, cs, hc3, hcn, by simpa using hcb, none, none, none, rfl⟩ ?_ ?_
  · rintro i d env b hd ⟨rfl, cs, c3, cn, cb, d3, d4, d5, rfl⟩
    obtain ⟨e, he, rfl⟩ := enumItems_get hd
    rw [List.getElem?_map] at he
    cases hz : ms[i]? with
    | none => rw [hz] at he; cases he
    | some z =>
      rw [hz] at he
      cases he
      have him : i < ms.length := (List.getElem?_eq_some_iff.mp hz).1
      have hzm : z ∈ ms := List.mem_of_getElem? hz
      have hlen : cs.length = 3 := cn (by
        by_cases h : 3 < ns.length
        · exact h
        · rw [hm0 (by omega)] at him
          exact (Nat.not_lt_zero _ him).elim)
      have zb : z.natAbs < 2 ^ K := hb z (hmem z hzm)
      refine ⟨_, rfl, run_seq (run_setM' (p_e2 (p_A1 (p_var rfl) rfl) (p_var rfl) (modD_int (by decide))) ?_)⟩
      have emod : ((i : Int) % 3) = ((i % 3 : Nat) : Int) := by omega
      rw [emod]
      have h3 : i % 3 < cs.length := by rw [hlen]; exact Nat.mod_lt _ (by decide)
      have kb : ((i : Int) + 2).natAbs < 2 ^ 7 := by
        have : (2 : Nat) ^ 7 = 128 := by decide
        omega
      have prod : mulAD (.int z) (.int ((i : Int) + 2)) = some (.int (z * ((i : Int) + 2))) := mulAD_int zb kb (by omega)
      have pb : (z * ((i : Int) + 2)).natAbs < T := by
        rw [hT]
        exact L2.wide_lt zb kb
      refine run_put (l := cs.map .int) (j := i % 3) rfl (p_e2 (p_ix (p_var rfl) (p_var rfl) (ixM_ix (atI_map h3))) (p_e2 (p_var rfl) (p_e2 (p_var rfl) p_c rfl) prod) rfl) rfl (p_var rfl) (by rw [List.length_map]; exact ixN_lt h3) ?_
      refine ⟨rfl, cs.set (i % 3) (cs[i % 3] + z * ((i : Int) + 2)), by simpa using c3, fun h => by simpa using hlen, fun y hy => ?_, _, _, _, by rw [map_set]; rfl⟩
      have old : ∀ y ∈ cs, y.natAbs < (i + 1 + 1) * T := fun y hy => Nat.lt_of_lt_of_le (cb y hy) (Nat.mul_le_mul_right _ (by omega))
      rcases List.mem_or_eq_of_mem_set hy with h | h
      · exact old y h
      · subst h
        have h1 := cb _ (List.getElem_mem h3)
        have h2 := Int.natAbs_add_le cs[i % 3] (z * ((i : Int) + 2))
        have h4 : (i + 1 + 1) * T = (i + 1) * T + T := by rw [Nat.add_mul (i + 1) 1 T, Nat.one_mul]
        rw [h4]
        omega
  · rintro env b ⟨rfl, cs, c3, cn, cb, d3, d4, d5, rfl⟩
    refine run_rt' (p_var rfl) ⟨cs, rfl, rfl, c3, fun z hz => ?_⟩
    have h := cb z hz
    rw [enum_len, List.length_map] at h
    rw [← hT13]
    refine Nat.lt_of_lt_of_le h ?_
    rw [Nat.mul_comm T 64]
    exact Nat.mul_le_mul_right _ (by omega)
theorem box_ok {K : Nat} (hK : K ≤ 3000000) {off : Int} (h0 : 0 ≤ off) (h1 : off ≤ 10000000) {cs : List Int} (hl : cs.length ≤ 3) (hb : Bits K cs) {k : Nat} (hk : k < cs.length) (bx : Bx) :
    ∃ x y : Int, boxF off [.list (cs.map .int), .int k] bx = some (.list [.int x, .int y, .int 0], bx) ∧ 0 ≤ x ∧ 0 ≤ y ∧ y < 2 ^ 100 := by
  refine run_elim (α := D) (m := boxF off [.list (cs.map .int), .int k]) (bx := bx) (Q := fun (d : D) (b : Bx) => ∃ x y : Int, d = PyData.list [.int x, .int y, .int 0] ∧ b = bx ∧ 0 ≤ x ∧ 0 ≤ y ∧ y < 2 ^ 100) ?_ (fun d b e ⟨x, y, h1, h2, h3⟩ => ⟨x, y, by rw [e, h1, h2], h3⟩)
  have hlen : lenD [.list (cs.map .int)] = some (.int (cs.length : Nat)) := by
    show some (PyData.int ((cs.map PyData.int).length : Nat)) = _
    rw [List.length_map]
  have hlt : truD (.bool (decide ((k : Int) < (cs.length : Nat)))) = some true := by
    show some (decide _) = _
    rw [decide_eq_true (by omega)]
  obtain ⟨c, hc⟩ : ∃ c, c = cs[k] := ⟨_, rfl⟩
  have cb : c.natAbs < 2 ^ K := by rw [hc]; exact hb _ (List.getElem_mem hk)
  have e1 : Pu (eIf (tOf (e2 ltD (eVar 1) (eA lenD (aCons (eVar 0) (aNil))))) (eIx (eVar 0) (eVar 1)) (eC (.int 0))) [some (.list (cs.map .int)), some (.int k), none] bx (.int c) := by
    unfold Pu eIf bnd
    rw [p_tOf (p_e2 (p_var rfl) (p_A1 (p_var rfl) hlen) rfl) hlt]
    show eIx (eVar 0) (eVar 1) _ bx = _
    exact p_ix (p_var rfl) (p_var rfl) (ixM_ix (by rw [hc]; exact atI_map hk))
  refine run_F rfl (run_seq (run_setM' e1 ?_))
  have ea : absD [.int c] = some (.int (if c < 0 then -c else c)) := rfl
  obtain ⟨a, ha⟩ : ∃ a : Int, a = if c < 0 then -c else c := ⟨_, rfl⟩
  rw [← ha] at ea
  have a0 : 0 ≤ a := by rw [ha]; split <;> omega
  have ab : a.natAbs < 2 ^ K := by
    have : a.natAbs = c.natAbs := by rw [ha]; split <;> omega
    rw [this]; exact cb
  obtain ⟨g, hg⟩ : ∃ g : Int, (if decide ((10 : Int) ^ 18 ≤ a) = true then (1 : Int) else 0) = g ∧ (g = 0 ∨ g = 1) := by
    by_cases h : (10 : Int) ^ 18 ≤ a
    · exact ⟨1, by rw [decide_eq_true h]; rfl, .inr rfl⟩
    · exact ⟨0, by rw [decide_eq_false h]; rfl, .inl rfl⟩
  have eg : intFD [.bool (decide ((10 : Int) ^ 18 ≤ a))] = some (.int g) := by
    show some (PyData.int (if decide ((10 : Int) ^ 18 ≤ a) = true then 1 else 0)) = _
    rw [hg.1]
  have gb : g.natAbs < 2 ^ 1 := by rcases hg.2 with h | h <;> rw [h] <;> decide
  have m1 : mulAD (.int a) (.int g) = some (.int (a * g)) := mulAD_int ab gb (by omega)
  have x0 : 0 ≤ a * g := by
    rcases hg.2 with h | h <;> rw [h] <;> omega
  have m2 : mulAD (.int 39373) (.int k) = some (.int (39373 * k)) := mulAD_int (j := 16) (k := 8) (by decide) (by have : (2 : Nat) ^ 8 = 256 := by decide
                                                                                                                  omega) (by decide)
  have y0 := Int.emod_nonneg c (show (2305843009213693951 : Int) ≠ 0 by decide)
  have y1 := Int.emod_lt_of_pos c (show (0 : Int) < 2305843009213693951 by decide)
  refine run_rt' (p_A (p_cons (p_e2 (p_A1 (p_var rfl) ea) (p_A1 (p_e2 (p_A1 (p_var rfl) ea) (p_e2 p_c p_c (show powD (.int 10) (.int 18) = some (.int ((10 : Int) ^ 18)) from rfl)) rfl) eg) m1) (p_cons (p_e2 (p_e2 (p_e2 (p_A1 (p_var rfl) rfl) p_c (modD_int (by decide))) (p_e2 p_c (p_var rfl) m2) rfl) p_c rfl) (p_cons p_c p_nil))) (gLst_ok (show (3 : Nat) ≤ 1000000 by decide))) ?_
  exact ⟨a * g, _, rfl, rfl, x0, by omega, by omega⟩

def lawB (cells box byhand right : Ff) : Sf := sSeq (sSetM [] 1 (eCall cells (aCons (eVar 0) (aCons (eC (.int 3)) (aNil)))))
  (sSeq (sIf (tNt (tOf (eCall byhand aNil)))
  (sRet (eC (.bool false)))
  (sNil))
  (sRet (eA allFD (aCons (eLc [2] (setN 2) (iArgs rangeD (aCons (eA lenD (aCons (eVar 1) (aNil))) (aNil))) (tYesF) (eBox right (eCall box (aCons (eVar 1) (aCons (eVar 2) (aNil)))))) (aNil)))))
def isTN (o : Option (D × Bx)) : Bool := match o with
  | some (.bool true, none) => true
  | _ => false
theorem isTN_eq {o : Option (D × Bx)} (h : isTN o = true) : o = some (.bool true, none) := by
  unfold isTN at h
  split at h
  · rfl
  · cases h
/-- the end of most laws: what is asked by hand holds, and each box holds -/
theorem law_shape {off : Int} (h0 : 0 ≤ off) (h1 : off ≤ 10000000) {byhand right : Ff} (hb : isTN (byhand [] none) = true) {m : Nat} (hm : m ≤ 2 ^ 100) (hr : ∀ bx, Good m bx → Run (right [boxD]) bx fun d _ => d = .bool true) :
    ∀ ns : List Int, ns.length ≤ 63 → (∀ z ∈ ns, Builtin.Int.intBits z ≤ 1048576) → isTrueF (mkF 1 3 (lawB cellsF (boxF off) byhand right) [rolD (ns.map .int)] none) = true := by
  intro ns hl hz
  refine run_elim (α := D) (m := mkF 1 3 (lawB cellsF (boxF off) byhand right) [rolD (ns.map .int)]) (bx := none) (Q := fun (d : D) (_ : Bx) => d = PyData.bool true) ?_ (fun d b e h => by
    subst h
    rw [e]
    rfl)
  obtain ⟨cs, hc3, hcb, hcs⟩ := cells_ok (K := 1048577) (by decide) hl (fun z h => bits_of (hz z h)) none
  refine run_F rfl (run_seq (run_setM' (p_call (p_cons (p_var rfl) (p_cons p_c p_nil)) hcs) ?_))
  refine run_seq (run_sif (run_tNt (run_tOf (run_call ⟨[], none, rfl, .bool true, none, isTN_eq hb, true, rfl, ?_⟩))))
  show Run (sNil _) none _
  refine run_snil ?_
  have hlen : lenD [.list (cs.map .int)] = some (.int (cs.length : Nat)) := by
    show some (PyData.int ((cs.map PyData.int).length : Nat)) = _
    rw [List.length_map]
  have hcomp : compL (setN 2) tYesF (eBox right (eCall (boxF off) (aCons (eVar 1) (aCons (eVar 2) (aNil))))) (maskE [2] [some (rolD (ns.map .int)), some (.list (cs.map .int)), none]) (rangeItems 0 cs.length) none = some (List.replicate cs.length (.bool true), none) := by
    have h := comp_pure (set := setN 2) (tt := tYesF) (el := eBox right (eCall (boxF off) (aCons (eVar 1) (aCons (eVar 2) (aNil))))) (env0 := maskE [2] [some (rolD (ns.map .int)), some (.list (cs.map .int)), none]) (bx := none) (fun _ => true) (fun _ => .bool true) (ds := rangeItems 0 cs.length) (fun d hd => by
      obtain ⟨i, hi⟩ := List.mem_iff_getElem?.mp hd
      obtain ⟨rfl, hlt⟩ := rangeItems_get hi
      refine ⟨_, rfl, rfl, fun _ => ?_⟩
      have ez : (0 : Int) + (i : Nat) = ((i : Nat) : Int) := by omega
      rw [ez]
      obtain ⟨x, y, hx, x0, y0, y1⟩ := box_ok (K := 1048577 + 13) (by decide) h0 h1 hc3 hcb hlt none
      obtain ⟨d, b, hd, rfl⟩ := hr (some (x, y, 0)) ⟨x, y, 0, rfl, x0, y0, y1, Int.le_refl _, by
        have : (m : Int) ≤ ((2 ^ 100 : Nat) : Int) := Int.ofNat_le.mpr hm
        have e : ((2 ^ 100 : Nat) : Int) = 2 ^ 100 := by decide
        omega⟩
      have hcall : eCall (boxF off) (aCons (eVar 1) (aCons (eVar 2) (aNil))) [some (rolD (ns.map .int)), some (.list (cs.map .int)), some (.int i)] none = some (.list [.int x, .int y, .int 0], none) := p_call (p_cons (p_var rfl) (p_cons (p_var rfl) p_nil)) hx
      show eBox right (eCall (boxF off) (aCons (eVar 1) (aCons (eVar 2) (aNil)))) [some (rolD (ns.map .int)), some (.list (cs.map .int)), some (.int i)] none = _
      unfold eBox bnd
      rw [hcall]
      show (match right [boxD] (some (x, y, 0)) with | some (r, _) => if noDict r = true then some (r, (none : Bx)) else none | none => none) = _
      rw [hd]
      rfl)
    rw [h]
    congr 2
    have e0 : (rangeItems 0 cs.length).filter (fun _ => true) = rangeItems 0 cs.length := List.filter_eq_self.mpr fun _ _ => rfl
    rw [e0]
    have e1 : (rangeItems 0 cs.length).length = cs.length := rangeItems_len
    rw [List.map_const', e1]
  exact run_rt' (p_A1 (p_lc (p_args (p_cons (p_A1 (p_var rfl) hlen) p_nil) (by rw [rangeD1 (by omega) (by omega), Int.toNat_natCast])) (by rw [rangeItems_len]; omega) hcomp) (bools_all _)) rfl
end MD
end

section
set_option Elab.async false
set_option linter.all false
set_option maxRecDepth 100000
namespace MD
open PySem L2

/-! ### like neighbours left out: a pile of letters, the last one on top -/
def push (st : List Nat) (c : Nat) : List Nat := match st with
  | [] => [c]
  | x :: r => if x = c then r else c :: x :: r
def pushes (st : List Nat) (l : List Nat) : List Nat := l.foldl push st
def redL (l : List Nat) : List Nat := (pushes [] l).reverse
theorem noAdj_tail {x : Nat} {r : List Nat} (h : noAdj (x :: r) = true) : noAdj r = true := by
  cases r with
  | nil => rfl
  | cons y r =>
    rw [noAdj, Bool.and_eq_true] at h
    exact h.2
theorem noAdj_cons {x : Nat} {r : List Nat} (h : noAdj r = true) (hx : r.head? ≠ some x) : noAdj (x :: r) = true := by
  cases r with
  | nil => rfl
  | cons y r =>
    have : x ≠ y := fun z => hx (by rw [z]; rfl)
    rw [noAdj, h, Bool.and_true]
    simpa using this
theorem noAdj_head {x : Nat} {r : List Nat} (h : noAdj (x :: r) = true) : r.head? ≠ some x := by
  cases r with
  | nil => simp
  | cons y r =>
    rw [noAdj, Bool.and_eq_true] at h
    have : x ≠ y := by simpa using h.1
    intro z
    exact this (by simpa using z.symm)
theorem noAdj_push {st : List Nat} {c : Nat} (h : noAdj st = true) : noAdj (push st c) = true := by
  unfold push
  split
  · rfl
  · split
    · exact noAdj_tail h
    · rename_i x r e
      exact noAdj_cons h (by simpa using e)
theorem noAdj_pushes {st : List Nat} (h : noAdj st = true) (l : List Nat) : noAdj (pushes st l) = true := by
  induction l generalizing st with
  | nil => exact h
  | cons c l ih => exact ih (noAdj_push h)
theorem push_twice {st : List Nat} {c : Nat} (h : noAdj st = true) : push (push st c) c = st := by
  cases st with
  | nil => simp [push]
  | cons x r =>
    by_cases e : x = c
    · subst e
      have hh := noAdj_head h
      cases r with
      | nil => simp [push]
      | cons y r =>
        have : ¬ y = x := fun z => hh (by rw [z]; rfl)
        simp [push, this]
    · simp [push, e]
theorem pushes_app (st a b : List Nat) : pushes st (a ++ b) = pushes (pushes st a) b := List.foldl_append
theorem pushes_drop {st u v : List Nat} {c : Nat} (h : noAdj st = true) : pushes st (u ++ c :: c :: v) = pushes st (u ++ v) := by
  rw [pushes_app, pushes_app]
  show pushes (push (push (pushes st u) c) c) v = _
  rw [push_twice (noAdj_pushes h u)]
theorem pushes_row {st l : List Nat} (h : noAdj l = true) (hs : ∀ c, st.head? = some c → l.head? ≠ some c) : pushes st l = l.reverse ++ st := by
  induction l generalizing st with
  | nil => rfl
  | cons x l ih =>
    have e : push st x = x :: st := by
      unfold push
      split
      · rfl
      · rename_i y r
        have : ¬ y = x := fun z => hs y rfl (by rw [z]; rfl)
        rw [if_neg this]
    show pushes (push st x) l = _
    rw [e, ih (noAdj_tail h) (fun c hc => by
      have : x = c := by simpa using hc
      subst this
      exact noAdj_head h)]
    simp
/-- how many letters are alike from the first one on -/
def cm : List Nat → List Nat → Nat
  | x :: a, y :: b => if x = y then cm a b + 1 else 0
  | _, _ => 0
theorem cm_le1 : ∀ a b : List Nat, cm a b ≤ a.length
  | [], b => Nat.zero_le _
  | x :: a, [] => Nat.zero_le _
  | x :: a, y :: b => by
    unfold cm
    split
    · simpa using cm_le1 a b
    · exact Nat.zero_le _
theorem cm_le2 : ∀ a b : List Nat, cm a b ≤ b.length
  | [], b => Nat.zero_le _
  | x :: a, [] => Nat.zero_le _
  | x :: a, y :: b => by
    unfold cm
    split
    · simpa using cm_le2 a b
    · exact Nat.zero_le _
theorem cm_self : ∀ a : List Nat, cm a a = a.length
  | [] => rfl
  | x :: a => by simp [cm, cm_self a]
theorem cm_nil (a : List Nat) : cm a [] = 0 := by cases a <;> rfl
theorem pushes_cm : ∀ (st b : List Nat), noAdj b = true → pushes st b = (b.drop (cm st b)).reverse ++ st.drop (cm st b)
  | [], b, h => by
    rw [pushes_row h (fun c hc => by cases hc)]
    show _ = (b.drop (cm [] b)).reverse ++ [].drop (cm [] b)
    rw [show cm [] b = 0 from rfl]
    simp
  | x :: st, [], h => by
    rw [cm_nil]
    rfl
  | x :: st, y :: b, h => by
    by_cases e : x = y
    · subst e
      have ih := pushes_cm st b (noAdj_tail h)
      show pushes (push (x :: st) x) b = _
      have e1 : push (x :: st) x = st := by simp [push]
      have e2 : cm (x :: st) (x :: b) = cm st b + 1 := by simp [cm]
      rw [e1, e2, ih]
      rfl
    · rw [pushes_row h (fun c hc => by
        have : x = c := by simpa using hc
        subst this
        intro z
        exact e (by simpa using z.symm))]
      have e2 : cm (x :: st) (y :: b) = 0 := by simp [cm, e]
      rw [e2]
      rfl
theorem redL_row {l : List Nat} (h : noAdj l = true) : redL l = l := by
  unfold redL
  rw [pushes_row h (fun c hc => by cases hc)]
  simp
theorem noAdj_rev {l : List Nat} (h : noAdj l = true) : noAdj l.reverse = true := by
  have := noAdj_pushes (st := []) rfl l
  rw [pushes_row h (fun c hc => by cases hc)] at this
  simpa using this
theorem noAdj_red (l : List Nat) : noAdj (redL l) = true := noAdj_rev (noAdj_pushes rfl l)
theorem redL_drop {u v : List Nat} {c : Nat} : redL (u ++ c :: c :: v) = redL (u ++ v) := by
  unfold redL
  rw [pushes_drop rfl]
theorem noAdj_left {a b : List Nat} (h : noAdj (a ++ b) = true) : noAdj a = true := by
  induction a with
  | nil => rfl
  | cons x a ih =>
    have h2 := noAdj_tail (r := a ++ b) h
    refine noAdj_cons (ih h2) ?_
    have h3 := noAdj_head (r := a ++ b) h
    cases a with
    | nil => simp
    | cons y a => exact h3
theorem noAdj_right {a b : List Nat} (h : noAdj (a ++ b) = true) : noAdj b = true := by
  induction a with
  | nil => exact h
  | cons x a ih => exact ih (noAdj_tail (r := a ++ b) h)
theorem noAdj_take {l : List Nat} (n : Nat) (h : noAdj l = true) : noAdj (l.take n) = true := noAdj_left (b := l.drop n) (by rw [List.take_append_drop]; exact h)
theorem noAdj_drop {l : List Nat} (n : Nat) (h : noAdj l = true) : noAdj (l.drop n) = true := noAdj_right (a := l.take n) (by rw [List.take_append_drop]; exact h)
/-- two rows joined -/
def joinL (a b : List Nat) : List Nat := a.take (a.length - cm a.reverse b) ++ b.drop (cm a.reverse b)
theorem joinL_red {a b : List Nat} (ha : noAdj a = true) (hb : noAdj b = true) : joinL a b = redL (a ++ b) := by
  unfold redL joinL
  rw [pushes_app, pushes_row ha (fun c hc => by cases hc), List.append_nil, pushes_cm _ _ hb, List.reverse_append, List.reverse_reverse]
  congr 1
  rw [List.drop_reverse, List.reverse_reverse]
theorem joinL_nil1 (b : List Nat) : joinL [] b = b := rfl
theorem joinL_nil2 (a : List Nat) : joinL a [] = a := by
  unfold joinL
  rw [cm_nil]
  simp
theorem joinL_back (a : List Nat) : joinL a a.reverse = [] := by
  unfold joinL
  rw [cm_self]
  simp
theorem joinL_le (a b : List Nat) : (joinL a b).length ≤ a.length + b.length := by
  unfold joinL
  rw [List.length_append, List.length_take, List.length_drop]
  omega
theorem push_le (st : List Nat) (c : Nat) : (push st c).length ≤ st.length + 1 := by
  unfold push
  split
  · simp
  · split
    · simp; omega
    · simp
theorem pushes_le (st l : List Nat) : (pushes st l).length ≤ st.length + l.length := by
  induction l generalizing st with
  | nil => simp [pushes]
  | cons c l ih =>
    have h1 := push_le st c
    have h2 := ih (push st c)
    show (pushes (push st c) l).length ≤ _
    simp
    omega
theorem redL_le (l : List Nat) : (redL l).length ≤ l.length := by
  have := pushes_le [] l
  unfold redL
  simpa using this
end MD
end

section
set_option Elab.async false
set_option linter.all false
set_option maxRecDepth 100000
namespace MD
open PySem L2

/-! ### the program's rows -/
def reducedB : Sf := sSeq (sSetO [] 1 (eA gLst (aNil)))
  (sSeq (sFor [1] (setN 2) (iOf itemsD (eVar 0))
  (sIf (tAn (tOf (eVar 1)) (tOf (e2 eqD (eIx (eVar 1) (e1 negD (eC (.int 1)))) (eVar 2))))
  (sPop 1)
  (sApp [1] false 1 (eVar 2))))
  (sRet (e2 joinD (eC (.str (Str.ofString ""))) (eVar 1))))
def reducedF : Ff := mkF 1 3 reducedB
def commonB : Sf := sSeq (sPar [] [2, 3] (aCons (eC (.int 0)) (aCons (eA min2D (aCons (eA lenD (aCons (eVar 0) (aNil))) (aCons (eA lenD (aCons (eVar 1) (aNil))) (aNil)))) (aNil))))
  (sSeq (whileF (tOf (e2 ltD (eVar 2) (eVar 3)))
  (sSeq (sSetM [] 4 (e2 fdivD (e2 addD (e2 addD (eVar 2) (eVar 3)) (eC (.int 1))) (eC (.int 2))))
  (sIf (tOf (e2 eqD (eSl slD (eVar 0) (pSo (eVar 2)) (pSo (eVar 4))) (eSl slD (eVar 1) (pSo (eVar 2)) (pSo (eVar 4)))))
  (sSetM [] 2 (eVar 4))
  (sSetM [] 3 (e2 subD (eVar 4) (eC (.int 1)))))) 100000)
  (sRet (eVar 2)))
def commonF : Ff := mkF 2 5 commonB
def backB : Sf := sRet (e1 revD (eVar 0))
def backF : Ff := mkF 1 1 backB
def joinedB : Sf := sSeq (sSetM [] 2 (eCall commonF (aCons (eCall backF (aCons (eVar 0) (aNil))) (aCons (eVar 1) (aNil)))))
  (sRet (e2 addD (eSl slD (eVar 0) (pNo) (pSo (e2 subD (eA lenD (aCons (eVar 0) (aNil))) (eVar 2)))) (eSl slD (eVar 1) (pSo (eVar 2)) (pNo))))
def joinedF : Ff := mkF 2 3 joinedB
theorem fun_ok {m : M D} {bx : Bx} {d : D} (h : Run m bx fun x b => x = d ∧ b = bx) : m bx = some (d, bx) := by
  obtain ⟨a, b, e, h1, h2⟩ := h
  rw [e, h1, h2]
theorem back_ok {a : List Nat} {bx : Bx} (h : a.length ≤ 1000000) : backF [.str (S a)] bx = some (.str (S a.reverse), bx) :=
  fun_ok (run_F rfl (run_rt' (p_e1 (p_var rfl) (revD_str h)) ⟨rfl, rfl⟩))
theorem itemsD_str (a : List Nat) : itemsD (.str (S a)) = some (a.map fun c => .str (S [c])) := by
  show some (signs _) = _
  rw [S_signs]
def oneS (l : List Nat) : List D := l.map fun c => .str (S [c])
theorem oneS_join {l : List Nat} (h : l.length ≤ 1000000) : joinD (.str (S [])) (.list (oneS l)) = some (.str (S l)) := by
  have := joinD_nil (ls := l.map fun c => [c]) (by rw [sum_one]; exact h)
  rw [flat_one] at this
  rw [← this]
  unfold oneS
  rw [List.map_map]
  rfl
theorem atI_neg1 {α : Type} {l : List α} : atI l (-1) = l.getLast? := by
  cases h : l.getLast? with
  | none =>
    rw [List.getLast?_eq_none_iff] at h
    subst h
    rfl
  | some x =>
    obtain ⟨r, rfl⟩ := List.getLast?_eq_some_iff.mp h
    exact atI_last r x
theorem run_pop {i : Nat} {env : Ev} {bx : Bx} {l : List D} {Q : Fl → Bx → Prop} (hl : env[i]? = some (some (.list l))) (hn : l ≠ []) (q : Q (.nx (env.set i (some (.list l.dropLast)))) bx) : Run (sPop i env) bx Q :=
  run_bnd (run_opt (a := l) (by unfold getL; rw [hl]) (by rw [if_neg hn]; exact run_ret q))
theorem reduced_ok {a : List Nat} {bx : Bx} (h : a.length ≤ 1000000) : reducedF [.str (S a)] bx = some (.str (S (redL a)), bx) := by
  refine fun_ok (run_F rfl (run_seq (run_setO (show (1 : Nat) < 3 by decide) (Pu.run (p_A p_nil (gLst_ok (show (0 : Nat) ≤ 1000000 by decide))) ?_))))
  refine run_seq (run_for (Run.of (p_of (p_var rfl) (itemsD_str a)) ?_))
  refine run_forL' (fun i env b => b = bx ∧ ∃ d2, env = [some (.str (S a)), some (.list (oneS (pushes [] (a.take i)).reverse)), d2]) ⟨rfl, none, rfl⟩ ?_ ?_
  · rintro i d env b hd ⟨rfl, d2, rfl⟩
    rw [List.getElem?_map] at hd
    cases hc : a[i]? with
    | none => rw [hc] at hd; cases hd
    | some c =>
      rw [hc] at hd
      cases hd
      have tk : a.take (i + 1) = a.take i ++ [c] := by rw [List.take_add_one, hc]; rfl
      refine ⟨_, rfl, ?_⟩
      generalize hst : pushes [] (a.take i) = st
      have e1 : pushes [] (a.take (i + 1)) = push st c := by rw [tk, pushes_app, hst]; rfl
      rw [e1]
      have ls : st.length ≤ 1000000 := by
        have := pushes_le [] (a.take i)
        rw [hst] at this
        simp at this
        omega
      cases st with
      | nil =>
        refine run_sif (run_tAn (Run.of (p_tOf (p_var rfl) rfl) ?_))
        rw [if_neg (by decide), if_neg (by decide)]
        refine run_app (l := oneS []) rfl (Pu.run (p_var rfl) ⟨⟨fun z => (nomatch z), by decide⟩, rfl, _, rfl⟩)
      | cons x r =>
        have et : truD (.list (oneS (x :: r).reverse)) = some true := by
          show some (!(oneS (x :: r).reverse).isEmpty) = _
          unfold oneS
          simp
        refine run_sif (run_tAn (Run.of (p_tOf (p_var rfl) et) ?_))
        rw [if_pos rfl]
        have el : ixD (.list (oneS (x :: r).reverse)) (.int (-1)) = some (.str (S [x])) := by
          show atI _ _ = _
          rw [atI_neg1]
          unfold oneS
          simp
        refine Run.of (p_tOf (p_e2 (p_ix (p_var rfl) (p_e1 p_c rfl) (ixM_ix el)) (p_var rfl) eqD_str) rfl) ?_
        by_cases e : x = c
        · subst e
          rw [if_pos (by simp)]
          have e2 : push (x :: r) x = r := by simp [push]
          rw [e2]
          refine run_pop (l := oneS (x :: r).reverse) rfl (by unfold oneS; simp) ⟨rfl, some (.str (S [x])), ?_⟩
          show [_, _, _] = _
          congr 4
          unfold oneS
          simp
        · rw [if_neg (by simpa using e)]
          have e2 : push (x :: r) c = c :: x :: r := by simp [push, e]
          rw [e2]
          refine run_app (l := oneS (x :: r).reverse) rfl (Pu.run (p_var rfl) ⟨⟨fun z => (nomatch z), ?_⟩, rfl, some (.str (S [c])), ?_⟩)
          · have : (oneS (x :: r).reverse).length = (x :: r).length := by unfold oneS; simp
            rw [this]
            exact Nat.lt_of_le_of_lt ls (by decide)
          · show [_, _, _] = _
            congr 4
            unfold oneS
            simp
  · rintro env b ⟨rfl, d2, rfl⟩
    rw [emp, List.length_map, List.take_length]
    refine run_rt' (p_e2 p_c (p_var rfl) (oneS_join ?_)) ⟨rfl, rfl⟩
    have := pushes_le [] a
    simp at this ⊢
    omega
theorem cm_step {a b : List Nat} {i x y : Nat} (ha : a[i]? = some x) (hb : b[i]? = some y) : cm (a.drop i) (b.drop i) = if x = y then cm (a.drop (i + 1)) (b.drop (i + 1)) + 1 else 0 := by
  obtain ⟨h1, rfl⟩ := List.getElem?_eq_some_iff.mp ha
  obtain ⟨h2, rfl⟩ := List.getElem?_eq_some_iff.mp hb
  rw [List.drop_eq_getElem_cons h1, List.drop_eq_getElem_cons h2]
  rfl
theorem addI (a b : Int) : addD (.int a) (.int b) = some (.int (a + b)) := rfl
theorem addN (a b : Nat) : addD (.int a) (.int b) = some (.int ((a + b : Nat) : Int)) := by
  rw [addI, Int.natCast_add]
theorem run_while {c : Tf} {body : Sf} {Q : Fl → Bx → Prop} (I : Nat → Ev → Bx → Prop)
    (step : ∀ m env bx, I m env bx → Run (c env) bx fun k b => if k = true then Run (body env) b fun fl b => match fl with | .nx e => ∃ m', m' < m ∧ I m' e b | .ct e => ∃ m', m' < m ∧ I m' e b | .bk e => Q (.nx e) b | .rt v => Q (.rt v) b else Q (.nx env) b) :
    ∀ (n m : Nat) (env : Ev) (bx : Bx), m < n → I m env bx → Run (whileF c body n env) bx Q
  | 0, m, env, bx, h, _ => (Nat.not_lt_zero _ h).elim
  | n + 1, m, env, bx, h, i => by
    show Run (bnd (c env) _) bx Q
    refine run_bnd ((step m env bx i).mono fun k b q => ?_)
    by_cases hk : k = true
    · rw [if_pos hk] at q ⊢
      refine run_bnd (q.mono fun fl b q => ?_)
      cases fl with
      | nx e =>
        obtain ⟨m', h1, h2⟩ := q
        exact run_while I step n m' e b (by omega) h2
      | ct e =>
        obtain ⟨m', h1, h2⟩ := q
        exact run_while I step n m' e b (by omega) h2
      | bk e => exact run_ret q
      | rt v => exact run_ret q
    · rw [if_neg hk] at q ⊢
      exact run_ret q
theorem cm_take (a b : List Nat) : a.take (cm a b) = b.take (cm a b) := by
  induction a generalizing b with
  | nil => rw [show cm [] b = 0 from rfl]; rfl
  | cons x a ih =>
    cases b with
    | nil => rw [cm_nil]; rfl
    | cons y b =>
      unfold cm
      by_cases e : x = y
      · subst e
        rw [if_pos rfl]
        simp [ih b]
      · rw [if_neg e]
        rfl
theorem cm_of_take : ∀ (a b : List Nat) (n : Nat), n ≤ a.length → n ≤ b.length → a.take n = b.take n → n ≤ cm a b
  | a, b, 0, _, _, _ => Nat.zero_le _
  | [], _, n + 1, h, _, _ => by simp at h
  | _ :: _, [], n + 1, _, h, _ => by simp at h
  | x :: a, y :: b, n + 1, h1, h2, e => by
    rw [List.take_succ_cons, List.take_succ_cons, List.cons.injEq] at e
    have ih := cm_of_take a b n (by simpa using h1) (by simpa using h2) e.2
    unfold cm
    rw [if_pos e.1]
    omega
theorem take_le_cm {a b : List Nat} {n : Nat} (h : n ≤ cm a b) : a.take n = b.take n := by
  have := congrArg (List.take n) (cm_take a b)
  rwa [List.take_take, List.take_take, Nat.min_eq_left h] at this
theorem cut_mid {α : Type} {l : List α} {i j : Nat} (h : i ≤ j) (h2 : j ≤ l.length) : cutL l (some (i : Int)) (some (j : Int)) = (l.drop i).take (j - i) := by
  unfold cutL
  rw [HT.sIx_nat, HT.sIx_nat, Nat.min_eq_left h2, Nat.min_eq_left (Nat.le_trans h h2)]
theorem take_mid {a b : List Nat} {i j : Nat} (h : i ≤ j) (e : a.take i = b.take i) : ((a.drop i).take (j - i) = (b.drop i).take (j - i)) ↔ a.take j = b.take j := by
  obtain ⟨k, rfl⟩ : ∃ k, j = i + k := ⟨j - i, by omega⟩
  rw [show i + k - i = k by omega, List.take_add, List.take_add, e]
  exact ⟨fun h => by rw [h], fun h => List.append_cancel_left h⟩
theorem common_ok {a b : List Nat} {bx : Bx} (ha : a.length ≤ 1000000) (hb : b.length ≤ 1000000) : commonF [.str (S a), .str (S b)] bx = some (.int (cm a b), bx) := by
  have c1 := cm_le1 a b
  have c2 := cm_le2 a b
  have em : min2D [.int a.length, .int b.length] = some (.int ((min a.length b.length : Nat) : Int)) := by
    show some (PyData.int (if (b.length : Int) < (a.length : Int) then (b.length : Int) else (a.length : Int))) = _
    by_cases c : b.length < a.length
    · rw [if_pos (by omega), Nat.min_eq_right (by omega)]
    · rw [if_neg (by omega), Nat.min_eq_left (by omega)]
  refine fun_ok (run_F rfl (run_seq (run_par (Run.of (p_cons p_c (p_cons (p_A (p_cons (p_A1 (p_var rfl) (lenD_str ha)) (p_cons (p_A1 (p_var rfl) (lenD_str hb)) p_nil)) em) p_nil)) ⟨_, rfl, ?_⟩))))
  refine run_seq (run_while (fun m env w => w = bx ∧ ∃ lo hi : Nat, lo ≤ cm a b ∧ cm a b ≤ hi ∧ hi ≤ a.length ∧ hi ≤ b.length ∧ hi - lo < 2 ^ m ∧ ∃ d4, env = [some (.str (S a)), some (.str (S b)), some (.int lo), some (.int hi), d4]) ?_ 100000 20 _ _ (by decide) ⟨rfl, 0, min a.length b.length, Nat.zero_le _, Nat.le_min.mpr ⟨c1, c2⟩, Nat.min_le_left _ _, Nat.min_le_right _ _, by omega, none, rfl⟩)
  rintro m env w ⟨rfl, lo, hi, h1, h2, h3, h4, h5, d4, rfl⟩
  refine run_tOf (Pu.run (p_e2 (p_var rfl) (p_var rfl) rfl) ⟨_, rfl, ?_⟩)
  by_cases c : (lo : Int) < (hi : Int)
  · rw [if_pos (decide_eq_true c)]
    have e1 : fdivD (.int ((lo + hi + 1 : Nat) : Int)) (.int 2) = some (.int (((lo + hi + 1) / 2 : Nat) : Int)) := fdivD_int (by decide) (by decide)
    refine run_seq (run_setM' (p_e2 (p_e2 (p_e2 (p_var rfl) (p_var rfl) (addN lo hi)) p_c (addN (lo + hi) 1)) p_c e1) ?_)
    have m1 : lo < (lo + hi + 1) / 2 := by omega
    have m2 : (lo + hi + 1) / 2 ≤ hi := by omega
    have w1 : hi - (lo + hi + 1) / 2 ≤ (hi - lo) / 2 := by omega
    have w2 : (lo + hi + 1) / 2 - 1 - lo ≤ (hi - lo) / 2 := by omega
    obtain ⟨k, rfl⟩ : ∃ k, m = k + 1 := ⟨m - 1, by
      cases m with
      | zero => simp at h5; omega
      | succ m => omega⟩
    have w3 : (hi - lo) / 2 < 2 ^ k := by
      rw [Nat.pow_succ] at h5
      omega
    generalize (lo + hi + 1) / 2 = mid at m1 m2 w1 w2
    have s1 : slD (.str (S a)) (some (lo : Int)) (some (mid : Int)) = some (.str (S ((a.drop lo).take (mid - lo)))) := by rw [slD_str ha, cut_mid (by omega) (by omega)]
    have s2 : slD (.str (S b)) (some (lo : Int)) (some (mid : Int)) = some (.str (S ((b.drop lo).take (mid - lo)))) := by rw [slD_str hb, cut_mid (by omega) (by omega)]
    refine run_sif' (p_e2 (p_sl (p_var rfl) (p_so (p_var rfl)) (p_so (p_var rfl)) s1) (p_sl (p_var rfl) (p_so (p_var rfl)) (p_so (p_var rfl)) s2) eqD_str) rfl ?_
    by_cases e : (a.drop lo).take (mid - lo) = (b.drop lo).take (mid - lo)
    · rw [if_pos (decide_eq_true e)]
      have := cm_of_take a b mid (by omega) (by omega) ((take_mid (by omega) (take_le_cm h1)).mp e)
      exact run_setM' (p_var rfl) ⟨k, by omega, rfl, mid, hi, this, h2, h3, h4, by omega, _, rfl⟩
    · rw [if_neg (by simpa using e)]
      have n : ¬ mid ≤ cm a b := fun z => e ((take_mid (by omega) (take_le_cm h1)).mpr (take_le_cm z))
      have e2 : subD (.int (mid : Int)) (.int 1) = some (.int ((mid - 1 : Nat) : Int)) := by
        show some (PyData.int ((mid : Int) - 1)) = _
        congr 2
        omega
      exact run_setM' (p_e2 (p_var rfl) p_c e2) ⟨k, by omega, rfl, lo, mid - 1, h1, by omega, by omega, by omega, by omega, _, rfl⟩
  · rw [if_neg (by simpa using c)]
    have : lo = cm a b := by omega
    subst this
    exact run_rt' (p_var rfl) ⟨rfl, rfl⟩
theorem subD_int {a b : Int} : subD (.int a) (.int b) = some (.int (a - b)) := rfl
theorem joined_ok {a b : List Nat} {bx : Bx} (ha : a.length ≤ 400000) (hb : b.length ≤ 400000) : joinedF [.str (S a), .str (S b)] bx = some (.str (S (joinL a b)), bx) := by
  refine fun_ok (run_F rfl (run_seq (run_setM' (p_call (p_cons (p_call (p_cons (p_var rfl) p_nil) (back_ok (by omega))) (p_cons (p_var rfl) p_nil)) (common_ok (by rw [List.length_reverse]; omega) (by omega))) ?_)))
  have h1 := cm_le1 a.reverse b
  have h2 := cm_le2 a.reverse b
  rw [List.length_reverse] at h1
  have e1 : subD (.int a.length) (.int (cm a.reverse b)) = some (.int ((a.length - cm a.reverse b : Nat) : Int)) := by
    rw [subD_int]
    congr 2
    omega
  refine run_rt' (p_e2 (p_sl (p_var rfl) rfl (p_so (p_e2 (p_A1 (p_var rfl) (lenD_str (by omega))) (p_var rfl) e1)) (by rw [slD_str (by omega), cut_to])) (p_sl (p_var rfl) (p_so (p_var rfl)) rfl (by rw [slD_str (by omega), cut_from])) (addD_str ?_)) ⟨rfl, rfl⟩
  rw [List.length_take, List.length_drop]
  omega
end MD
end

section
set_option Elab.async false
set_option linter.all false
set_option maxRecDepth 100000
namespace MD
open PySem L2

theorem rangeD2 {i n : Int} (h0 : 0 ≤ i) (h1 : i < 2 ^ 62) (h2 : 0 ≤ n) (h3 : n < 2 ^ 62) : rangeD [.int i, .int n] = some (rangeItems i (n - i).toNat) := by
  show (if -(2 ^ 62) ≤ i ∧ i < 2 ^ 62 ∧ -(2 ^ 62) ≤ n ∧ n < 2 ^ 62 then some (rangeItems i (n - i).toNat) else none) = _
  rw [if_pos ⟨by omega, h1, by omega, h3⟩]
theorem neD_ints {a b : List Int} : neD (.list (a.map .int)) (.list (b.map .int)) = some (.bool (!decide (a = b))) := by
  have nd : ∀ l : List Int, noDict (.list (l.map .int)) = true := fun l => by
    show noDictA (l.map .int) = true
    induction l with
    | nil => rfl
    | cons x r ih => exact ih
  show Option.map (fun c => PyData.bool !c) (if (noDict (.list (a.map .int)) && noDict (.list (b.map .int)) && SeqAt.shaped (.list (a.map .int)) && SeqAt.shaped (.list (b.map .int))) = true then some (PyData.eqv (.list (a.map .int)) (.list (b.map .int))) else none) = _
  rw [nd, nd, PySem.W.shaped_ints, PySem.W.shaped_ints]
  have : PyData.eqv (.list (a.map .int)) (.list (b.map .int)) = decide (a = b) := by
    rw [← PySem.W.ked_eqvAll a b]
    rfl
  rw [this]
  rfl
theorem ixD_str {a : List Nat} {i : Nat} (h : i < a.length) (h2 : a.length ≤ 1000000) : ixD (.str (S a)) (.int i) = some (.str (S [a[i]])) := by
  show (if (S a).length ≤ sizeLine then (atI (S a).cps.toList (i : Int)).map (fun c => PyData.str ⟨#[c]⟩) else none) = _
  rw [if_pos (by rw [S_len]; exact sz h2)]
  have : atI (S a).cps.toList (i : Int) = some a[i] := by
    rw [atI_lt (by simpa using h)]
  rw [this]
  rfl
def dropB : Sf := sSeq (sSetM [] 2 (eVar 1))
  (sSeq (sFor [] (setN 3) (iArgs rangeD (aCons (eA lenD (aCons (eVar 1) (aNil))) (aNil)))
  (sSeq (sSetM [] 4 (eLc [6] (setN 6) (iArgs rangeD (aCons (eC (.int 1)) (aCons (eA lenD (aCons (eVar 2) (aNil))) (aNil)))) (tOf (e2 eqD (eIx (eVar 2) (eVar 6)) (eIx (eVar 2) (e2 subD (eVar 6) (eC (.int 1)))))) (eVar 6)))
  (sIf (tOf (e2 neD (eVar 4) (eA gLst (aNil))))
  (sSeq (sSetM [] 5 (eCall ofF (aCons (eVar 0) (aCons (eVar 4) (aNil)))))
  (sSetM [] 2 (e2 addD (eSl slD (eVar 2) (pNo) (pSo (e2 subD (eVar 5) (eC (.int 1))))) (eSl slD (eVar 2) (pSo (e2 addD (eVar 5) (eC (.int 1)))) (pNo)))))
  (sNil))))
  (sRet (eVar 2)))
def dropF : Ff := mkF 2 7 dropB
/-- places with the like letter ahead -/
def likes (w : List Nat) : List Nat := (List.range (w.length - 1)).filter fun k => decide (w[k + 1]? = w[k]?)
theorem likes_get {w : List Nat} {k : Nat} (h : k ∈ likes w) : ∃ u c v, w = u ++ c :: c :: v ∧ u.length = k := by
  unfold likes at h
  rw [List.mem_filter, List.mem_range] at h
  have h1 : k < w.length := by omega
  have h2 : k + 1 < w.length := by omega
  have e : w[k + 1] = w[k] := by
    have := of_decide_eq_true h.2
    rw [List.getElem?_eq_getElem h1, List.getElem?_eq_getElem h2] at this
    exact Option.some.inj this
  refine ⟨w.take k, w[k], w.drop (k + 2), ?_, by rw [List.length_take]; omega⟩
  have e1 : w.drop k = w[k] :: w[k] :: w.drop (k + 2) := by
    rw [List.drop_eq_getElem_cons h1, List.drop_eq_getElem_cons h2, e]
  rw [← e1, List.take_append_drop]
theorem likes_nil {w : List Nat} (h : likes w = []) : noAdj w = true := by
  have key : ∀ k, k + 1 < w.length → w[k + 1]? ≠ w[k]? := fun k hk e => by
    have : k ∈ likes w := List.mem_filter.mpr ⟨List.mem_range.mpr (by omega), decide_eq_true e⟩
    rw [h] at this
    cases this
  clear h
  induction w with
  | nil => rfl
  | cons x r ih =>
    refine noAdj_cons (ih fun k hk => by simpa using key (k + 1) (by simpa using hk)) ?_
    cases r with
    | nil => simp
    | cons y r =>
      have := key 0 (by simp)
      simpa using this
def likeAt (v : List Nat) : D → Bool
  | .int x => decide (v[x.toNat]? = v[x.toNat - 1]?)
  | _ => false
theorem drop_ok {m : Nat} {bx : Bx} {w : List Nat} (hl : w.length ≤ 10000) (g : Good (m + w.length) bx) : Run (dropF [boxD, .str (S w)]) bx fun d b => d = .str (S (redL w)) ∧ Good m b := by
  refine run_F rfl (run_seq (run_setM' (p_var rfl) ?_))
  refine run_seq (run_for (Run.of (p_args (p_cons (p_A1 (p_var rfl) (lenD_str (by omega))) p_nil) (rangeD1 (by omega) (by omega))) ?_))
  rw [Int.toNat_natCast]
  refine run_forL' (fun i env b => ∃ v, redL v = redL w ∧ v.length ≤ w.length ∧ (noAdj v = true ∨ v.length + i ≤ w.length) ∧ Good (m + w.length - i) b ∧ ∃ d3 d4 d5 d6, env = [some boxD, some (.str (S w)), some (.str (S v)), d3, d4, d5, d6]) ⟨w, rfl, Nat.le_refl _, .inr (Nat.le_refl _), g, none, none, none, none, rfl⟩ ?_ ?_
  · rintro i d env b hd ⟨v, hv, lv, cv, gb, d3, d4, d5, d6, rfl⟩
    obtain ⟨rfl, hi⟩ := rangeItems_get hd
    refine ⟨_, rfl, ?_⟩
    have lvm : v.length ≤ 1000000 := by omega
    have comp : Pu (eLc [6] (setN 6) (iArgs rangeD (aCons (eC (.int 1)) (aCons (eA lenD (aCons (eVar 2) (aNil))) (aNil)))) (tOf (e2 eqD (eIx (eVar 2) (eVar 6)) (eIx (eVar 2) (e2 subD (eVar 6) (eC (.int 1)))))) (eVar 6)) (maskE [] [some boxD, some (.str (S w)), some (.str (S v)), some (.int (0 + i)), d4, d5, d6]) b
        (.list (((likes v).map fun k => ((k + 1 : Nat) : Int)).map .int)) := by
      have er : rangeD [.int 1, .int v.length] = some (rangeItems 1 (v.length - 1)) := by
        have ez : ((v.length : Int) - 1).toNat = v.length - 1 := by omega
        rw [rangeD2 (by omega) (by omega) (by omega) (by omega), ez]
      refine p_lc (p_args (p_cons p_c (p_cons (p_A1 (p_var rfl) (lenD_str lvm)) p_nil)) er) (by rw [rangeItems_len]; omega) ?_
      have h := comp_pure (set := setN 6) (tt := tOf (e2 eqD (eIx (eVar 2) (eVar 6)) (eIx (eVar 2) (e2 subD (eVar 6) (eC (.int 1)))))) (el := eVar 6) (env0 := maskE [6] (maskE [] [some boxD, some (.str (S w)), some (.str (S v)), some (.int (0 + i)), d4, d5, d6])) (bx := b)
        (likeAt v) id (ds := rangeItems 1 (v.length - 1)) ?_
      · rw [h]
        refine congrArg (fun l => some (l, b)) ?_
        rw [List.map_id]
        unfold rangeItems likes
        rw [List.filter_map, List.map_map]
        have q1 : (fun k : Nat => PyData.int (1 + (k : Int))) = (PyData.int ∘ fun k : Nat => ((k + 1 : Nat) : Int)) := by
          funext k
          exact congrArg PyData.int (show (1 + (k : Int)) = ((k + 1 : Nat) : Int) by omega)
        have q2 : (likeAt v ∘ fun k : Nat => PyData.int (1 + (k : Int))) = fun k : Nat => decide (v[k + 1]? = v[k]?) := by
          funext k
          show decide (v[(1 + (k : Int)).toNat]? = v[(1 + (k : Int)).toNat - 1]?) = _
          rw [show (1 + (k : Int)).toNat = k + 1 by omega]
          rfl
        rw [q2, q1]
      · intro d hd
        obtain ⟨k, hk⟩ := List.mem_iff_getElem?.mp hd
        obtain ⟨rfl, hlt⟩ := rangeItems_get hk
        have k1 : k + 1 < v.length := by omega
        have k0 : k < v.length := by omega
        have e1 : ixD (.str (S v)) (.int (1 + k)) = some (.str (S [v[k + 1]])) := by
          have ez : (1 + (k : Int)) = ((k + 1 : Nat) : Int) := by omega
          rw [ez]
          exact ixD_str k1 lvm
        have e2 : ixD (.str (S v)) (.int (1 + k - 1)) = some (.str (S [v[k]])) := by
          have ez : (1 + (k : Int) - 1) = ((k : Nat) : Int) := by omega
          rw [ez]
          exact ixD_str k0 lvm
        have e3 : decide ([v[k + 1]] = [v[k]]) = decide (v[(1 + (k : Int)).toNat]? = v[(1 + (k : Int)).toNat - 1]?) := by
          rw [show (1 + (k : Int)).toNat = k + 1 by omega, Nat.add_sub_cancel, List.getElem?_eq_getElem k0, List.getElem?_eq_getElem k1]
          simp
        have e4 := eqD_str (a := [v[k + 1]]) (b := [v[k]])
        rw [e3] at e4
        exact ⟨_, rfl, p_tOf (p_e2 (p_ix (p_var rfl) (p_var rfl) (ixM_ix e1)) (p_ix (p_var rfl) (p_e2 (p_var rfl) p_c subD_int) (ixM_ix e2)) e4) rfl, fun _ => p_var rfl⟩
    refine run_seq (run_setM' comp ?_)
    refine run_sif' (p_e2 (p_var rfl) (p_A p_nil (gLst_ok (a := ([] : List Int).map .int) (by decide))) neD_ints) rfl ?_
    by_cases hn : likes v = []
    · rw [if_neg (by simp [hn])]
      exact run_snil ⟨v, hv, lv, .inl (likes_nil hn), gb.mono (by omega), _, _, _, _, rfl⟩
    · rw [if_pos (by simp [hn])]
      have ll : (likes v).length ≤ v.length := by
        unfold likes
        have := List.length_filter_le (fun k => decide (v[k + 1]? = v[k]?)) (List.range (v.length - 1))
        rw [List.length_range] at this
        omega
      refine run_seq (run_setM (run_call' (p_cons (p_var rfl) (p_cons (p_var rfl) p_nil)) ?_))
      refine (of_list (m := m + w.length - i - 1) (by simpa using hn) (by simp; omega) (by rw [show m + w.length - i - 1 + 1 = m + w.length - i by omega]; exact gb)).mono fun d b' ⟨hd, g2⟩ => ?_
      obtain ⟨z, hz, rfl⟩ := List.mem_map.mp hd
      obtain ⟨k, hk, rfl⟩ := List.mem_map.mp hz
      obtain ⟨u, c, t, ev, eu⟩ := likes_get hk
      have e5 : subD (.int ((k + 1 : Nat) : Int)) (.int 1) = some (.int (k : Nat)) := by
        rw [subD_int]
        congr 2
        omega
      have e6 : addD (.int ((k + 1 : Nat) : Int)) (.int 1) = some (.int ((k + 2 : Nat) : Int)) := by
        show some (PyData.int _) = _
        congr 2
      have e7 : v.take k = u := by rw [ev, ← eu, List.take_left]
      have e8 : v.drop (k + 2) = t := by
        rw [ev, ← eu, ← List.drop_drop, List.drop_left]
        rfl
      have lv2 : v.length = u.length + t.length + 2 := by rw [ev]; simp; omega
      refine run_setM (Pu.run (p_e2 (p_sl (p_var rfl) rfl (p_so (p_e2 (p_var rfl) p_c e5)) (by rw [slD_str lvm, cut_to, e7])) (p_sl (p_var rfl) (p_so (p_e2 (p_var rfl) p_c e6)) rfl (by rw [slD_str lvm, cut_from, e8])) (addD_str (by omega))) ?_)
      refine ⟨u ++ t, by rw [← hv, ev, redL_drop], by simp; omega, .inr ?_, by rw [show m + w.length - (i + 1) = m + w.length - i - 1 by omega]; exact g2, _, _, _, _, rfl⟩
      rcases cv with h | h
      · rw [ev] at h
        have := noAdj_right h
        simp [noAdj] at this
      · simp
        omega
  · rintro env b ⟨v, hv, lv, cv, gb, d3, d4, d5, d6, rfl⟩
    rw [rangeItems_len] at cv gb
    have hv2 : noAdj v = true := by
      rcases cv with h | h
      · exact h
      · have : v = [] := List.length_eq_zero_iff.mp (by omega)
        rw [this]
        rfl
    refine run_rt' (p_var rfl) ⟨by rw [← hv, redL_row hv2], ?_⟩
    exact gb.mono (by omega)
end MD
end

section
set_option Elab.async false
set_option linter.all false
set_option maxRecDepth 100000
namespace MD
open PySem L2

theorem Run.mid {α : Type} {m : M α} {bx : Bx} {Q R : α → Bx → Prop} (h : Run m bx R) (k : ∀ a b, R a b → Q a b) : Run m bx Q := h.mono k
/-! ### ways drawn -/
def wayB : Sf := sSeq (sSetM [] 3 (eCall rowF (aCons (eVar 0) (aCons (eVar 1) (aCons (eVar 2) (aNil))))))
  (sRet (eIf (tOf (e2 neD (eVar 3) (eC (.str (Str.ofString ""))))) (eVar 3) (eCall ofF (aCons (eVar 0) (aCons (eSl slD (eC (.str (Str.ofString "abcdefgh"))) (pNo) (pSo (eVar 1))) (aNil))))))
def wayF : Ff := mkF 3 4 wayB
theorem L8_ne {many : Nat} (h : 1 ≤ many) : L8.take many ≠ [] := by
  obtain ⟨k, rfl⟩ : ∃ k, many = k + 1 := ⟨many - 1, by omega⟩
  intro z
  cases z
theorem L8_le (many : Nat) : (L8.take many).length ≤ 8 := by rw [List.length_take]; exact Nat.min_le_right _ _
theorem p_letters {env : Ev} {bx : Bx} {i many : Nat} (h : env[i]? = some (some (.int many))) : Pu (eSl slD (eC (.str (Str.ofString "abcdefgh"))) (pNo) (pSo (eVar i))) env bx (.str (S (L8.take many))) := by
  rw [abc]
  exact p_sl p_c rfl (p_so (p_var h)) (by rw [slD_str (by decide), cut_to])
theorem way_ok {m : Nat} {bx : Bx} {many : Nat} {lg : Nat} (h2 : 2 ≤ many) (hl : lg ≤ 10000) (g : Good (m + lg + 2) bx) : Run (wayF [boxD, .int many, .int lg]) bx fun d b => ∃ a, d = .str (S a) ∧ Row many a ∧ a ≠ [] ∧ a.length ≤ lg + 1 ∧ Good m b := by
  refine run_F rfl (run_seq (run_setM (run_call' (p_cons (p_var rfl) (p_cons (p_var rfl) (p_cons (p_var rfl) p_nil))) ?_)))
  refine (row_ok (m := m + 1) h2 hl (g.mono (by omega))).mono fun d b ⟨a, e, ra, la, gb⟩ => ?_
  subst e
  rw [emp]
  refine run_rt (run_eIf (Run.of (p_tOf (p_e2 (p_var rfl) p_c neD_str) rfl) ?_))
  by_cases c : a = []
  · subst c
    rw [if_neg (by simp)]
    refine run_call' (p_cons (p_var rfl) (p_cons (p_letters rfl) p_nil)) ?_
    refine (of_str (m := m) (L8_ne (by omega)) (Nat.le_trans (L8_le many) (by decide)) gb).mono fun d b ⟨c, hc, e, gb⟩ => ?_
    refine ⟨[c], e, ⟨rfl, fun x hx => ?_⟩, by simp, by simp, gb⟩
    have : x = c := by simpa using hx
    rw [this]
    exact hc
  · rw [if_pos (by simpa using c)]
    exact Pu.run (p_var rfl) ⟨a, rfl, ra, c, by omega, gb.mono (by omega)⟩
/-- a number drawn, from 0 -/
theorem take_nat {m : Nat} {n : Nat} {bx : Bx} (hn : 0 < n) (hb : n < 1000000000) (g : Good (m + 1) bx) : Run (takeF [boxD, .int n]) bx fun d b => ∃ r : Nat, d = .int r ∧ r < n ∧ Good m b := by
  refine (take_ok (m := m) (n := (n : Int)) (by omega) (by omega) g).mono fun d b ⟨r, e, h0, h1, g'⟩ => ?_
  obtain ⟨k, rfl⟩ := Int.eq_ofNat_of_zero_le h0
  exact ⟨k, e, by omega, g'⟩
/-- a drawn number: one that is handed in, and the call's answer -/
theorem run_take {m : Nat} {n : Nat} {bx : Bx} {env : Ev} {i : Nat} {e : Ef} {Q : D → Bx → Prop} (hb : env[i]? = some (some boxD)) (hn : 0 < n) (hs : n < 1000000000) (g : Good (m + 1) bx) (he : Pu e env bx (.int n)) (q : ∀ (r : Nat) b, r < n → Good m b → Q (.int r) b) : Run (eCall takeF (aCons (eVar i) (aCons e aNil)) env) bx Q :=
  run_call' (p_cons (p_var hb) (p_cons he p_nil)) ((take_nat hn hs g).mono fun d b ⟨r, e, h, g'⟩ => by
    subst e
    exact q r b h g')
theorem run_row {m lg : Nat} {many : Nat} {bx : Bx} {env : Ev} {i : Nat} {e1 e2 : Ef} {Q : D → Bx → Prop} (hb : env[i]? = some (some boxD)) (h2 : 2 ≤ many) (hl : lg ≤ 10000) (g : Good (m + lg + 1) bx) (he1 : Pu e1 env bx (.int many)) (he2 : Pu e2 env bx (.int lg)) (q : ∀ a b, Row many a → a.length ≤ lg → Good m b → Q (.str (S a)) b) : Run (eCall rowF (aCons (eVar i) (aCons e1 (aCons e2 aNil))) env) bx Q :=
  run_call' (p_cons (p_var hb) (p_cons he1 (p_cons he2 p_nil))) ((row_ok h2 hl g).mono fun d b ⟨a, e, h, l, g'⟩ => by
    subst e
    exact q a b h l g')
theorem run_way {m lg : Nat} {many : Nat} {bx : Bx} {env : Ev} {i : Nat} {e1 e2 : Ef} {Q : D → Bx → Prop} (hb : env[i]? = some (some boxD)) (h2 : 2 ≤ many) (hl : lg ≤ 10000) (g : Good (m + lg + 2) bx) (he1 : Pu e1 env bx (.int many)) (he2 : Pu e2 env bx (.int lg)) (q : ∀ a b, Row many a → a ≠ [] → a.length ≤ lg + 1 → Good m b → Q (.str (S a)) b) : Run (eCall wayF (aCons (eVar i) (aCons e1 (aCons e2 aNil))) env) bx Q :=
  run_call' (p_cons (p_var hb) (p_cons he1 (p_cons he2 p_nil))) ((way_ok h2 hl g).mono fun d b ⟨a, e, h, hn, l, g'⟩ => by
    subst e
    exact q a b h hn l g')
/-! ### one letter more, or one fewer -/
def nextL (a : List Nat) (c : Nat) : List Nat := if a.getLast? = some c then a.dropLast else a ++ [c]
theorem joinL_one (a : List Nat) (c : Nat) : joinL a [c] = nextL a c := by
  unfold joinL nextL
  cases h : a.getLast? with
  | none =>
    rw [List.getLast?_eq_none_iff] at h
    subst h
    rfl
  | some x =>
    obtain ⟨r, rfl⟩ := List.getLast?_eq_some_iff.mp h
    have er : (r ++ [x]).reverse = x :: r.reverse := by simp
    rw [er]
    by_cases e : x = c
    · subst e
      have : cm (x :: r.reverse) [x] = 1 := by simp [cm, cm_nil]
      rw [this, if_pos rfl]
      simp
    · have : cm (x :: r.reverse) [c] = 0 := by simp [cm, e]
      rw [this, if_neg (by simpa using e)]
      show ((r ++ [x]).take (r ++ [x]).length) ++ [c] = _
      rw [List.take_length]
theorem take_butlast (a : List Nat) : a.take (a.length - 1) = a.dropLast := List.dropLast_eq_take.symm
theorem p_butlast {env : Ev} {bx : Bx} {e : Ef} {a : List Nat} (h : Pu e env bx (.str (S a))) (hl : a.length ≤ 1000000) : Pu (eSl slD e (pNo) (pSo (e1 negD (eC (.int 1))))) env bx (.str (S a.dropLast)) :=
  p_sl h rfl (p_so (p_e1 p_c rfl)) (by rw [slD_str hl, cut_butlast, take_butlast])
theorem p_last {env : Ev} {bx : Bx} {e : Ef} {a : List Nat} (h : Pu e env bx (.str (S a))) (hl : a.length ≤ 1000000) : Pu (eSl slD e (pSo (e1 negD (eC (.int 1)))) (pNo)) env bx (.str (S (a.drop (a.length - 1)))) :=
  p_sl h (p_so (p_e1 p_c rfl)) rfl (by rw [slD_str hl, cut_last])
theorem p_to {env : Ev} {bx : Bx} {e k : Ef} {a : List Nat} {n : Nat} (h : Pu e env bx (.str (S a))) (hk : Pu k env bx (.int n)) (hl : a.length ≤ 1000000) : Pu (eSl slD e (pNo) (pSo k)) env bx (.str (S (a.take n))) :=
  p_sl h rfl (p_so hk) (by rw [slD_str hl, cut_to])
theorem p_from {env : Ev} {bx : Bx} {e k : Ef} {a : List Nat} {n : Nat} (h : Pu e env bx (.str (S a))) (hk : Pu k env bx (.int n)) (hl : a.length ≤ 1000000) : Pu (eSl slD e (pSo k) (pNo)) env bx (.str (S (a.drop n))) :=
  p_sl h (p_so hk) rfl (by rw [slD_str hl, cut_from])
theorem p_len {env : Ev} {bx : Bx} {e : Ef} {a : List Nat} (h : Pu e env bx (.str (S a))) (hl : a.length ≤ 1000000) : Pu (eA lenD (aCons e aNil)) env bx (.int a.length) := p_A1 h (lenD_str hl)
theorem p_addS {env : Ev} {bx : Bx} {e f : Ef} {a b : List Nat} (h : Pu e env bx (.str (S a))) (h2 : Pu f env bx (.str (S b))) (hl : a.length + b.length ≤ 1000000) : Pu (e2 addD e f) env bx (.str (S (a ++ b))) := p_e2 h h2 (addD_str hl)
theorem p_addN {env : Ev} {bx : Bx} {e f : Ef} {a b : Nat} (h : Pu e env bx (.int a)) (h2 : Pu f env bx (.int b)) : Pu (e2 addD e f) env bx (.int ((a + b : Nat) : Int)) := p_e2 h h2 (addN a b)
theorem p_lst {env : Ev} {bx : Bx} {as : Ev → M (List D)} {ds : List D} (h : PuA as env bx ds) (hl : ds.length ≤ 1000000) : Pu (eA gLst as) env bx (.list ds) := p_A h (gLst_ok hl)
theorem p_tup {env : Ev} {bx : Bx} {as : Ev → M (List D)} {ds : List D} (h : PuA as env bx ds) (hl : ds.length ≤ 1000000) : Pu (eA gTup as) env bx (.tuple ds) := p_A h (gTup_ok hl)
theorem p_addL {env : Ev} {bx : Bx} {e f : Ef} {a b : List D} (h : Pu e env bx (.list a)) (h2 : Pu f env bx (.list b)) (hl : a.length + b.length ≤ 1000000) : Pu (e2 addD e f) env bx (.list (a ++ b)) := p_e2 h h2 (addD_list hl)
theorem mulAD_rep {a : List D} {n : Nat} (hl : a.length * n ≤ 1000000) (hn : n ≤ 1000000) : mulAD (.list a) (.int n) = some (.list (List.replicate n a).flatten) := by
  have h1 : (n : Int) < 2 ^ 40 := by omega
  have h2 : -(2 ^ 40) < (n : Int) := by omega
  unfold mulAD mulLD
  dsimp only
  rw [Int.toNat_natCast, if_pos (sz hl), if_pos ⟨h1, h2⟩]
theorem same_pl {ds : List D} (h : ds.length ≤ 1000000) (p : ∀ d ∈ ds, Pl 7 d) : Pl 8 (.list ds) := .list h p
theorem pl_str7 {x : Str} : Pl 7 (.str x) := .str x
theorem cut_tail {α : Type} {l : List α} (n : Nat) : l.take n = l.take (min n l.length) := by
  rcases Nat.le_total n l.length with h | h
  · rw [Nat.min_eq_left h]
  · rw [Nat.min_eq_right h, List.take_of_length_le h, List.take_of_length_le (Nat.le_refl _)]
end MD
end

section
set_option Elab.async false
set_option linter.all false
set_option maxRecDepth 100000
namespace MD
open PySem L2

/-! ### words up to like neighbours -/
theorem redL_snoc (a : List Nat) (c : Nat) : redL (a ++ [c]) = (push (redL a).reverse c).reverse := by
  unfold redL
  rw [pushes_app, List.reverse_reverse]
  rfl
theorem pushes_red (b : List Nat) : ∀ st : List Nat, noAdj st = true → pushes st (redL b) = pushes st b := by
  generalize hn : b.length = n
  induction n generalizing b with
  | zero =>
    intro st _
    rw [List.length_eq_zero_iff.mp hn]
    rfl
  | succ n ih =>
    intro st hs
    obtain ⟨b, c, rfl⟩ : ∃ b' c, b = b' ++ [c] := by
      have : b ≠ [] := fun z => by rw [z] at hn; cases hn
      exact ⟨b.dropLast, b.getLast this, (List.dropLast_concat_getLast this).symm⟩
    have h := ih b (by simpa using hn)
    have key : pushes st (pushes [] b).reverse = pushes st b := h st hs
    show pushes st (pushes [] (b ++ [c])).reverse = _
    rw [pushes_app [] b [c], pushes_app st b [c], ← key]
    show pushes st (push (pushes [] b) c).reverse = push (pushes st (pushes [] b).reverse) c
    cases hp : pushes [] b with
    | nil => rfl
    | cons x r =>
      by_cases e : x = c
      · subst e
        have e1 : push (x :: r) x = r := by simp [push]
        rw [e1, List.reverse_cons, pushes_app]
        show _ = push (push (pushes st r.reverse) x) x
        rw [push_twice (noAdj_pushes hs _)]
      · have e1 : push (x :: r) c = c :: x :: r := by simp [push, e]
        rw [e1, List.reverse_cons, pushes_app]
        rfl
theorem red_left (a b : List Nat) : redL (redL a ++ b) = redL (a ++ b) := by
  show (pushes [] (redL a ++ b)).reverse = (pushes [] (a ++ b)).reverse
  rw [pushes_app, pushes_app, pushes_red a [] rfl]
theorem red_right (a b : List Nat) : redL (a ++ redL b) = redL (a ++ b) := by
  show (pushes [] (a ++ redL b)).reverse = (pushes [] (a ++ b)).reverse
  rw [pushes_app, pushes_app, pushes_red b _ (noAdj_pushes rfl a)]
theorem red_red (a : List Nat) : redL (redL a) = redL a := by
  have := red_left a []
  simpa using this
theorem pushes_back (a : List Nat) : ∀ st : List Nat, noAdj st = true → pushes (pushes st a) a.reverse = st := by
  induction a with
  | nil => intro st _; rfl
  | cons x a ih =>
    intro st hs
    rw [List.reverse_cons, pushes_app]
    show pushes (pushes (pushes (push st x) a) a.reverse) [x] = st
    rw [ih _ (noAdj_push hs)]
    exact push_twice hs
/-- the same room is meant -/
def Eqv (a b : List Nat) : Prop := redL a = redL b
theorem Eqv.refl (a : List Nat) : Eqv a a := rfl
theorem Eqv.symm {a b : List Nat} (h : Eqv a b) : Eqv b a := Eq.symm h
theorem Eqv.trans {a b c : List Nat} (h : Eqv a b) (h2 : Eqv b c) : Eqv a c := Eq.trans h h2
theorem Eqv.app {a b c d : List Nat} (h : Eqv a b) (h2 : Eqv c d) : Eqv (a ++ c) (b ++ d) := by
  unfold Eqv at *
  rw [← red_left, h, red_left, ← red_right, h2, red_right]
theorem Eqv.red (a : List Nat) : Eqv (redL a) a := red_red a
theorem Eqv.back1 (a : List Nat) : Eqv (a ++ a.reverse) [] := by
  show (pushes [] (a ++ a.reverse)).reverse = []
  rw [pushes_app, pushes_back a [] rfl]
  rfl
theorem Eqv.back2 (a : List Nat) : Eqv (a.reverse ++ a) [] := by
  have := Eqv.back1 a.reverse
  rwa [List.reverse_reverse] at this
theorem Eqv.row {a b : List Nat} (h : Eqv a b) (ha : noAdj a = true) (hb : noAdj b = true) : a = b := by
  have h : redL a = redL b := h
  rwa [redL_row ha, redL_row hb] at h
theorem Eqv.cancel_left {a b c : List Nat} (h : Eqv (a ++ b) (a ++ c)) : Eqv b c := by
  have h1 : Eqv (a.reverse ++ (a ++ b)) (a.reverse ++ (a ++ c)) := Eqv.app (Eqv.refl _) h
  rw [← List.append_assoc, ← List.append_assoc] at h1
  have h2 : ∀ x, Eqv (a.reverse ++ a ++ x) x := fun x => Eqv.app (Eqv.back2 a) (Eqv.refl x)
  exact ((h2 b).symm.trans h1).trans (h2 c)
theorem Eqv.cancel_right {a b c : List Nat} (h : Eqv (b ++ a) (c ++ a)) : Eqv b c := by
  have h1 : Eqv (b ++ a ++ a.reverse) (c ++ a ++ a.reverse) := Eqv.app h (Eqv.refl _)
  rw [List.append_assoc, List.append_assoc] at h1
  have h2 : ∀ x, Eqv (x ++ (a ++ a.reverse)) x := fun x => by
    have := Eqv.app (Eqv.refl x) (Eqv.back1 a)
    rwa [List.append_nil] at this
  exact ((h2 b).symm.trans h1).trans (h2 c)
theorem Eqv.rev {a b : List Nat} (h : Eqv a b) : Eqv a.reverse b.reverse := by
  have h1 : Eqv (b ++ a.reverse) (b ++ b.reverse) := (Eqv.app h.symm (Eqv.refl _)).trans ((Eqv.back1 a).trans (Eqv.back1 b).symm)
  exact h1.cancel_left
theorem red_rev (a : List Nat) : redL a.reverse = (redL a).reverse :=
  ((Eqv.red a.reverse).trans (Eqv.red a).symm.rev).row (noAdj_red _) (noAdj_rev (noAdj_red a))
theorem push_par (st : List Nat) (c : Nat) : (push st c).length % 2 = (st.length + 1) % 2 := by
  unfold push
  split
  · rfl
  · split
    · simp; omega
    · simp
theorem pushes_par (l : List Nat) : ∀ st : List Nat, (pushes st l).length % 2 = (st.length + l.length) % 2 := by
  induction l with
  | nil => intro st; simp [pushes]
  | cons c l ih =>
    intro st
    show (pushes (push st c) l).length % 2 = _
    rw [ih]
    have := push_par st c
    simp
    omega
theorem red_par (l : List Nat) : (redL l).length % 2 = l.length % 2 := by
  have := pushes_par l []
  unfold redL
  rw [List.length_reverse]
  simpa using this
/-! ### palindromes -/
def palL (w : List Nat) : List Nat := w ++ w.dropLast.reverse
def halfL (l : List Nat) : List Nat := l.take (l.length / 2 + 1)
theorem pal_snoc (n : List Nat) (x : Nat) : palL (n ++ [x]) = n ++ x :: n.reverse := by
  unfold palL
  simp
theorem snoc_of {w : List Nat} (h : w ≠ []) : ∃ n x, w = n ++ [x] := ⟨w.dropLast, w.getLast h, (List.dropLast_concat_getLast h).symm⟩
theorem pal_rev (w : List Nat) : (palL w).reverse = palL w := by
  by_cases h : w = []
  · subst h
    rfl
  · obtain ⟨n, x, rfl⟩ := snoc_of h
    rw [pal_snoc]
    simp
theorem pal_len {w : List Nat} (h : w ≠ []) : (palL w).length + 1 = 2 * w.length := by
  obtain ⟨n, x, rfl⟩ := snoc_of h
  rw [pal_snoc]
  simp
  omega
theorem pal_le (w : List Nat) : (palL w).length ≤ 2 * w.length := by
  by_cases h : w = []
  · subst h
    simp [palL]
  · have := pal_len h
    omega
theorem half_pal {w : List Nat} (h : w ≠ []) : halfL (palL w) = w := by
  have hl := pal_len h
  have hw := List.length_pos_iff.mpr h
  unfold halfL
  have : (palL w).length / 2 + 1 = w.length := by omega
  rw [this]
  unfold palL
  rw [List.take_left]
theorem pal_half {l : List Nat} (h : l.reverse = l) (ho : l.length % 2 = 1) : palL (halfL l) = l := by
  unfold palL halfL
  obtain ⟨m, hm⟩ : ∃ m, l.length = 2 * m + 1 := ⟨l.length / 2, by omega⟩
  have e1 : l.length / 2 + 1 = m + 1 := by omega
  rw [e1]
  have e2 : (l.take (m + 1)).dropLast = l.take m := by
    rw [List.dropLast_eq_take, List.length_take, List.take_take]
    congr 1
    omega
  have e3 : (l.take m).reverse = l.drop (m + 1) := by
    have := List.reverse_take (l := l) (i := m)
    rw [this, h, hm]
    congr 1
    omega
  rw [e2, e3, List.take_append_drop]
theorem half_ne {l : List Nat} (h : l ≠ []) : halfL l ≠ [] := by
  unfold halfL
  cases l with
  | nil => exact (h rfl).elim
  | cons a r => simp
theorem noAdj_append {a b : List Nat} (ha : noAdj a = true) (hb : noAdj b = true) (h : ∀ c, a.getLast? = some c → b.head? ≠ some c) : noAdj (a ++ b) = true := by
  induction a with
  | nil => exact hb
  | cons x a ih =>
    cases a with
    | nil => exact noAdj_cons hb (h x rfl)
    | cons y a =>
      refine noAdj_cons (ih (noAdj_tail ha) fun c hc => h c (by rw [List.getLast?_cons_cons]; exact hc)) ?_
      have := noAdj_head ha
      simpa using this
theorem noAdj_pal {w : List Nat} (h : noAdj w = true) : noAdj (palL w) = true := by
  by_cases hw : w = []
  · subst hw
    rfl
  · obtain ⟨n, x, rfl⟩ := snoc_of hw
    have hr := noAdj_rev h
    rw [List.reverse_append] at hr
    unfold palL
    refine noAdj_append h (by simpa using noAdj_rev (noAdj_left h)) fun c hc => ?_
    have ec : x = c := by simpa using hc
    subst ec
    have := noAdj_head (x := x) (r := n.reverse) hr
    simpa using this
/-! ### one door seen in another one, by palindromes -/
def seenL (one other : List Nat) : List Nat := halfL (redL (palL other ++ palL one ++ palL other))
theorem seen_odd {one other : List Nat} (h : one ≠ []) : (redL (palL other ++ palL one ++ palL other)).length % 2 = 1 := by
  rw [red_par]
  have h1 := pal_len h
  simp only [List.length_append]
  omega
theorem pal_seen {one other : List Nat} (h : one ≠ []) : palL (seenL one other) = redL (palL other ++ palL one ++ palL other) := by
  refine pal_half ?_ (seen_odd h)
  rw [← red_rev]
  congr 1
  rw [List.reverse_append, List.reverse_append, pal_rev, pal_rev, List.append_assoc]
theorem seen_ne {one other : List Nat} (h : one ≠ []) : seenL one other ≠ [] := half_ne fun z => by
  have := seen_odd (other := other) h
  rw [z] at this
  cases this
theorem noAdj_seen (one other : List Nat) : noAdj (seenL one other) = true := noAdj_take _ (noAdj_red _)
theorem eqv_pal_seen {one other : List Nat} (h : one ≠ []) : Eqv (palL (seenL one other)) (palL other ++ palL one ++ palL other) := by
  rw [pal_seen h]
  exact Eqv.red _
theorem seen_le {one other : List Nat} (h : one ≠ []) : (seenL one other).length ≤ one.length + 2 * other.length := by
  have h1 := redL_le (palL other ++ palL one ++ palL other)
  have h2 := pal_le other
  have h3 := pal_len h
  simp only [List.length_append] at h1
  unfold seenL halfL
  rw [List.length_take]
  omega
/-- a way by its palindrome -/
theorem way_unique {a b : List Nat} (ha : a ≠ []) (hb : b ≠ []) (na : noAdj a = true) (nb : noAdj b = true) (h : Eqv (palL a) (palL b)) : a = b := by
  have := h.row (noAdj_pal na) (noAdj_pal nb)
  rw [← half_pal ha, this, half_pal hb]
theorem Eqv.pp (w : List Nat) : Eqv (palL w ++ palL w) [] := by
  have := Eqv.back1 (palL w)
  rwa [pal_rev] at this
theorem Eqv.ppx (w x : List Nat) : Eqv (palL w ++ (palL w ++ x)) x := by
  rw [← List.append_assoc]
  exact Eqv.app (Eqv.pp w) (Eqv.refl x)
theorem seen_twice {a b : List Nat} (ha : a ≠ []) (na : noAdj a = true) : seenL (seenL a b) b = a := by
  refine way_unique (seen_ne (seen_ne ha)) ha (noAdj_seen _ _) na ((eqv_pal_seen (seen_ne ha)).trans ?_)
  have h1 : Eqv (palL b ++ palL (seenL a b) ++ palL b) (palL b ++ (palL b ++ palL a ++ palL b) ++ palL b) := Eqv.app (Eqv.app (Eqv.refl _) (eqv_pal_seen ha)) (Eqv.refl _)
  refine h1.trans ?_
  have e : palL b ++ (palL b ++ palL a ++ palL b) ++ palL b = palL b ++ (palL b ++ (palL a ++ (palL b ++ palL b))) := by simp
  rw [e]
  refine (Eqv.ppx b _).trans ?_
  have := Eqv.app (Eqv.refl (palL a)) (Eqv.pp b)
  rwa [List.append_nil] at this
/-! ### the house turned over -/
def turnL (w r : List Nat) : List Nat := redL (palL w ++ r)
def afterL (r : List Nat) (ws : List (List Nat)) : List Nat := ws.foldl (fun r w => turnL w r) r
def motL : List (List Nat) → List Nat
  | [] => []
  | w :: ws => motL ws ++ palL w
theorem after_mot (ws : List (List Nat)) : ∀ r, noAdj r = true → afterL r ws = redL (motL ws ++ r) := by
  induction ws with
  | nil => intro r h; exact (redL_row h).symm
  | cons w ws ih =>
    intro r h
    show afterL (turnL w r) ws = _
    rw [ih (turnL w r) (noAdj_red _)]
    show redL (motL ws ++ redL (palL w ++ r)) = redL (motL ws ++ palL w ++ r)
    rw [red_right, List.append_assoc]
theorem after_app (r : List Nat) (ws vs : List (List Nat)) : afterL r (ws ++ vs) = afterL (afterL r ws) vs := List.foldl_append
theorem noAdj_after {r : List Nat} (h : noAdj r = true) (ws : List (List Nat)) : noAdj (afterL r ws) = true := by
  rw [after_mot ws r h]
  exact noAdj_red _
theorem mot_app (ws vs : List (List Nat)) : motL (ws ++ vs) = motL vs ++ motL ws := by
  induction ws with
  | nil => simp [motL]
  | cons w ws ih => simp [motL, ih]
theorem mot_rev (ws : List (List Nat)) : motL ws.reverse = (motL ws).reverse := by
  induction ws with
  | nil => rfl
  | cons w ws ih =>
    rw [List.reverse_cons, mot_app, ih]
    simp [motL, pal_rev]
theorem after_back {r : List Nat} (h : noAdj r = true) (ws : List (List Nat)) : afterL r (ws ++ ws.reverse) = r := by
  rw [after_mot _ _ h, mot_app, mot_rev]
  have : Eqv ((motL ws).reverse ++ motL ws ++ r) r := Eqv.app (Eqv.back2 _) (Eqv.refl r)
  have e : redL ((motL ws).reverse ++ motL ws ++ r) = redL r := this
  rw [e, redL_row h]
theorem after_same {ws vs : List (List Nat)} : afterL [] ws = afterL [] vs ↔ Eqv (motL ws) (motL vs) := by
  rw [after_mot ws [] rfl, after_mot vs [] rfl, List.append_nil, List.append_nil]
  rfl
theorem after_all {ws vs : List (List Nat)} (h : Eqv (motL ws) (motL vs)) {r : List Nat} (hr : noAdj r = true) : afterL r ws = afterL r vs := by
  rw [after_mot ws r hr, after_mot vs r hr]
  exact Eqv.app h (Eqv.refl r)
theorem turn_le (w r : List Nat) : (turnL w r).length ≤ 2 * w.length + r.length := by
  have h1 := redL_le (palL w ++ r)
  have h2 := pal_le w
  simp only [List.length_append] at h1
  unfold turnL
  omega
theorem after_le {n : Nat} : ∀ (ws : List (List Nat)) (r : List Nat), (∀ w ∈ ws, w.length ≤ n) → (afterL r ws).length ≤ 2 * n * ws.length + r.length
  | [], r, _ => by simp [afterL]
  | w :: ws, r, h => by
    have h1 := after_le ws (turnL w r) fun v hv => h v (List.mem_cons_of_mem _ hv)
    have h2 := turn_le w r
    have h3 := h w List.mem_cons_self
    show (afterL (turnL w r) ws).length ≤ _
    rw [List.length_cons, Nat.mul_add]
    omega
end MD
end

section
set_option Elab.async false
set_option linter.all false
set_option maxRecDepth 100000
namespace MD
open PySem L2

def palB : Sf := sRet (e2 addD (eVar 0) (eCall backF (aCons (eSl slD (eVar 0) (pNo) (pSo (e1 negD (eC (.int 1))))) (aNil))))
def palF : Ff := mkF 1 1 palB
def turnedB : Sf := sRet (eCall joinedF (aCons (eCall palF (aCons (eVar 0) (aNil))) (aCons (eVar 1) (aNil))))
def turnedF : Ff := mkF 2 2 turnedB
def roomAfterB : Sf := sSeq (sFor [] (setN 2) (iOf itemsD (eVar 1))
  (sSetM [] 0 (eCall turnedF (aCons (eVar 2) (aCons (eVar 0) (aNil))))))
  (sRet (eVar 0))
def roomAfterF : Ff := mkF 2 3 roomAfterB
def lredB : Sf := sSeq (sSetM [] 1 (eC (.str (Str.ofString ""))))
  (sSeq (sFor [] (setN 2) (iOf itemsD (eVar 0))
  (sSetM [] 1 (eIf (tOf (e2 eqD (eSl slD (eVar 1) (pSo (e1 negD (eC (.int 1)))) (pNo)) (eVar 2))) (eSl slD (eVar 1) (pNo) (pSo (e1 negD (eC (.int 1))))) (e2 addD (eVar 1) (eVar 2)))))
  (sRet (eVar 1)))
def lredF : Ff := mkF 1 3 lredB
def lpalB : Sf := sRet (e2 addD (eVar 0) (e1 revD (eSl slD (eVar 0) (pNo) (pSo (e1 negD (eC (.int 1)))))))
def lpalF : Ff := mkF 1 1 lpalB
def lseenB : Sf := sSeq (sSetM [] 2 (eCall lredF (aCons (e2 addD (e2 addD (eCall lpalF (aCons (eVar 1) (aNil))) (eCall lpalF (aCons (eVar 0) (aNil)))) (eCall lpalF (aCons (eVar 1) (aNil)))) (aNil))))
  (sRet (eSl slD (eVar 2) (pNo) (pSo (e2 addD (e2 fdivD (eA lenD (aCons (eVar 2) (aNil))) (eC (.int 2))) (eC (.int 1))))))
def lseenF : Ff := mkF 2 3 lseenB
def lafterB : Sf := sSeq (sSetM [] 2 (eVar 0))
  (sSeq (sFor [] (setN 3) (iOf itemsD (eVar 1))
  (sSetM [] 2 (eCall lredF (aCons (e2 addD (eCall lpalF (aCons (eVar 3) (aNil))) (eVar 2)) (aNil)))))
  (sRet (eVar 2)))
def lafterF : Ff := mkF 2 4 lafterB
theorem pal_ok {a : List Nat} {bx : Bx} (h : a.length ≤ 400000) : palF [.str (S a)] bx = some (.str (S (palL a)), bx) := by
  have hd : a.dropLast.length ≤ a.length := by rw [List.length_dropLast]; omega
  exact fun_ok (run_F rfl (run_rt' (p_addS (p_var rfl) (p_call (p_cons (p_butlast (p_var rfl) (by omega)) p_nil) (back_ok (by omega))) (by rw [List.length_reverse]; omega)) ⟨rfl, rfl⟩))
theorem turned_ok {w r : List Nat} {bx : Bx} (hw : w.length ≤ 200000) (hr : r.length ≤ 400000) (nw : noAdj w = true) (nr : noAdj r = true) : turnedF [.str (S w), .str (S r)] bx = some (.str (S (turnL w r)), bx) := by
  have hp := pal_le w
  refine fun_ok (run_F rfl (run_rt' (p_call (p_cons (p_call (p_cons (p_var rfl) p_nil) (pal_ok (by omega))) (p_cons (p_var rfl) p_nil)) (joined_ok (by omega) hr)) ⟨?_, rfl⟩))
  rw [joinL_red (noAdj_pal nw) nr]
  rfl
theorem itemsD_tup (ls : List D) : itemsD (.tuple ls) = some ls := rfl
theorem itemsD_lst (ls : List D) : itemsD (.list ls) = some ls := rfl
/-- texts -/
def txts (ls : List (List Nat)) : List D := ls.map fun l => .str (S l)
theorem txts_get {ls : List (List Nat)} {i : Nat} {d : D} (h : (txts ls)[i]? = some d) : ∃ l, ls[i]? = some l ∧ d = .str (S l) := by
  unfold txts at h
  rw [List.getElem?_map] at h
  cases e : ls[i]? with
  | none => rw [e] at h; cases h
  | some l =>
    rw [e] at h
    cases h
    exact ⟨l, rfl, rfl⟩
theorem txts_len (ls : List (List Nat)) : (txts ls).length = ls.length := by simp [txts]
theorem take_snoc {α : Type} {l : List α} {i : Nat} {x : α} (h : l[i]? = some x) : l.take (i + 1) = l.take i ++ [x] := by
  rw [List.take_add_one, h]
  rfl
/-- a tuple or a list of texts -/
def Seqs (x : D) (ls : List (List Nat)) : Prop := x = .tuple (txts ls) ∨ x = .list (txts ls)
theorem Seqs.items {x : D} {ls : List (List Nat)} (h : Seqs x ls) : itemsD x = some (txts ls) := by
  rcases h with rfl | rfl <;> rfl
/-- ways -/
structure Ways (n k : Nat) (ws : List (List Nat)) : Prop where
  le : ∀ w ∈ ws, w.length ≤ n
  ad : ∀ w ∈ ws, noAdj w = true
  ne : ∀ w ∈ ws, w ≠ []
  no : ws.length ≤ k
theorem Ways.take {n k : Nat} {ws : List (List Nat)} (h : Ways n k ws) (i : Nat) : Ways n k (ws.take i) :=
  ⟨fun w hw => h.le w (List.mem_of_mem_take hw), fun w hw => h.ad w (List.mem_of_mem_take hw), fun w hw => h.ne w (List.mem_of_mem_take hw), by rw [List.length_take]; have := h.no; omega⟩
theorem Ways.app {n k j : Nat} {ws vs : List (List Nat)} (h : Ways n k ws) (h2 : Ways n j vs) : Ways n (k + j) (ws ++ vs) :=
  ⟨fun w hw => (List.mem_append.mp hw).elim (h.le w) (h2.le w), fun w hw => (List.mem_append.mp hw).elim (h.ad w) (h2.ad w), fun w hw => (List.mem_append.mp hw).elim (h.ne w) (h2.ne w), by rw [List.length_append]; have := h.no; have := h2.no; omega⟩
theorem Ways.rev {n k : Nat} {ws : List (List Nat)} (h : Ways n k ws) : Ways n k ws.reverse :=
  ⟨fun w hw => h.le w (List.mem_reverse.mp hw), fun w hw => h.ad w (List.mem_reverse.mp hw), fun w hw => h.ne w (List.mem_reverse.mp hw), by rw [List.length_reverse]; exact h.no⟩
theorem Ways.mono {n k n' k' : Nat} {ws : List (List Nat)} (h : Ways n k ws) (hn : n ≤ n') (hk : k ≤ k') : Ways n' k' ws :=
  ⟨fun w hw => Nat.le_trans (h.le w hw) hn, h.ad, h.ne, Nat.le_trans h.no hk⟩
theorem after_small {ws : List (List Nat)} {r : List Nat} (h : Ways 3000 30 ws) (hr : r.length ≤ 10000) (i : Nat) : (afterL r (ws.take i)).length ≤ 190000 := by
  have h1 := after_le (n := 3000) (ws.take i) r (h.take i).le
  have h2 := (h.take i).no
  have : 2 * 3000 * (ws.take i).length ≤ 2 * 3000 * 30 := Nat.mul_le_mul_left _ h2
  omega
theorem roomAfter_ok {x : D} {ws : List (List Nat)} {r : List Nat} {bx : Bx} (hx : Seqs x ws) (h : Ways 3000 30 ws) (hr : r.length ≤ 10000) (nr : noAdj r = true) : roomAfterF [.str (S r), x] bx = some (.str (S (afterL r ws)), bx) := by
  refine fun_ok (run_F rfl (run_seq (run_for (Run.of (p_of (p_var rfl) hx.items) ?_))))
  refine run_forL' (fun i env b => b = bx ∧ ∃ d2, env = [some (.str (S (afterL r (ws.take i)))), some x, d2]) ⟨rfl, none, rfl⟩ ?_ ?_
  · rintro i d env b hd ⟨rfl, d2, rfl⟩
    obtain ⟨w, hw, rfl⟩ := txts_get hd
    have wm : w ∈ ws := List.mem_of_getElem? hw
    have hwl := h.le w wm
    have hs := after_small h hr i
    refine ⟨_, rfl, run_setM (Pu.run (p_call (p_cons (p_var rfl) (p_cons (p_var rfl) p_nil)) (turned_ok (by omega) (by omega) (h.ad w wm) (noAdj_after nr _))) ⟨rfl, some (.str (S w)), ?_⟩)⟩
    rw [take_snoc hw, after_app]
    rfl
  · rintro env b ⟨rfl, d2, rfl⟩
    rw [txts_len, List.take_length]
    exact run_rt' (p_var rfl) ⟨rfl, rfl⟩
theorem push_next (st : List Nat) (c : Nat) : (push st c).reverse = nextL st.reverse c := by
  unfold nextL push
  cases st with
  | nil => simp
  | cons x r =>
    by_cases e : x = c
    · subst e
      simp
    · simp [e]
theorem p_next {env : Ev} {bx : Bx} {i j : Nat} {a : List Nat} {c : Nat} (hi : env[i]? = some (some (.str (S a)))) (hj : env[j]? = some (some (.str (S [c])))) (hl : a.length ≤ 900000) :
    Pu (eIf (tOf (e2 eqD (eSl slD (eVar i) (pSo (e1 negD (eC (.int 1)))) (pNo)) (eVar j))) (eSl slD (eVar i) (pNo) (pSo (e1 negD (eC (.int 1))))) (e2 addD (eVar i) (eVar j))) env bx (.str (S (nextL a c))) := by
  have el : decide (a.drop (a.length - 1) = [c]) = decide (a.getLast? = some c) := decide_eq_decide.mpr ⟨fun h => last_drop.mp h.symm, fun h => (last_drop.mpr h).symm⟩
  unfold Pu eIf bnd
  rw [p_tOf (p_e2 (p_last (p_var hi) (by omega)) (p_var hj) eqD_str) rfl, el]
  unfold nextL
  by_cases e : a.getLast? = some c
  · rw [decide_eq_true e, if_pos e]
    exact p_butlast (p_var hi) (by omega)
  · rw [decide_eq_false e, if_neg e]
    exact p_addS (p_var hi) (p_var hj) (by simp; omega)
theorem lred_ok {a : List Nat} {bx : Bx} (h : a.length ≤ 900000) : lredF [.str (S a)] bx = some (.str (S (redL a)), bx) := by
  refine fun_ok (run_F rfl (run_seq (run_setM' p_c ?_)))
  rw [emp]
  refine run_seq (run_for (Run.of (p_of (p_var rfl) (itemsD_str a)) ?_))
  refine run_forL' (fun i env b => b = bx ∧ ∃ d2, env = [some (.str (S a)), some (.str (S (redL (a.take i)))), d2]) ⟨rfl, none, rfl⟩ ?_ ?_
  · rintro i d env b hd ⟨rfl, d2, rfl⟩
    rw [List.getElem?_map] at hd
    cases hc : a[i]? with
    | none => rw [hc] at hd; cases hd
    | some c =>
      rw [hc] at hd
      cases hd
      have hl : (redL (a.take i)).length ≤ 900000 := Nat.le_trans (redL_le _) (by rw [List.length_take]; omega)
      refine ⟨_, rfl, run_setM (Pu.run (p_next (i := 1) (j := 2) rfl rfl hl) ⟨rfl, some (.str (S [c])), ?_⟩)⟩
      rw [take_snoc hc, redL_snoc, push_next, List.reverse_reverse]
      rfl
  · rintro env b ⟨rfl, d2, rfl⟩
    rw [List.length_map, List.take_length]
    exact run_rt' (p_var rfl) ⟨rfl, rfl⟩
theorem lpal_ok {a : List Nat} {bx : Bx} (h : a.length ≤ 400000) : lpalF [.str (S a)] bx = some (.str (S (palL a)), bx) := by
  have hd : a.dropLast.length ≤ a.length := by rw [List.length_dropLast]; omega
  exact fun_ok (run_F rfl (run_rt' (p_addS (p_var rfl) (p_e1 (p_butlast (p_var rfl) (by omega)) (revD_str (by omega))) (by rw [List.length_reverse]; omega)) ⟨rfl, rfl⟩))
theorem p_half {env : Ev} {bx : Bx} {i : Nat} {l : List Nat} (h : env[i]? = some (some (.str (S l)))) (hl : l.length ≤ 1000000) : Pu (eSl slD (eVar i) (pNo) (pSo (e2 addD (e2 fdivD (eA lenD (aCons (eVar i) (aNil))) (eC (.int 2))) (eC (.int 1))))) env bx (.str (S (halfL l))) := by
  have e1 : fdivD (.int l.length) (.int 2) = some (.int ((l.length / 2 : Nat) : Int)) := fdivD_int (by decide) (by decide)
  exact p_to (p_var h) (p_addN (p_e2 (p_len (p_var h) hl) p_c e1) p_c) hl
theorem lseen_ok {a b : List Nat} {bx : Bx} (ha : a.length ≤ 100000) (hb : b.length ≤ 100000) : lseenF [.str (S a), .str (S b)] bx = some (.str (S (seenL a b)), bx) := by
  have h1 := pal_le a
  have h2 := pal_le b
  have h3 := redL_le (palL b ++ palL a ++ palL b)
  simp only [List.length_append] at h3
  refine fun_ok (run_F rfl (run_seq (run_setM' (p_call (p_cons (p_addS (p_addS (p_call (p_cons (p_var rfl) p_nil) (lpal_ok (by omega))) (p_call (p_cons (p_var rfl) p_nil) (lpal_ok (by omega))) (by omega)) (p_call (p_cons (p_var rfl) p_nil) (lpal_ok (by omega))) (by rw [List.length_append]; omega)) p_nil) (lred_ok (by simp only [List.length_append]; omega))) ?_)))
  exact run_rt' (p_half rfl (by omega)) ⟨rfl, rfl⟩
theorem lafter_ok {x : D} {ws : List (List Nat)} {r : List Nat} {bx : Bx} (hx : Seqs x ws) (h : Ways 3000 30 ws) (hr : r.length ≤ 10000) : lafterF [.str (S r), x] bx = some (.str (S (afterL r ws)), bx) := by
  refine fun_ok (run_F rfl (run_seq (run_setM' (p_var rfl) (run_seq (run_for (Run.of (p_of (p_var rfl) hx.items) ?_))))))
  refine run_forL' (fun i env b => b = bx ∧ ∃ d3, env = [some (.str (S r)), some x, some (.str (S (afterL r (ws.take i)))), d3]) ⟨rfl, none, rfl⟩ ?_ ?_
  · rintro i d env b hd ⟨rfl, d3, rfl⟩
    obtain ⟨w, hw, rfl⟩ := txts_get hd
    have wm : w ∈ ws := List.mem_of_getElem? hw
    have hwl := h.le w wm
    have hs := after_small h hr i
    have hp := pal_le w
    refine ⟨_, rfl, run_setM (Pu.run (p_call (p_cons (p_addS (p_call (p_cons (p_var rfl) p_nil) (lpal_ok (by omega))) (p_var rfl) (by omega)) p_nil) (lred_ok (by rw [List.length_append]; omega))) ⟨rfl, some (.str (S w)), ?_⟩)⟩
    rw [take_snoc hw, after_app]
    rfl
  · rintro env b ⟨rfl, d3, rfl⟩
    rw [txts_len, List.take_length]
    exact run_rt' (p_var rfl) ⟨rfl, rfl⟩
end MD
end

section
set_option Elab.async false
set_option linter.all false
set_option maxRecDepth 100000
namespace MD
open PySem L2

theorem run_parV {is : List Nat} {as : Ev → M (List D)} {env : Ev} {bx : Bx} {Q : Fl → Bx → Prop} (h : Run (as env) bx fun ds b => flatA ds = true ∧ ∃ e, setL is ds env = some e ∧ Q (.nx e) b) : Run (sParV is as env) bx Q :=
  run_bnd (h.mono fun ds b ⟨f, e, z, q⟩ => by rw [if_pos f]; exact run_bnd (run_opt z (run_ret q)))
theorem run_put2 {i : Nat} {ix1 ix2 : Ef} {as : Ev → M (List D)} {env : Ev} {bx : Bx} {Q : Fl → Bx → Prop} {l : List D} {d1 d2 : D} {z1 z2 : Int} {j1 j2 : Nat} (hl : env[i]? = some (some (.list l))) (ha : PuA as env bx [d1, d2]) (f1 : flat d1 = true) (f2 : flat d2 = true)
    (h1 : Pu ix1 env bx (.int z1)) (n1 : ixN l.length z1 = some j1) (h2 : Pu ix2 (env.set i (some (.list (l.set j1 d1)))) bx (.int z2)) (n2 : ixN l.length z2 = some j2)
    (q : Q (.nx ((env.set i (some (.list (l.set j1 d1)))).set i (some (.list ((l.set j1 d1).set j2 d2))))) bx) : Run (sPut2 i ix1 ix2 as env) bx Q := by
  have hi : i < env.length := (List.getElem?_eq_some_iff.mp hl).1
  refine run_bnd ⟨[d1, d2], bx, ha, run_bnd (run_opt (a := (d1, d2)) rfl ?_)⟩
  rw [if_pos ⟨f1, f2⟩]
  refine run_bnd (run_put (l := l) (j := j1) hl (show Pu (fun _ => ret d1) env bx d1 from rfl) f1 h1 n1 ?_)
  refine run_put (l := l.set j1 d1) (j := j2) ?_ (show Pu (fun _ => ret d2) _ bx d2 from rfl) f2 h2 (by rw [List.length_set]; exact n2) q
  rw [List.getElem?_set_self hi]
theorem flat_str (x : Str) : flat (.str x) = true := rfl
theorem flat_int (x : Int) : flat (.int x) = true := rfl
theorem txts_set (ws : List (List Nat)) (j : Nat) (a : List Nat) : (txts ws).set j (.str (S a)) = txts (ws.set j a) := by
  unfold txts
  rw [List.map_set]
theorem txts_app (ws vs : List (List Nat)) : txts ws ++ txts vs = txts (ws ++ vs) := by
  unfold txts
  rw [List.map_append]
theorem txts_take (ws : List (List Nat)) (n : Nat) : (txts ws).take n = txts (ws.take n) := by
  unfold txts
  rw [List.map_take]
theorem txts_drop (ws : List (List Nat)) (n : Nat) : (txts ws).drop n = txts (ws.drop n) := by
  unfold txts
  rw [List.map_drop]
theorem txts_rev (ws : List (List Nat)) : (txts ws).reverse = txts ws.reverse := by
  unfold txts
  rw [List.map_reverse]
theorem list_txts {P : List Nat → Prop} : ∀ {ys : List D}, (∀ y ∈ ys, ∃ w, y = .str (S w) ∧ P w) → ∃ ws : List (List Nat), ys = txts ws ∧ ∀ w ∈ ws, P w
  | [], _ => ⟨[], rfl, fun _ h => (List.not_mem_nil h).elim⟩
  | y :: ys, h => by
    obtain ⟨ws, e, hp⟩ := list_txts (ys := ys) fun z hz => h z (List.mem_cons_of_mem _ hz)
    obtain ⟨w, rfl, pw⟩ := h y List.mem_cons_self
    refine ⟨w :: ws, by rw [e]; rfl, fun x hx => ?_⟩
    rcases List.mem_cons.mp hx with rfl | hx
    · exact pw
    · exact hp x hx
/-- a tuple of drawn ways -/
theorem run_ways {m lg k many : Nat} {env : Ev} {bx : Bx} {v : Nat} {Q : D → Bx → Prop} (hb : env[0]? = some (some boxD)) (hm : env[2]? = some (some (.int many))) (hv : v ≠ 0) (hv2 : v ≠ 2) (h2 : 2 ≤ many) (hl : lg ≤ 1000) (hk : 0 < k) (hk2 : k ≤ 1000) (g : Good (m + 1 + k * (lg + 2)) bx)
    (q : ∀ ws b, Ways (lg + 1) (k - 1) ws → Good m b → Q (.tuple (txts ws)) b) :
    Run (eA tupFD (aCons (eLc [v] (setN v) (iArgs rangeD (aCons (eCall takeF (aCons (eVar 0) (aCons (eC (.int k)) (aNil)))) (aNil))) (tYesF) (eCall wayF (aCons (eVar 0) (aCons (eVar 2) (aCons (eC (.int lg)) (aNil)))))) (aNil)) env) bx Q := by
  refine run_A (run_cons (run_lc (run_its (run_one ?_))))
  refine run_take (m := m + k * (lg + 2)) (n := k) hb hk (by omega) (by rw [show m + k * (lg + 2) + 1 = m + 1 + k * (lg + 2) by omega]; exact g) p_c fun r b hr gb => ?_
  refine ⟨_, rangeD1 (by omega) (by omega), by rw [rangeItems_len]; exact sz (by omega), ?_⟩
  rw [Int.toNat_natCast]
  refine (run_compL (fun i b => Good (m + (k - i) * (lg + 2)) b) (fun y => ∃ w, y = .str (S w) ∧ (w.length ≤ lg + 1 ∧ noAdj w = true ∧ w ≠ [])) (rangeItems 0 r) 0 b gb fun i d b hd hg => ?_).mono fun ys b' ⟨q1, q2, q3⟩ => ?_
  · obtain ⟨rfl, hi⟩ := rangeItems_get hd
    rw [Nat.zero_add] at hg ⊢
    have e0 : ∀ x : Option D, ((maskE [v] env).set v x)[0]? = env[0]? := fun x => by
      show ((env.set v none).set v x)[0]? = _
      rw [List.getElem?_set_ne hv, List.getElem?_set_ne hv]
    have e2 : ∀ x : Option D, ((maskE [v] env).set v x)[2]? = env[2]? := fun x => by
      show ((env.set v none).set v x)[2]? = _
      rw [List.getElem?_set_ne hv2, List.getElem?_set_ne hv2]
    refine ⟨_, rfl, rfl, ?_⟩
    have hki : (k - i) * (lg + 2) = (k - (i + 1)) * (lg + 2) + (lg + 2) := by
      obtain ⟨t, ht⟩ : ∃ t, k - i = t + 1 := ⟨k - i - 1, by omega⟩
      have : k - (i + 1) = t := by omega
      rw [ht, this, Nat.add_mul, Nat.one_mul]
    refine run_way (m := m + (k - (i + 1)) * (lg + 2)) (lg := lg) (many := many) (by rw [e0]; exact hb) h2 (by omega) (by rw [hki] at hg; exact hg.mono (by omega)) (p_var (by rw [e2]; exact hm)) p_c fun w b' rw_ nw lw gb' => ⟨⟨w, rfl, lw, rw_.ad, nw⟩, gb'⟩
  · obtain ⟨ws, rfl, hp⟩ := list_txts q2
    rw [rangeItems_len] at q1 q3
    rw [txts_len] at q1
    refine run_nil ⟨_, rfl, q ws b' ⟨fun w h => (hp w h).1, fun w h => (hp w h).2.1, fun w h => (hp w h).2.2, by omega⟩ (q3.mono (by omega))⟩
/-! ### exchanged neighbours, a door twice -/
theorem two_split {ws : List (List Nat)} {k : Nat} (h : k + 1 < ws.length) : ∃ u p q v, ws = u ++ p :: q :: v ∧ u.length = k ∧ p = ws[k] ∧ q = ws[k + 1] := by
  have h1 : k < ws.length := by omega
  refine ⟨ws.take k, ws[k], ws[k + 1], ws.drop (k + 2), ?_, by rw [List.length_take]; omega, rfl, rfl⟩
  have e1 : ws.drop k = ws[k] :: ws[k + 1] :: ws.drop (k + 2) := by
    rw [List.drop_eq_getElem_cons h1, List.drop_eq_getElem_cons h]
  rw [← e1, List.take_append_drop]
theorem set_two {α : Type} (u v : List α) (p q a b : α) : ((u ++ p :: q :: v).set u.length a).set (u.length + 1) b = u ++ a :: b :: v := by
  rw [List.set_append_right _ _ (Nat.le_refl _), Nat.sub_self]
  show (u ++ a :: q :: v).set (u.length + 1) b = _
  rw [List.set_append_right _ _ (by omega)]
  have : u.length + 1 - u.length = 1 := by omega
  rw [this]
  rfl
theorem mot_two (u v : List (List Nat)) (p q : List Nat) : motL (u ++ p :: q :: v) = motL v ++ (palL q ++ palL p) ++ motL u := by
  rw [mot_app]
  simp [motL]
theorem swap_a {p q : List Nat} (hp : p ≠ []) : Eqv (palL (seenL p q) ++ palL q) (palL q ++ palL p) := by
  refine (Eqv.app (eqv_pal_seen hp) (Eqv.refl _)).trans ?_
  have e : palL q ++ palL p ++ palL q ++ palL q = (palL q ++ palL p) ++ (palL q ++ palL q) := by simp
  rw [e]
  have := Eqv.app (Eqv.refl (palL q ++ palL p)) (Eqv.pp q)
  rwa [List.append_nil] at this
theorem swap_b {p q : List Nat} (hq : q ≠ []) : Eqv (palL p ++ palL (seenL q p)) (palL q ++ palL p) := by
  refine (Eqv.app (Eqv.refl _) (eqv_pal_seen hq)).trans ?_
  have e : palL p ++ (palL p ++ palL q ++ palL p) = palL p ++ (palL p ++ (palL q ++ palL p)) := by simp
  rw [e]
  exact Eqv.ppx p _
theorem mot_pair {u v : List (List Nat)} {p q a b : List Nat} (h : Eqv (palL b ++ palL a) (palL q ++ palL p)) : Eqv (motL (u ++ a :: b :: v)) (motL (u ++ p :: q :: v)) := by
  rw [mot_two, mot_two]
  exact Eqv.app (Eqv.app (Eqv.refl _) h) (Eqv.refl _)
theorem mot_twice (u v : List (List Nat)) (o : List Nat) : Eqv (motL (u ++ [o, o] ++ v)) (motL (u ++ v)) := by
  have e : u ++ [o, o] ++ v = u ++ o :: o :: v := by simp
  rw [e, mot_two, mot_app]
  have h := Eqv.app (Eqv.refl (motL v)) (Eqv.pp o)
  rw [List.append_nil] at h
  exact Eqv.app h (Eqv.refl _)
end MD
end

section
set_option Elab.async false
set_option linter.all false
set_option maxRecDepth 100000
namespace MD
open PySem L2

/-- signs that there are -/
def Okl (ls : List (List Nat)) : Prop := ∀ l ∈ ls, ∀ c ∈ l, c < 1114112
theorem strOk_S {l : List Nat} (h : ∀ c ∈ l, c < 1114112) : PyData.strOk (S l) = true := by
  unfold PyData.strOk
  simp only [Array.all_eq_true, decide_eq_true_eq]
  intro i hi
  have : l[i]'(by simpa using hi) ∈ l := List.getElem_mem _
  simpa using h _ this
theorem canLayAll0_txts : ∀ ls : List (List Nat), Okl ls → PyData.canLayAll0 (txts ls) = true
  | [], _ => by simp [txts, PyData.canLayAll0]
  | n :: r, h => by
    have := canLayAll0_txts r fun l hl => h l (List.mem_cons_of_mem _ hl)
    simp only [txts] at this
    simp [txts, PyData.canLayAll0, PyData.canLay0, this, strOk_S (h n List.mem_cons_self)]
theorem depthAll_txts : ∀ ls : List (List Nat), PyData.depthAll (txts ls) ≤ 1
  | [] => by simp [txts, PyData.depthAll]
  | n :: r => by
    have := depthAll_txts r
    simp only [txts] at this
    simp only [txts, List.map_cons, PyData.depthAll, PyData.depth]
    omega
theorem shaped_txts {ls : List (List Nat)} (h : Okl ls) : SeqAt.shaped (.list (txts ls)) = true := by
  have h1 := depthAll_txts ls
  unfold SeqAt.shaped
  rw [Bool.and_eq_true]
  refine ⟨by simp only [PyData.canLay0]; exact canLayAll0_txts ls h, decide_eq_true ?_⟩
  simp only [PyData.depth]
  omega
theorem eqvAll_txts : ∀ ls ms : List (List Nat), PyData.eqvAll (txts ls) (txts ms) = decide (ls = ms)
  | [], [] => by simp [txts, PyData.eqvAll]
  | [], _ :: _ => by simp [txts, PyData.eqvAll]
  | _ :: _, [] => by simp [txts, PyData.eqvAll]
  | a :: r, b :: t => by
    have ih := eqvAll_txts r t
    simp only [txts] at ih
    have hs : (S a = S b) ↔ a = b := S_inj
    simp only [txts, List.map_cons, PyData.eqvAll, PyData.eqv, ih]
    by_cases h : a = b <;> by_cases h' : r = t <;> simp [h, h', hs]
theorem noDict_txts (ls : List (List Nat)) : noDict (.list (txts ls)) = true := by
  show noDictA (txts ls) = true
  induction ls with
  | nil => rfl
  | cons x r ih => exact ih
theorem eqB_txts {a b : List (List Nat)} (ha : Okl a) (hb : Okl b) : eqB (.list (txts a)) (.list (txts b)) = some (decide (a = b)) := by
  show (if (noDict (.list (txts a)) && noDict (.list (txts b)) && SeqAt.shaped (.list (txts a)) && SeqAt.shaped (.list (txts b))) = true then some (PyData.eqv (.list (txts a)) (.list (txts b))) else none) = _
  rw [noDict_txts, noDict_txts, shaped_txts ha, shaped_txts hb]
  have : PyData.eqv (.list (txts a)) (.list (txts b)) = decide (a = b) := by
    rw [← eqvAll_txts a b]
    rfl
  rw [this]
  rfl
theorem neD_txts {a b : List (List Nat)} (ha : Okl a) (hb : Okl b) : neD (.list (txts a)) (.list (txts b)) = some (.bool (!decide (a = b))) := by
  unfold neD
  rw [eqB_txts ha hb]
  rfl
theorem eqD_txts {a b : List (List Nat)} (ha : Okl a) (hb : Okl b) : eqD (.list (txts a)) (.list (txts b)) = some (.bool (decide (a = b))) := by
  unfold eqD
  rw [eqB_txts ha hb]
  rfl
theorem eqD_ints' {a b : List Int} : eqD (.list (a.map .int)) (.list (b.map .int)) = some (.bool (decide (a = b))) := by
  have h := neD_ints (a := a) (b := b)
  unfold neD at h
  unfold eqD
  cases q : eqB (.list (a.map .int)) (.list (b.map .int)) with
  | none => rw [q] at h; cases h
  | some c =>
    rw [q] at h
    have : (!c) = !decide (a = b) := by
      have := Option.some.inj h
      exact PyData.bool.inj this
    have e : c = decide (a = b) := by
      by_cases z : a = b
      · rw [decide_eq_true z] at this ⊢
        simpa using this
      · rw [decide_eq_false z] at this ⊢
        simpa using this
    rw [e]
    rfl
theorem likes_adj {w : List Nat} (h : noAdj w = true) : likes w = [] := by
  cases e : likes w with
  | nil => rfl
  | cons k r =>
    obtain ⟨u, c, v, ew, _⟩ := likes_get (w := w) (k := k) (by rw [e]; exact List.mem_cons_self)
    rw [ew] at h
    have := noAdj_right h
    simp [noAdj] at this
theorem likes_iff {w : List Nat} : decide (likes w = []) = noAdj w := by
  cases h : noAdj w with
  | true => exact decide_eq_true (likes_adj h)
  | false =>
    refine decide_eq_false fun z => ?_
    rw [likes_nil z] at h
    cases h
/-- the places with the like sign ahead, as the laws list them -/
theorem p_likes {env : Ev} {bx : Bx} {i v : Nat} {w : List Nat} (hi : env[i]? = some (some (.str (S w)))) (hv : v < env.length) (hn : v ≠ i) (hl : w.length ≤ 100000) :
    Pu (eLc [v] (setN v) (iArgs rangeD (aCons (eC (.int 1)) (aCons (eA lenD (aCons (eVar i) (aNil))) (aNil)))) (tOf (e2 eqD (eIx (eVar i) (eVar v)) (eIx (eVar i) (e2 subD (eVar v) (eC (.int 1)))))) (eVar v)) env bx (.list (((likes w).map fun k => ((k + 1 : Nat) : Int)).map .int)) := by
  have er : rangeD [.int 1, .int w.length] = some (rangeItems 1 (w.length - 1)) := by
    have ez : ((w.length : Int) - 1).toNat = w.length - 1 := by omega
    rw [rangeD2 (by omega) (by omega) (by omega) (by omega), ez]
  have g1 : ∀ x : Option D, ((maskE [v] env).set v x)[i]? = env[i]? := fun x => by
    show ((env.set v none).set v x)[i]? = _
    rw [List.getElem?_set_ne hn, List.getElem?_set_ne hn]
  have g2 : ∀ x : Option D, ((maskE [v] env).set v x)[v]? = some x := fun x => by
    show ((env.set v none).set v x)[v]? = _
    rw [List.getElem?_set_self (by rw [List.length_set]; exact hv)]
  have g3 : (maskE [v] env)[i]? = env[i]? := by
    show (env.set v none)[i]? = _
    rw [List.getElem?_set_ne hn]
  refine p_lc (p_args (p_cons p_c (p_cons (p_len (p_var hi) (by omega)) p_nil)) er) (by rw [rangeItems_len]; omega) ?_
  have h := comp_pure (set := setN v) (tt := tOf (e2 eqD (eIx (eVar i) (eVar v)) (eIx (eVar i) (e2 subD (eVar v) (eC (.int 1)))))) (el := eVar v) (env0 := maskE [v] env) (bx := bx) (likeAt w) id (ds := rangeItems 1 (w.length - 1)) ?_
  · rw [h]
    refine congrArg (fun l => some (l, bx)) ?_
    rw [List.map_id]
    unfold rangeItems likes
    rw [List.filter_map, List.map_map]
    have q1 : (fun k : Nat => PyData.int (1 + (k : Int))) = (PyData.int ∘ fun k : Nat => ((k + 1 : Nat) : Int)) := by
      funext k
      exact congrArg PyData.int (show (1 + (k : Int)) = ((k + 1 : Nat) : Int) by omega)
    have q2 : (likeAt w ∘ fun k : Nat => PyData.int (1 + (k : Int))) = fun k : Nat => decide (w[k + 1]? = w[k]?) := by
      funext k
      show decide (w[(1 + (k : Int)).toNat]? = w[(1 + (k : Int)).toNat - 1]?) = _
      rw [show (1 + (k : Int)).toNat = k + 1 by omega]
      rfl
    rw [q2, q1]
  · intro d hd
    obtain ⟨k, hk⟩ := List.mem_iff_getElem?.mp hd
    obtain ⟨rfl, hlt⟩ := rangeItems_get hk
    have k1 : k + 1 < w.length := by omega
    have k0 : k < w.length := by omega
    have e1 : ixD (.str (S w)) (.int (1 + k)) = some (.str (S [w[k + 1]])) := by
      have ez : (1 + (k : Int)) = ((k + 1 : Nat) : Int) := by omega
      rw [ez]
      exact ixD_str k1 (by omega)
    have e2 : ixD (.str (S w)) (.int (1 + k - 1)) = some (.str (S [w[k]])) := by
      have ez : (1 + (k : Int) - 1) = ((k : Nat) : Int) := by omega
      rw [ez]
      exact ixD_str k0 (by omega)
    have e3 : decide ([w[k + 1]] = [w[k]]) = decide (w[(1 + (k : Int)).toNat]? = w[(1 + (k : Int)).toNat - 1]?) := by
      rw [show (1 + (k : Int)).toNat = k + 1 by omega, Nat.add_sub_cancel, List.getElem?_eq_getElem k0, List.getElem?_eq_getElem k1]
      simp
    have e4 := eqD_str (a := [w[k + 1]]) (b := [w[k]])
    rw [e3] at e4
    have v1 : ∀ {b : Bx}, Pu (eVar i) ((maskE [v] env).set v (some (.int (1 + (k : Int))))) b (.str (S w)) := p_var (by rw [g1]; exact hi)
    have v2 : ∀ {b : Bx}, Pu (eVar v) ((maskE [v] env).set v (some (.int (1 + (k : Int))))) b (.int (1 + (k : Int))) := p_var (g2 _)
    exact ⟨_, rfl, p_tOf (p_e2 (p_ix v1 v2 (ixM_ix e1)) (p_ix v1 (p_e2 v2 p_c subD_int) (ixM_ix e2)) e4) rfl, fun _ => v2⟩
end MD
end

section
set_option Elab.async false
set_option linter.all false
set_option maxRecDepth 100000
namespace MD
open PySem L2

/-! ### one door seen in another one, as the program tells it -/
def roomsB : Sf := sRet (eA gTup (aCons (eSl slD (eVar 0) (pNo) (pSo (e1 negD (eC (.int 1))))) (aCons (eVar 0) (aNil))))
def roomsF : Ff := mkF 1 1 roomsB
def fartherB : Sf := sRet (eA maxLenD (aCons (eVar 0) (aCons (eVar 1) (aNil))))
def fartherF : Ff := mkF 2 2 fartherB
def seenInB : Sf := sSeq (sAsg [] (setT [2, 3]) (eCall roomsF (aCons (eVar 0) (aNil))))
  (sRet (eCall fartherF (aCons (eCall turnedF (aCons (eVar 1) (aCons (eVar 2) (aNil)))) (aCons (eCall turnedF (aCons (eVar 1) (aCons (eVar 3) (aNil)))) (aNil)))))
def seenInF : Ff := mkF 2 4 seenInB
theorem run_asg {own : List Nat} {set : D → Ev → Option Ev} {a : Ef} {env : Ev} {bx : Bx} {d : D} {e : Ev} {Q : Fl → Bx → Prop} (h : Pu a (maskE own env) bx d) (hs : set d env = some e) (q : Q (.nx e) bx) : Run (sAsg own set a env) bx Q :=
  run_bnd (h.run (run_bnd (run_opt hs (run_ret q))))
theorem rooms_ok {a : List Nat} {bx : Bx} (h : a.length ≤ 1000000) : roomsF [.str (S a)] bx = some (.tuple [.str (S a.dropLast), .str (S a)], bx) :=
  fun_ok (run_F rfl (run_rt' (p_tup (p_cons (p_butlast (p_var rfl) h) (p_cons (p_var rfl) p_nil)) (show (2 : Nat) ≤ 1000000 by decide)) ⟨rfl, rfl⟩))
theorem farther_ok {a b : List Nat} {bx : Bx} (ha : a.length ≤ 1000000) (hb : b.length ≤ 1000000) : fartherF [.str (S a), .str (S b)] bx = some (.str (S (if b.length > a.length then b else a)), bx) := by
  have e : maxLenD [.str (S a), .str (S b)] = some (.str (S (if b.length > a.length then b else a))) := by
    show (if (S a).length ≤ sizeLine ∧ (S b).length ≤ sizeLine then some (PyData.str (longest [S a, S b])) else none) = _
    rw [if_pos ⟨by rw [S_len]; exact sz ha, by rw [S_len]; exact sz hb⟩]
    unfold longest
    simp only [List.foldl_cons, List.foldl_nil, S_len]
    by_cases c : b.length > a.length
    · rw [if_pos c, if_pos c]
    · rw [if_neg c, if_neg c]
  exact fun_ok (run_F rfl (run_rt' (p_A (p_cons (p_var rfl) (p_cons (p_var rfl) p_nil)) e) ⟨rfl, rfl⟩))
theorem farther_seen {a b : List Nat} (ha : a ≠ []) (na : noAdj a = true) (nb : noAdj b = true) : (if (turnL b a).length > (turnL b a.dropLast).length then turnL b a else turnL b a.dropLast) = seenL a b := by
  obtain ⟨n, x, rfl⟩ := snoc_of ha
  have e0 : (n ++ [x]).dropLast = n := by simp
  rw [e0]
  have eA : turnL b n = redL (palL b ++ n) := rfl
  have eB : turnL b (n ++ [x]) = nextL (turnL b n) x := by
    show redL (palL b ++ (n ++ [x])) = _
    rw [← List.append_assoc, redL_snoc, push_next, List.reverse_reverse]
    rfl
  have nA : noAdj (turnL b n) = true := noAdj_red _
  have target : Eqv (palL (seenL (n ++ [x]) b)) (palL b ++ (n ++ x :: n.reverse) ++ palL b) := by
    have := eqv_pal_seen (one := n ++ [x]) (other := b) ha
    rwa [pal_snoc] at this
  have hA : Eqv (turnL b n) (palL b ++ n) := Eqv.red _
  have hAr : Eqv (turnL b n).reverse (n.reverse ++ palL b) := by
    have := hA.rev
    rwa [List.reverse_append, pal_rev] at this
  rw [eB]
  unfold nextL
  by_cases c : (turnL b n).getLast? = some x
  · rw [if_pos c]
    obtain ⟨r, hr⟩ := List.getLast?_eq_some_iff.mp c
    rw [hr]
    have e1 : (r ++ [x]).dropLast = r := by simp
    rw [e1, if_neg (by simp)]
    refine way_unique (by simp) (seen_ne ha) (by rw [← hr]; exact nA) (noAdj_seen _ _) (Eqv.trans ?_ target.symm)
    rw [pal_snoc]
    have hr1 : Eqv (r ++ [x]) (palL b ++ n) := by rw [← hr]; exact hA
    have hr2 : Eqv (x :: r.reverse) (n.reverse ++ palL b) := by
      have : Eqv (r ++ [x]).reverse (n.reverse ++ palL b) := by rw [← hr]; exact hAr
      simpa using this
    have xx : Eqv ([x] ++ [x]) [] := Eqv.back1 [x]
    have k1 : Eqv (r ++ x :: r.reverse) (r ++ ([x] ++ [x]) ++ (x :: r.reverse)) := by
      have := Eqv.app (Eqv.app (Eqv.refl r) xx.symm) (Eqv.refl (x :: r.reverse))
      rwa [List.append_nil] at this
    refine k1.trans ?_
    have e2 : r ++ ([x] ++ [x]) ++ (x :: r.reverse) = (r ++ [x]) ++ ([x] ++ (x :: r.reverse)) := by simp
    rw [e2]
    have k2 := Eqv.app hr1 (Eqv.app (Eqv.refl [x]) hr2)
    refine k2.trans ?_
    have e3 : palL b ++ n ++ ([x] ++ (n.reverse ++ palL b)) = palL b ++ (n ++ x :: n.reverse) ++ palL b := by simp
    rw [e3]
    exact Eqv.refl _
  · rw [if_neg c, if_pos (by simp)]
    have nB : noAdj (turnL b n ++ [x]) = true := noAdj_snoc nA c
    refine way_unique (by simp) (seen_ne ha) nB (noAdj_seen _ _) (Eqv.trans ?_ target.symm)
    rw [pal_snoc]
    have k := Eqv.app hA (Eqv.app (Eqv.refl [x]) hAr)
    have e2 : turnL b n ++ x :: (turnL b n).reverse = turnL b n ++ ([x] ++ (turnL b n).reverse) := by simp
    rw [e2]
    refine k.trans ?_
    have e3 : palL b ++ n ++ ([x] ++ (n.reverse ++ palL b)) = palL b ++ (n ++ x :: n.reverse) ++ palL b := by simp
    rw [e3]
    exact Eqv.refl _
theorem seenIn_ok {a b : List Nat} {bx : Bx} (ha : a ≠ []) (na : noAdj a = true) (nb : noAdj b = true) (la : a.length ≤ 100000) (lb : b.length ≤ 100000) : seenInF [.str (S a), .str (S b)] bx = some (.str (S (seenL a b)), bx) := by
  have nd : noAdj a.dropLast = true := by rw [List.dropLast_eq_take]; exact noAdj_take _ na
  have ld : a.dropLast.length ≤ 100000 := by rw [List.length_dropLast]; omega
  have l1 := turn_le b a
  have l2 := turn_le b a.dropLast
  refine fun_ok (run_F rfl (run_seq (run_asg (p_call (p_cons (p_var rfl) p_nil) (rooms_ok (by omega))) rfl ?_)))
  refine run_rt' (p_call (p_cons (p_call (p_cons (p_var rfl) (p_cons (p_var rfl) p_nil)) (turned_ok (by omega) (by omega) nb nd)) (p_cons (p_call (p_cons (p_var rfl) (p_cons (p_var rfl) p_nil)) (turned_ok (by omega) (by omega) nb na)) p_nil)) (farther_ok (by omega) (by omega))) ⟨?_, rfl⟩
  rw [farther_seen ha na nb]
theorem seen_self {a : List Nat} (ha : a ≠ []) (na : noAdj a = true) : seenL a a = a := by
  refine way_unique (seen_ne ha) ha (noAdj_seen _ _) na ((eqv_pal_seen ha).trans ?_)
  rw [List.append_assoc]
  exact Eqv.ppx a _
theorem pal_cons {v : List Nat} {c : Nat} (h : v ≠ []) : palL (c :: v) = [c] ++ palL v ++ [c] := by
  unfold palL
  obtain ⟨n, x, rfl⟩ := snoc_of h
  have e : (c :: (n ++ [x])).dropLast = c :: n := by
    rw [← List.cons_append, List.dropLast_concat]
  rw [e]
  simp
theorem seen_cons {v : List Nat} {c : Nat} (h : v ≠ []) (hn : noAdj (c :: v) = true) : seenL v [c] = c :: v := by
  unfold seenL
  have e : palL [c] ++ palL v ++ palL [c] = palL (c :: v) := by
    rw [pal_cons h]
    rfl
  rw [e, redL_row (noAdj_pal hn), half_pal (by simp)]
/-! ### recipes -/
inductive Rec where
  | one (c : Nat)
  | two (a b : Rec)
namespace Rec
def toD : Rec → D
  | .one c => .str (S [c])
  | .two a b => .tuple [a.toD, b.toD]
def toL : Rec → D
  | .one c => .str (S [c])
  | .two a b => .list [a.toL, b.toL]
def way : Rec → List Nat
  | .one c => [c]
  | .two a b => seenL a.way b.way
def told : Rec → List Nat
  | .one c => [c]
  | .two a b => redL (b.told ++ a.told ++ b.told)
def size : Rec → Nat
  | .one _ => 1
  | .two a b => a.size + b.size
def deep : Rec → Nat
  | .one _ => 1
  | .two a b => max a.deep b.deep + 1
/-- its letters are there, its doors are not too far -/
def Ok : Rec → Prop
  | .one c => c ∈ L8
  | .two a b => a.Ok ∧ b.Ok ∧ a.way.length ≤ 20000 ∧ b.way.length ≤ 20000
theorem way_ne : ∀ r : Rec, r.way ≠ []
  | .one c => by simp [way]
  | .two a b => seen_ne (way_ne a)
theorem way_ad : ∀ r : Rec, noAdj r.way = true
  | .one c => rfl
  | .two a b => noAdj_seen _ _
theorem told_way : ∀ r : Rec, r.told = palL r.way
  | .one c => rfl
  | .two a b => by
    show redL (b.told ++ a.told ++ b.told) = palL (seenL a.way b.way)
    rw [told_way a, told_way b, pal_seen (way_ne a)]
theorem half_told (r : Rec) : halfL r.told = r.way := by rw [told_way, half_pal (way_ne r)]
theorem size_pos : ∀ r : Rec, 1 ≤ r.size
  | .one c => Nat.le_refl _
  | .two a b => Nat.le_trans (size_pos a) (Nat.le_add_right _ _)
theorem deep_size : ∀ r : Rec, r.deep ≤ r.size
  | .one c => Nat.le_refl _
  | .two a b => by
    have h1 := deep_size a
    have h2 := deep_size b
    have h3 := size_pos a
    have h4 := size_pos b
    show max a.deep b.deep + 1 ≤ a.size + b.size
    omega
theorem way_len : ∀ r : Rec, r.way.length + 1 ≤ 2 ^ r.size
  | .one c => by simp [way, size]
  | .two a b => by
    have h1 := way_len a
    have h2 := way_len b
    have h3 := seen_le (one := a.way) (other := b.way) (way_ne a)
    have h4 := size_pos a
    have h5 := size_pos b
    show (seenL a.way b.way).length + 1 ≤ 2 ^ (a.size + b.size)
    rw [Nat.pow_add]
    have ha : 2 ≤ 2 ^ a.size := Nat.le_trans (by decide : 2 ≤ 2 ^ 1) (Nat.pow_le_pow_right (by decide) h4)
    have hb : 2 ≤ 2 ^ b.size := Nat.le_trans (by decide : 2 ≤ 2 ^ 1) (Nat.pow_le_pow_right (by decide) h5)
    generalize 2 ^ a.size = x at *
    generalize 2 ^ b.size = y at *
    obtain ⟨u, rfl⟩ : ∃ u, x = u + 2 := ⟨x - 2, by omega⟩
    obtain ⟨v, rfl⟩ : ∃ v, y = v + 2 := ⟨y - 2, by omega⟩
    have e : (u + 2) * (v + 2) = u * v + 2 * u + 2 * v + 4 := by
      rw [Nat.add_mul, Nat.mul_add, Nat.mul_add]
      omega
    rw [e]
    omega
end Rec
end MD
end

section
set_option Elab.async false
set_option linter.all false
set_option maxRecDepth 100000
namespace MD
open PySem L2

/-! ### words -/
def isWordB : Sf := sRet (eAn (e1 (isiD ["str"]) (eVar 0)) (e2 eqD (e2 stripD (eVar 0) (eC (.str (Str.ofString "abcdefgh")))) (eC (.str (Str.ofString "")))))
def isWordF : Ff := mkF 1 1 isWordB
def inL (l : List Nat) : Bool := l.all fun c => decide (c ∈ L8)
theorem isStr (l : List Nat) : isiD ["str"] (.str (S l)) = some (.bool true) := isi_k rfl (show isiAny "str" ["str"] = some true by decide +kernel)
theorem noStr_t (ds : List D) : isiD ["str"] (.tuple ds) = some (.bool false) := isi_k rfl (show isiAny "tuple" ["str"] = some false by decide +kernel)
theorem noStr_l (ds : List D) : isiD ["str"] (.list ds) = some (.bool false) := isi_k rfl (show isiAny "list" ["str"] = some false by decide +kernel)
theorem isTup_t (ds : List D) : isiD ["tuple"] (.tuple ds) = some (.bool true) := isi_k rfl (show isiAny "tuple" ["tuple"] = some true by decide +kernel)
theorem noTup_l (ds : List D) : isiD ["tuple"] (.list ds) = some (.bool false) := isi_k rfl (show isiAny "list" ["tuple"] = some false by decide +kernel)
theorem noTup_s (x : Str) : isiD ["tuple"] (.str x) = some (.bool false) := isi_k rfl (show isiAny "str" ["tuple"] = some false by decide +kernel)
theorem noTup_n : isiD ["tuple"] .none = some (.bool false) := isi_k rfl (show isiAny "NoneType" ["tuple"] = some false by decide +kernel)
theorem noTup_b (c : Bool) : isiD ["tuple"] (.bool c) = some (.bool false) := isi_k rfl (show isiAny "bool" ["tuple"] = some false by decide +kernel)
theorem noTup_i (c : Int) : isiD ["tuple"] (.int c) = some (.bool false) := isi_k rfl (show isiAny "int" ["tuple"] = some false by decide +kernel)
theorem noStr_n : isiD ["str"] .none = some (.bool false) := isi_k rfl (show isiAny "NoneType" ["str"] = some false by decide +kernel)
theorem noStr_b (c : Bool) : isiD ["str"] (.bool c) = some (.bool false) := isi_k rfl (show isiAny "bool" ["str"] = some false by decide +kernel)
theorem noStr_i (c : Int) : isiD ["str"] (.int c) = some (.bool false) := isi_k rfl (show isiAny "int" ["str"] = some false by decide +kernel)
theorem in_L8 (c : Nat) : inD (.str (S [c])) (.str (S L8)) = some (.bool (decide (c ∈ L8))) := rfl
theorem nin_L8 (c : Nat) : ninD (.str (S [c])) (.str (S L8)) = some (.bool (!decide (c ∈ L8))) := rfl
theorem all_bools (f : Nat → Bool) : ∀ l : List Nat, allFD [.list (l.map fun c => .bool (f c))] = some (.bool (l.all f)) := fun l => by
  have key : boolsD (l.map fun c => PyData.bool (f c)) = some (l.map f) := by
    induction l with
    | nil => rfl
    | cons a r ih =>
      show (boolsD (r.map fun c => PyData.bool (f c))).map (f a :: ·) = _
      rw [ih]
      rfl
  show (boolsD (l.map fun c => PyData.bool (f c))).map (fun bs => PyData.bool (bs.all id)) = _
  rw [key]
  show some (PyData.bool ((l.map f).all id)) = _
  rw [List.all_map]
  rfl
theorem tw_self {p : Nat → Bool} : ∀ {l : List Nat}, l.takeWhile p = l ↔ ∀ x ∈ l, p x = true
  | [] => by simp
  | a :: l => by
    rw [List.takeWhile_cons]
    by_cases h : p a = true
    · rw [if_pos h, List.cons.injEq, tw_self (l := l)]
      simp [h]
    · rw [if_neg h]
      simp [h]
theorem p_nt {a : Ef} {env : Ev} {bx : Bx} {b : Bool} (h : Pu a env bx (.bool b)) : Pu (eNt a) env bx (.bool (!b)) := by
  unfold Pu eNt bnd
  rw [h]
  rfl
def goes8 (c : Nat) : Bool := (S L8).cps.contains c
theorem goes8_iff (c : Nat) : goes8 c = decide (c ∈ L8) := by
  unfold goes8
  simp
/-- what is left of a text without letters at its ends -/
theorem strip_L8 (l : List Nat) : decide (Txt.stripChars (S l) (S L8) = S []) = inL l := by
  have e : Txt.stripChars (S l) (S L8) = Builtin.Str.strSub (S l) (stripLo goes8 true (S l)) (stripHi goes8 true (S l) (stripLo goes8 true (S l))) := by
    unfold Txt.stripChars Txt.stripBy
    split
    · rename_i h
      unfold stripSame at h
      rw [Bool.and_eq_true, beq_iff_eq, beq_iff_eq] at h
      have h1 : stripLo goes8 true (S l) = 0 := h.1
      have h2 : stripHi goes8 true (S l) (stripLo goes8 true (S l)) = (S l).length := h.2
      rw [h2, h1]
      unfold Builtin.Str.strSub
      rw [S_len]
      simp
    · rfl
  have elo : stripLo goes8 true (S l) = (l.takeWhile goes8).length := by
    unfold stripLo
    rw [if_pos rfl]
  have ehi : ∀ k, stripHi goes8 true (S l) k = l.length - ((l.drop k).reverse.takeWhile goes8).length := fun k => by
    unfold stripHi
    rw [if_pos rfl, S_len]
  rw [e, elo, ehi]
  have tl := (List.takeWhile_sublist goes8 (l := l)).length_le
  by_cases c : inL l = true
  · rw [c, decide_eq_true_iff]
    have all : ∀ x ∈ l, goes8 x = true := fun x hx => by
      rw [goes8_iff]
      exact List.all_eq_true.mp c x hx
    have e1 : l.takeWhile goes8 = l := tw_self.mpr all
    rw [e1, List.drop_length]
    show Builtin.Str.strSub (S l) l.length (l.length - 0) = S []
    unfold Builtin.Str.strSub
    simp
  · have c' : inL l = false := by simpa using c
    rw [c', decide_eq_false_iff_not]
    intro z
    have nl : ∃ x ∈ l, goes8 x = false := by
      unfold inL at c'
      rw [List.all_eq_false] at c'
      obtain ⟨x, hx, h⟩ := c'
      exact ⟨x, hx, by rw [goes8_iff]; simpa using h⟩
    obtain ⟨x, hx, gx⟩ := nl
    have dw : l.dropWhile goes8 ≠ [] := fun z => by
      have := List.takeWhile_append_dropWhile (p := goes8) (l := l)
      rw [z, List.append_nil] at this
      have k := tw_self.mp this x hx
      rw [gx] at k
      cases k
    have dd : l.drop (l.takeWhile goes8).length = l.dropWhile goes8 := by
      have := List.takeWhile_append_dropWhile (p := goes8) (l := l)
      rw [show l.drop (l.takeWhile goes8).length = (l.takeWhile goes8 ++ l.dropWhile goes8).drop (l.takeWhile goes8).length by rw [this]]
      exact List.drop_left
    rw [dd] at z
    obtain ⟨y, r, hy⟩ : ∃ y r, l.dropWhile goes8 = y :: r := by
      cases h : l.dropWhile goes8 with
      | nil => exact (dw h).elim
      | cons y r => exact ⟨y, r, rfl⟩
    have gy : goes8 y = false := by
      have := List.head_dropWhile_not goes8 dw
      simp only [hy, List.head_cons] at this
      simpa using this
    have lt : ((l.dropWhile goes8).reverse.takeWhile goes8).length < (l.dropWhile goes8).length := by
      have le := (List.takeWhile_sublist goes8 (l := (l.dropWhile goes8).reverse)).length_le
      rw [List.length_reverse] at le
      rcases Nat.lt_or_ge ((l.dropWhile goes8).reverse.takeWhile goes8).length (l.dropWhile goes8).length with h | h
      · exact h
      · exfalso
        have e3 : (l.dropWhile goes8).reverse.takeWhile goes8 = (l.dropWhile goes8).reverse :=
          (List.takeWhile_sublist goes8 (l := (l.dropWhile goes8).reverse)).eq_of_length (by rw [List.length_reverse]; omega)
        have k := tw_self.mp e3 y (by rw [hy]; simp)
        rw [gy] at k
        cases k
    have sum : (l.takeWhile goes8).length + (l.dropWhile goes8).length = l.length := by
      have := congrArg List.length (List.takeWhile_append_dropWhile (p := goes8) (l := l))
      rwa [List.length_append] at this
    have zl := congrArg Str.length z
    unfold Builtin.Str.strSub at zl
    rw [S_len] at zl
    simp [Str.length] at zl
    omega
theorem isWord_txt {l : List Nat} {bx : Bx} (h : l.length ≤ 1000000) : isWordF [.str (S l)] bx = some (.bool (inL l), bx) := by
  refine fun_ok (run_F rfl (run_rt (run_eAn (Pu.run (p_e1 (p_var rfl) (isStr l)) ⟨true, rfl, ?_⟩))))
  rw [if_pos rfl, abc, emp]
  have e1 : stripD (.str (S l)) (.str (S L8)) = some (.str (Txt.stripChars (S l) (S L8))) := by
    show (if (S l).length ≤ sizeLine then some (PyData.str (Txt.stripChars (S l) (S L8))) else none) = _
    rw [if_pos (by rw [S_len]; exact sz h)]
  have e2 : eqD (.str (Txt.stripChars (S l) (S L8))) (.str (S [])) = some (.bool (decide (Txt.stripChars (S l) (S L8) = S []))) := rfl
  rw [strip_L8] at e2
  exact Pu.run (p_e2 (p_e2 (p_var rfl) p_c e1) p_c e2) ⟨rfl, rfl⟩
theorem isWord_no {d : D} {bx : Bx} (h : isiD ["str"] d = some (.bool false)) : isWordF [d] bx = some (.bool false, bx) := by
  refine fun_ok (run_F rfl (run_rt (run_eAn (Pu.run (p_e1 (p_var rfl) h) ⟨false, rfl, ?_⟩))))
  rw [if_neg (by decide)]
  exact ⟨rfl, rfl⟩
/-! ### recipes handed in -/
def wayShownB (self : Ff) : Sf := sSeq (sIf (tOf (e1 (isiD ["str"]) (eVar 0)))
  (sRet (eVar 0))
  (sNil))
  (sSeq (sAsg [] (setT [1, 2]) (eVar 0))
  (sRet (eCall seenInF (aCons (eCall self (aCons (eVar 1) (aNil))) (aCons (eCall self (aCons (eVar 2) (aNil))) (aNil))))))
def wayShownR : Nat → Ff
  | 0 => fun _ => fail
  | n + 1 => mkF 1 3 (wayShownB (wayShownR n))
def toldB (self : Ff) : Sf := sSeq (sIf (tOf (e1 (isiD ["str"]) (eVar 0)))
  (sRet (eVar 0))
  (sNil))
  (sSeq (sPar [] [1, 2] (aCons (eCall self (aCons (eIx (eVar 0) (eC (.int 0))) (aNil))) (aCons (eCall self (aCons (eIx (eVar 0) (eC (.int 1))) (aNil))) (aNil))))
  (sRet (eCall lredF (aCons (e2 addD (e2 addD (eVar 2) (eVar 1)) (eVar 2)) (aNil)))))
def toldR : Nat → Ff
  | 0 => fun _ => fail
  | n + 1 => mkF 1 3 (toldB (toldR n))
/-- a recipe by tuples, by lists, by both -/
inductive Ren : Rec → D → Prop
  | one (c : Nat) : Ren (.one c) (.str (S [c]))
  | tup {a b : Rec} {x y : D} : Ren a x → Ren b y → Ren (.two a b) (.tuple [x, y])
  | lst {a b : Rec} {x y : D} : Ren a x → Ren b y → Ren (.two a b) (.list [x, y])
theorem ren_D : ∀ r : Rec, Ren r r.toD
  | .one c => .one c
  | .two a b => .tup (ren_D a) (ren_D b)
theorem ren_L : ∀ r : Rec, Ren r r.toL
  | .one c => .one c
  | .two a b => .lst (ren_L a) (ren_L b)
theorem wayShown_ok : ∀ (r : Rec) (d : D) (n : Nat) (bx : Bx), Ren r d → r.Ok → r.deep ≤ n → wayShownR n [d] bx = some (.str (S r.way), bx)
  | .one c, d, 0, bx, _, _, h => by cases h
  | .one c, d, n + 1, bx, hd, _, h => by
    cases hd
    refine fun_ok (run_F rfl (run_seq (run_sif' (p_e1 (p_var rfl) (isStr _)) rfl ?_)))
    rw [if_pos rfl]
    exact run_rt' (p_var rfl) ⟨rfl, rfl⟩
  | .two a b, d, 0, bx, _, _, h => by cases h
  | .two a b, d, n + 1, bx, hd, ok, h => by
    have ha : a.deep ≤ n := by have : max a.deep b.deep + 1 ≤ n + 1 := h; omega
    have hb : b.deep ≤ n := by have : max a.deep b.deep + 1 ≤ n + 1 := h; omega
    obtain ⟨o1, o2, o3, o4⟩ := ok
    have go : ∀ (x y : D), Ren a x → Ren b y → isiD ["str"] d = some (.bool false) → setT [1, 2] d [some d, none, none] = some [some d, some x, some y] → wayShownR (n + 1) [d] bx = some (.str (S (Rec.two a b).way), bx) := fun x y rx ry e1 e2 => by
      refine fun_ok (run_F rfl (run_seq (run_sif' (p_e1 (p_var rfl) e1) rfl ?_)))
      rw [if_neg (by decide)]
      refine run_snil (run_seq (run_asg (p_var rfl) e2 ?_))
      exact run_rt' (p_call (p_cons (p_call (p_cons (p_var rfl) p_nil) (wayShown_ok a x n bx rx o1 ha)) (p_cons (p_call (p_cons (p_var rfl) p_nil) (wayShown_ok b y n bx ry o2 hb)) p_nil)) (seenIn_ok (Rec.way_ne a) (Rec.way_ad a) (Rec.way_ad b) (by omega) (by omega))) ⟨rfl, rfl⟩
    cases hd with
    | tup rx ry => exact go _ _ rx ry (noStr_t _) rfl
    | lst rx ry => exact go _ _ rx ry (noStr_l _) rfl
theorem told_len (r : Rec) : r.told.length ≤ 2 * r.way.length := by
  rw [Rec.told_way]
  exact pal_le _
theorem told_ok : ∀ (r : Rec) (n : Nat) (bx : Bx), r.Ok → r.deep ≤ n → toldR n [r.toD] bx = some (.str (S r.told), bx)
  | .one c, 0, bx, _, h => by cases h
  | .one c, n + 1, bx, _, h => by
    refine fun_ok (run_F rfl (run_seq (run_sif' (p_e1 (p_var rfl) (isStr [c])) rfl ?_)))
    rw [if_pos rfl]
    exact run_rt' (p_var rfl) ⟨rfl, rfl⟩
  | .two a b, 0, bx, _, h => by cases h
  | .two a b, n + 1, bx, ok, h => by
    have ha : a.deep ≤ n := by have : max a.deep b.deep + 1 ≤ n + 1 := h; omega
    have hb : b.deep ≤ n := by have : max a.deep b.deep + 1 ≤ n + 1 := h; omega
    obtain ⟨o1, o2, o3, o4⟩ := ok
    have l1 := told_len a
    have l2 := told_len b
    refine fun_ok (run_F rfl (run_seq (run_sif' (p_e1 (p_var rfl) (noStr_t _)) rfl ?_)))
    rw [if_neg (by decide)]
    refine run_snil (run_seq (run_par (Run.of (p_cons (p_call (p_cons (p_ix (p_var rfl) p_c (ixM_ix (show ixD (.tuple [a.toD, b.toD]) (.int 0) = some a.toD from rfl))) p_nil) (told_ok a n bx o1 ha)) (p_cons (p_call (p_cons (p_ix (p_var rfl) p_c (ixM_ix (show ixD (.tuple [a.toD, b.toD]) (.int 1) = some b.toD from rfl))) p_nil) (told_ok b n bx o2 hb)) p_nil)) ⟨_, rfl, ?_⟩)))
    exact run_rt' (p_call (p_cons (p_addS (p_addS (p_var rfl) (p_var rfl) (by omega)) (p_var rfl) (by rw [List.length_append]; omega)) p_nil) (lred_ok (by rw [List.length_append, List.length_append]; omega))) ⟨rfl, rfl⟩
/-! ### is it a recipe -/
def isRec : D → Bool
  | .str x => decide (x.cps.toList.length = 1) && inL x.cps.toList
  | .tuple [a, b] => isRec a && isRec b
  | _ => false
/-- a thing, not deep -/
inductive Th : Nat → D → Prop
  | non {n} : Th (n + 1) .none
  | bool {n} (b : Bool) : Th (n + 1) (.bool b)
  | int {n} (i : Int) : Th (n + 1) (.int i)
  | str {n} (l : List Nat) : l.length ≤ 1000 → Th (n + 1) (.str (S l))
  | list {n} (ds : List D) : Th (n + 1) (.list ds)
  | tuple {n} {ds : List D} : (∀ d ∈ ds, Th n d) → Th (n + 1) (.tuple ds)
theorem Th.up : ∀ {n : Nat} {d : D}, Th n d → ∀ m, n ≤ m → Th m d
  | 0, _, h, _, _ => by cases h
  | n + 1, d, h, 0, l => (Nat.not_succ_le_zero _ l).elim
  | n + 1, d, h, m + 1, l => by
    cases h with
    | non => exact .non
    | bool b => exact .bool b
    | int i => exact .int i
    | str x hx => exact .str x hx
    | list ds => exact .list ds
    | tuple hd => exact .tuple fun d h => (hd d h).up m (by omega)
theorem isRec_str (l : List Nat) : isRec (.str (S l)) = (decide (l.length = 1) && inL l) := by simp [isRec]
theorem th_rec : ∀ {n : Nat} {d : D}, Th n d → isRec d = true → ∃ r : Rec, d = r.toD ∧ r.deep ≤ n
  | 0, _, h, _ => by cases h
  | n + 1, d, h, e => by
    cases h with
    | str l hl =>
      rw [isRec_str, Bool.and_eq_true] at e
      obtain ⟨c, rfl⟩ := List.length_eq_one_iff.mp (of_decide_eq_true e.1)
      exact ⟨.one c, rfl, Nat.succ_le_succ (Nat.zero_le _)⟩
    | @tuple _ ds hd =>
      match ds, hd, e with
      | [a, b], hd, e =>
        have e : (isRec a && isRec b) = true := by simpa [isRec] using e
        rw [Bool.and_eq_true] at e
        obtain ⟨r, e1, h1⟩ := th_rec (hd a (by simp)) e.1
        obtain ⟨q, e2, h2⟩ := th_rec (hd b (by simp)) e.2
        exact ⟨.two r q, by rw [e1, e2]; rfl, by show max r.deep q.deep + 1 ≤ n + 1; omega⟩
      | [], hd, e => simp [isRec] at e
      | [a], hd, e => simp [isRec] at e
      | a :: b :: c :: r, hd, e => simp [isRec] at e
    | _ => simp [isRec] at e
end MD
end

section
set_option Elab.async false
set_option linter.all false
set_option maxRecDepth 100000
namespace MD
open PySem L2

/-! ### rows, ways, palindromes asked -/
abbrev gtN : List Str := [Str.ofString "aa", Str.ofString "bb", Str.ofString "cc", Str.ofString "dd", Str.ofString "ee", Str.ofString "ff", Str.ofString "gg", Str.ofString "hh"]
def isRowB : Sf := sRet (eAn (eCall isWordF (aCons (eVar 0) (aNil))) (eNt (eA anyFD (aCons (eLc [1] (setN 1) (iOf itemsD (eC (.tuple (List.map PyData.str gtN)))) (tYesF) (e2 inTD (eVar 1) (eVar 0))) (aNil)))))
def isRowF : Ff := mkF 1 2 isRowB
def isWayB : Sf := sRet (eAn (eCall isRowF (aCons (eVar 0) (aNil))) (e2 neD (eVar 0) (eC (.str (Str.ofString "")))))
def isWayF : Ff := mkF 1 1 isWayB
def isPalB : Sf := sRet (eAn (eCall isWayF (aCons (eVar 0) (aNil))) (e2 eqD (eVar 0) (eCall backF (aCons (eVar 0) (aNil)))))
def isPalF : Ff := mkF 1 1 isPalB
theorem gtN_eq : gtN = L8.map fun c => S [c, c] := by decide +kernel
theorem found_two (l : List Nat) (c : Nat) : (!(Builtin.Str.occurrences (S l) (S [c, c]) 0 (S l).length 1).isEmpty) = true ↔ ∃ u v, l = u ++ c :: c :: v := by
  rw [StrLaws.found_iff]
  constructor
  · rintro ⟨i, h1, h2⟩
    rw [StrLaws.subAt_eq, beq_iff_eq] at h2
    have h2 : (l.drop i).take 2 = [c, c] := h2
    refine ⟨l.take i, l.drop (i + 2), ?_⟩
    have e1 : l.drop i = (l.drop i).take 2 ++ (l.drop i).drop 2 := (List.take_append_drop 2 _).symm
    rw [h2, List.drop_drop] at e1
    have e2 := (List.take_append_drop i l).symm
    rw [e1] at e2
    exact e2
  · rintro ⟨u, v, rfl⟩
    refine ⟨u.length, by rw [S_len, S_len]; simp, ?_⟩
    rw [StrLaws.subAt_eq, beq_iff_eq]
    show ((u ++ c :: c :: v).drop u.length).take 2 = [c, c]
    rw [List.drop_left]
    rfl
theorem two_likes {l : List Nat} (h : inL l = true) : (L8.any fun c => !(Builtin.Str.occurrences (S l) (S [c, c]) 0 (S l).length 1).isEmpty) = !noAdj l := by
  rw [Bool.eq_iff_iff, List.any_eq_true]
  constructor
  · rintro ⟨c, _, hc⟩
    obtain ⟨u, v, rfl⟩ := (found_two l c).mp hc
    cases e : noAdj (u ++ c :: c :: v) with
    | false => rfl
    | true =>
      have := noAdj_right e
      simp [noAdj] at this
  · intro hn
    have ne : likes l ≠ [] := fun z => by
      rw [likes_nil z] at hn
      cases hn
    obtain ⟨k, hk⟩ := List.exists_mem_of_ne_nil _ ne
    obtain ⟨u, c, v, rfl, _⟩ := likes_get hk
    have cm : c ∈ L8 := of_decide_eq_true (List.all_eq_true.mp h c (by simp))
    exact ⟨c, cm, (found_two _ c).mpr ⟨u, v, rfl⟩⟩
def foundAt (z : Str) : D → D
  | .str a => .bool (!(Builtin.Str.occurrences z a 0 z.length 1).isEmpty)
  | _ => .none
theorem isRow_txt {l : List Nat} {bx : Bx} (h : l.length ≤ 900000) : isRowF [.str (S l)] bx = some (.bool (inL l && noAdj l), bx) := by
  refine fun_ok (run_F rfl (run_rt (run_eAn (Pu.run (p_call (p_cons (p_var rfl) p_nil) (isWord_txt (by omega))) ⟨inL l, rfl, ?_⟩))))
  cases hw : inL l with
  | false =>
    rw [if_neg (by decide)]
    exact ⟨rfl, rfl⟩
  | true =>
    rw [if_pos rfl, Bool.true_and]
    have h1 := comp_pure (set := setN 1) (tt := tYesF) (el := e2 inTD (eVar 1) (eVar 0)) (env0 := maskE [1] [some (.str (S l)), none]) (bx := bx) (fun _ => true)
      (foundAt (S l)) (ds := List.map PyData.str gtN) (fun d hd => by
        obtain ⟨p, hp, rfl⟩ := List.mem_map.mp hd
        exact ⟨_, rfl, rfl, fun _ => p_e2 (p_var rfl) (p_var rfl) rfl⟩)
    have h2 : ((List.map PyData.str gtN).filter fun _ => true).map (foundAt (S l)) = L8.map fun c => PyData.bool (!(Builtin.Str.occurrences (S l) (S [c, c]) 0 (S l).length 1).isEmpty) := by
      rw [List.filter_eq_self.mpr (fun _ _ => rfl), gtN_eq, List.map_map, List.map_map]
      rfl
    rw [h2] at h1
    have key : ∀ m : List Nat, boolsD (m.map fun c => PyData.bool (!(Builtin.Str.occurrences (S l) (S [c, c]) 0 (S l).length 1).isEmpty)) = some (m.map fun c => !(Builtin.Str.occurrences (S l) (S [c, c]) 0 (S l).length 1).isEmpty) := fun m => by
      induction m with
      | nil => rfl
      | cons a r ih =>
        show (boolsD (r.map fun c => PyData.bool (!(Builtin.Str.occurrences (S l) (S [c, c]) 0 (S l).length 1).isEmpty))).map ((!(Builtin.Str.occurrences (S l) (S [a, a]) 0 (S l).length 1).isEmpty) :: ·) = _
        rw [ih]
        rfl
    have h3 : anyFD [.list (L8.map fun c => PyData.bool (!(Builtin.Str.occurrences (S l) (S [c, c]) 0 (S l).length 1).isEmpty))] = some (.bool (!noAdj l)) := by
      show (boolsD (L8.map fun c => PyData.bool (!(Builtin.Str.occurrences (S l) (S [c, c]) 0 (S l).length 1).isEmpty))).map (fun bs => PyData.bool (bs.any id)) = _
      rw [key]
      show some (PyData.bool ((L8.map fun c => !(Builtin.Str.occurrences (S l) (S [c, c]) 0 (S l).length 1).isEmpty).any id)) = _
      rw [List.any_map]
      exact congrArg (fun b => some (PyData.bool b)) (two_likes hw)
    have h4 := p_A1 (p_lc (p_of (p_c (bx := bx) (env := [some (.str (S l)), none])) (itemsD_tup (List.map PyData.str gtN))) (by decide) h1) h3
    exact Pu.run (p_nt h4) ⟨by rw [Bool.not_not], rfl⟩
theorem isWay_txt {l : List Nat} {bx : Bx} (h : l.length ≤ 900000) : isWayF [.str (S l)] bx = some (.bool (inL l && noAdj l && !decide (l = [])), bx) := by
  refine fun_ok (run_F rfl (run_rt (run_eAn (Pu.run (p_call (p_cons (p_var rfl) p_nil) (isRow_txt h)) ⟨inL l && noAdj l, rfl, ?_⟩))))
  cases hw : inL l && noAdj l with
  | false =>
    rw [if_neg (by decide)]
    exact ⟨rfl, rfl⟩
  | true =>
    rw [if_pos rfl, Bool.true_and, emp]
    exact Pu.run (p_e2 (p_var rfl) p_c neD_str) ⟨rfl, rfl⟩
theorem isRow_no {d : D} {bx : Bx} (h : isiD ["str"] d = some (.bool false)) : isRowF [d] bx = some (.bool false, bx) := by
  refine fun_ok (run_F rfl (run_rt (run_eAn (Pu.run (p_call (p_cons (p_var rfl) p_nil) (isWord_no h)) ⟨false, rfl, ?_⟩))))
  rw [if_neg (by decide)]
  exact ⟨rfl, rfl⟩
theorem isWay_no {d : D} {bx : Bx} (h : isiD ["str"] d = some (.bool false)) : isWayF [d] bx = some (.bool false, bx) := by
  refine fun_ok (run_F rfl (run_rt (run_eAn (Pu.run (p_call (p_cons (p_var rfl) p_nil) (isRow_no h)) ⟨false, rfl, ?_⟩))))
  rw [if_neg (by decide)]
  exact ⟨rfl, rfl⟩
/-- a palindrome of the document -/
def palB' (l : List Nat) : Bool := (inL l && noAdj l && !decide (l = [])) && decide (l = l.reverse)
theorem isPal_txt {l : List Nat} {bx : Bx} (h : l.length ≤ 900000) : isPalF [.str (S l)] bx = some (.bool (palB' l), bx) := by
  refine fun_ok (run_F rfl (run_rt (run_eAn (Pu.run (p_call (p_cons (p_var rfl) p_nil) (isWay_txt h)) ⟨inL l && noAdj l && !decide (l = []), rfl, ?_⟩))))
  unfold palB'
  cases hw : inL l && noAdj l && !decide (l = []) with
  | false =>
    rw [if_neg (by decide)]
    exact ⟨rfl, rfl⟩
  | true =>
    rw [if_pos rfl, Bool.true_and]
    exact Pu.run (p_e2 (p_var rfl) (p_call (p_cons (p_var rfl) p_nil) (back_ok (by omega))) eqD_str) ⟨rfl, rfl⟩
theorem isPal_no {d : D} {bx : Bx} (h : isiD ["str"] d = some (.bool false)) : isPalF [d] bx = some (.bool false, bx) := by
  refine fun_ok (run_F rfl (run_rt (run_eAn (Pu.run (p_call (p_cons (p_var rfl) p_nil) (isWay_no h)) ⟨false, rfl, ?_⟩))))
  rw [if_neg (by decide)]
  exact ⟨rfl, rfl⟩
/-- read from behind the same, of an even length, with no like neighbours: nothing -/
theorem pal_odd {l : List Nat} (h : l.reverse = l) (hn : noAdj l = true) (hl : l ≠ []) : l.length % 2 = 1 := by
  by_cases c : l.length % 2 = 1
  · exact c
  · exfalso
    have e : l = l.take (l.length / 2) ++ l.drop (l.length / 2) := (List.take_append_drop _ _).symm
    have e2 : l.drop (l.length / 2) = (l.take (l.length / 2)).reverse := by
      have h2 : (l.take (l.length / 2)).reverse = l.reverse.drop (l.length - l.length / 2) := by
        rw [List.drop_reverse]
        congr 2
        omega
      rw [h2, h]
      congr 1
      omega
    rw [e2] at e
    have z := Eqv.back1 (l.take (l.length / 2))
    rw [← e] at z
    have : redL l = [] := z
    rw [redL_row hn] at this
    exact hl this
theorem pal_iff {l : List Nat} (hn : noAdj l = true) (hi : inL l = true) : palB' l = (!decide (l = []) && decide (palL (halfL l) = l)) := by
  unfold palB'
  rw [hi, hn]
  by_cases c : l = []
  · subst c; rfl
  · rw [decide_eq_false c]
    simp only [Bool.not_false, Bool.and_self, Bool.true_and]
    refine decide_eq_decide.mpr ⟨fun h => pal_half h.symm (pal_odd h.symm hn c), fun h => ?_⟩
    have := pal_rev (halfL l)
    rw [h] at this
    exact this.symm
theorem inL_take {l : List Nat} (h : inL l = true) (n : Nat) : inL (l.take n) = true := by
  unfold inL at *
  rw [List.all_eq_true] at *
  exact fun c hc => h c (List.mem_of_mem_take hc)
theorem inL_pal {l : List Nat} (h : inL l = true) : inL (palL l) = true := by
  unfold inL palL at *
  rw [List.all_eq_true] at *
  intro c hc
  rcases List.mem_append.mp hc with hc | hc
  · exact h c hc
  · exact h c ((List.dropLast_sublist l).subset (by simpa using hc))
theorem row_inL {many : Nat} {l : List Nat} (h : Row many l) : inL l = true := by
  unfold inL
  rw [List.all_eq_true]
  exact fun c hc => decide_eq_true (List.mem_of_mem_take (h.le c hc))
theorem pal_isPal {w : List Nat} (h : w ≠ []) (hn : noAdj w = true) (hi : inL w = true) : palB' (palL w) = true := by
  rw [pal_iff (noAdj_pal hn) (inL_pal hi), half_pal h, decide_eq_true rfl]
  have : palL w ≠ [] := fun z => h (by
    have := congrArg List.length z
    unfold palL at this
    simp at this
    exact this.1)
  rw [decide_eq_false this]
  rfl
theorem turn_twice {w r : List Nat} (hr : noAdj r = true) : turnL w (turnL w r) = r := by
  unfold turnL
  rw [red_right]
  have := Eqv.ppx w r
  unfold Eqv at this
  rw [this, redL_row hr]
theorem turn_own {w : List Nat} (h : w ≠ []) (hn : noAdj w = true) : turnL w w = w.dropLast := by
  obtain ⟨n, x, rfl⟩ := snoc_of h
  rw [List.dropLast_concat]
  have hn' : noAdj n = true := noAdj_left hn
  unfold turnL
  have e : Eqv (palL (n ++ [x]) ++ (n ++ [x])) n := by
    rw [pal_snoc]
    have e1 : n ++ x :: n.reverse ++ (n ++ [x]) = (n ++ [x]) ++ (n.reverse ++ n) ++ [x] := by simp
    rw [e1]
    have e2 : Eqv ((n ++ [x]) ++ (n.reverse ++ n) ++ [x]) ((n ++ [x]) ++ [] ++ [x]) := ((Eqv.refl (n ++ [x])).app (Eqv.back2 n)).app (Eqv.refl [x])
    refine e2.trans ?_
    have e3 : (n ++ [x]) ++ [] ++ [x] = n ++ ([x] ++ [x].reverse) := by simp
    rw [e3]
    have e4 := (Eqv.refl n).app (Eqv.back1 [x])
    rw [List.append_nil] at e4
    exact e4
  exact (show redL _ = redL n from e).trans (redL_row hn')
theorem turn_par {w r : List Nat} (h : w ≠ []) : turnL w r ≠ r := fun z => by
  have e := red_par (palL w ++ r)
  unfold turnL at z
  rw [z, List.length_append] at e
  have := pal_len h
  omega
end MD
end

section
set_option Elab.async false
set_option linter.all false
set_option maxRecDepth 100000
namespace MD
open PySem L2

/-! ### what is told and what is due, computed quickly -/
def sameT : Nat → D → D → Bool
  | 0, _, _ => false
  | _ + 1, .str x, .str y => decide (x.cps.toList = y.cps.toList)
  | _ + 1, .bool x, .bool y => x == y
  | _ + 1, .int x, .int y => decide (x = y)
  | _ + 1, .none, .none => true
  | n + 1, .list xs, .list ys => decide (xs.length ≤ 1000000) && decide (xs.length = ys.length) && (xs.zip ys).all fun p => sameT n p.1 p.2
  | n + 1, .tuple xs, .tuple ys => decide (xs.length ≤ 1000000) && decide (xs.length = ys.length) && (xs.zip ys).all fun p => sameT n p.1 p.2
  | _, _, _ => false
theorem zip_all {n : Nat} (ih : ∀ a b, sameT n a b = true → a = b ∧ Pl n a) : ∀ (xs ys : List D), xs.length = ys.length → ((xs.zip ys).all fun p => sameT n p.1 p.2) = true → xs = ys ∧ ∀ d ∈ xs, Pl n d
  | [], [], _, _ => ⟨rfl, fun _ h => nomatch h⟩
  | [], _ :: _, h, _ => nomatch h
  | _ :: _, [], h, _ => nomatch h
  | x :: xs, y :: ys, h, e => by
    rw [List.zip_cons_cons, List.all_cons, Bool.and_eq_true] at e
    obtain ⟨e1, e2⟩ := ih x y e.1
    obtain ⟨e3, e4⟩ := zip_all ih xs ys (by simpa using h) e.2
    subst e1 e3
    exact ⟨rfl, fun d hd => by
      rcases List.mem_cons.mp hd with rfl | hd
      · exact e2
      · exact e4 d hd⟩
theorem sameT_ok : ∀ (n : Nat) (a b : D), sameT n a b = true → a = b ∧ Pl n a := by
  intro n
  induction n with
  | zero => intro a b h; cases h
  | succ n ih =>
    intro a b h
    unfold sameT at h
    split at h
    · rename_i z; cases z
    · rename_i m x y z
      cases z
      have e : x.cps.toList = y.cps.toList := of_decide_eq_true h
      have : x = y := by
        obtain ⟨x⟩ := x
        obtain ⟨y⟩ := y
        congr 1
        exact Array.toList_inj.mp e
      subst this
      exact ⟨rfl, .str _⟩
    · rename_i m x y z
      cases z
      have := eq_of_beq h
      subst this
      exact ⟨rfl, .bool _⟩
    · rename_i m x y z
      cases z
      have := of_decide_eq_true h
      subst this
      exact ⟨rfl, .int _⟩
    · exact ⟨rfl, .non⟩
    · rename_i m xs ys z
      cases z
      rw [Bool.and_eq_true, Bool.and_eq_true] at h
      obtain ⟨e1, e2⟩ := zip_all ih xs ys (of_decide_eq_true h.1.2) h.2
      subst e1
      exact ⟨rfl, .list (of_decide_eq_true h.1.1) e2⟩
    · rename_i m xs ys z
      cases z
      rw [Bool.and_eq_true, Bool.and_eq_true] at h
      obtain ⟨e1, e2⟩ := zip_all ih xs ys (of_decide_eq_true h.1.2) h.2
      subst e1
      exact ⟨rfl, .tuple (of_decide_eq_true h.1.1) e2⟩
    · cases h
def fastSame : Ff := fun xs bx => match xs with
  | [a, b] => if sameT 8 a b = true then some (.bool true, bx) else sameR 8 xs bx
  | _ => sameR 8 xs bx
theorem fastSame_eq : fastSame = sameR 8 := by
  funext xs bx
  unfold fastSame
  split
  · rename_i a b
    by_cases c : sameT 8 a b = true
    · rw [if_pos c]
      obtain ⟨e, p⟩ := sameT_ok 8 a b c
      subst e
      exact (same_ok 8 a bx p).symm
    · rw [if_neg c]
  · rfl
end MD
end

section
set_option Elab.async false
set_option linter.all false
set_option maxRecDepth 100000
namespace MD
open PySem L2

def lawB2 (cells box byhand right : Ff) : Sf := sSeq (sIf (tNt (tOf (eCall byhand aNil)))
  (sRet (eC (.bool false)))
  (sNil))
  (sSeq (sSetM [] 1 (eCall cells (aCons (eVar 0) (aCons (eC (.int 3)) (aNil)))))
  (sRet (eA allFD (aCons (eLc [2] (setN 2) (iArgs rangeD (aCons (eA lenD (aCons (eVar 1) (aNil))) (aNil))) (tYesF) (eBox right (eCall box (aCons (eVar 1) (aCons (eVar 2) (aNil)))))) (aNil)))))
/-- what is asked by hand first, then each box -/
theorem law_shape2 {off : Int} (h0 : 0 ≤ off) (h1 : off ≤ 10000000) {byhand right : Ff} (hb : isTN (byhand [] none) = true) {m : Nat} (hm : m ≤ 2 ^ 100) (hr : ∀ bx, Good m bx → Run (right [boxD]) bx fun d _ => d = .bool true) :
    ∀ ns : List Int, ns.length ≤ 63 → (∀ z ∈ ns, Builtin.Int.intBits z ≤ 1048576) → isTrueF (mkF 1 3 (lawB2 cellsF (boxF off) byhand right) [rolD (ns.map .int)] none) = true := by
  intro ns hl hz
  refine run_elim (α := D) (m := mkF 1 3 (lawB2 cellsF (boxF off) byhand right) [rolD (ns.map .int)]) (bx := none) (Q := fun (d : D) (_ : Bx) => d = PyData.bool true) ?_ (fun d b e h => by
    subst h
    rw [e]
    rfl)
  obtain ⟨cs, hc3, hcb, hcs⟩ := cells_ok (K := 1048577) (by decide) hl (fun z h => bits_of (hz z h)) none
  refine run_F rfl (run_seq (run_sif (run_tNt (run_tOf (run_call ⟨[], none, rfl, .bool true, none, isTN_eq hb, true, rfl, ?_⟩)))))
  show Run (sNil _) none _
  refine run_snil ?_
  refine run_seq (run_setM' (p_call (p_cons (p_var rfl) (p_cons p_c p_nil)) hcs) ?_)
  have hlen : lenD [.list (cs.map .int)] = some (.int (cs.length : Nat)) := by
    show some (PyData.int ((cs.map PyData.int).length : Nat)) = _
    rw [List.length_map]
  have hcomp : compL (setN 2) tYesF (eBox right (eCall (boxF off) (aCons (eVar 1) (aCons (eVar 2) (aNil))))) (maskE [2] [some (rolD (ns.map .int)), some (.list (cs.map .int)), none]) (rangeItems 0 cs.length) none = some (List.replicate cs.length (.bool true), none) := by
    have h := comp_pure (set := setN 2) (tt := tYesF) (el := eBox right (eCall (boxF off) (aCons (eVar 1) (aCons (eVar 2) (aNil))))) (env0 := maskE [2] [some (rolD (ns.map .int)), some (.list (cs.map .int)), none]) (bx := none) (fun _ => true) (fun _ => .bool true) (ds := rangeItems 0 cs.length) (fun d hd => by
      obtain ⟨i, hi⟩ := List.mem_iff_getElem?.mp hd
      obtain ⟨rfl, hlt⟩ := rangeItems_get hi
      refine ⟨_, rfl, rfl, fun _ => ?_⟩
      have ez : (0 : Int) + (i : Nat) = ((i : Nat) : Int) := by omega
      rw [ez]
      obtain ⟨x, y, hx, x0, y0, y1⟩ := box_ok (K := 1048577 + 13) (by decide) h0 h1 hc3 hcb hlt none
      obtain ⟨d, b, hd, rfl⟩ := hr (some (x, y, 0)) ⟨x, y, 0, rfl, x0, y0, y1, Int.le_refl _, by
        have : (m : Int) ≤ ((2 ^ 100 : Nat) : Int) := Int.ofNat_le.mpr hm
        have e : ((2 ^ 100 : Nat) : Int) = 2 ^ 100 := by decide
        omega⟩
      have hcall : eCall (boxF off) (aCons (eVar 1) (aCons (eVar 2) (aNil))) [some (rolD (ns.map .int)), some (.list (cs.map .int)), some (.int i)] none = some (.list [.int x, .int y, .int 0], none) := p_call (p_cons (p_var rfl) (p_cons (p_var rfl) p_nil)) hx
      show eBox right (eCall (boxF off) (aCons (eVar 1) (aCons (eVar 2) (aNil)))) [some (rolD (ns.map .int)), some (.list (cs.map .int)), some (.int i)] none = _
      unfold eBox bnd
      rw [hcall]
      show (match right [boxD] (some (x, y, 0)) with | some (r, _) => if noDict r = true then some (r, (none : Bx)) else none | none => none) = _
      rw [hd]
      rfl)
    rw [h]
    congr 2
    have e0 : (rangeItems 0 cs.length).filter (fun _ => true) = rangeItems 0 cs.length := List.filter_eq_self.mpr fun _ _ => rfl
    rw [e0]
    have e1 : (rangeItems 0 cs.length).length = cs.length := rangeItems_len
    rw [List.map_const', e1]
  exact run_rt' (p_A1 (p_lc (p_args (p_cons (p_A1 (p_var rfl) hlen) p_nil) (by rw [rangeD1 (by omega) (by omega), Int.toNat_natCast])) (by rw [rangeItems_len]; omega) hcomp) (bools_all _)) rfl
end MD
end

section
set_option Elab.async false
set_option linter.all false
set_option maxRecDepth 100000
/-! Mth21: families of doors, on lists of letters. -/
namespace MD
open PySem L2

/-! ### a door seen in one that is not ahead of it, in one that is -/
structure Wy (w : List Nat) : Prop where
  ne : w ≠ []
  ad : noAdj w = true
theorem Wy.seen {a b : List Nat} (h : Wy a) : Wy (seenL a b) := ⟨seen_ne h.ne, noAdj_seen _ _⟩
theorem red_start {n r : List Nat} {x : Nat} (hn : noAdj (n ++ [x]) = true) (hr : noAdj r = true) (h : ¬ (n ++ [x]) <+: r) : (redL (n.reverse ++ r)).head? ≠ some x := by
  have nn : noAdj n = true := noAdj_left hn
  rw [← joinL_red (noAdj_rev nn) hr]
  unfold joinL
  rw [List.reverse_reverse]
  have c1 := cm_le1 n r
  have c2 := cm_le2 n r
  rw [List.length_reverse]
  by_cases c : cm n r = n.length
  · have e := cm_take n r
    rw [c, List.take_length] at e
    rw [c, Nat.sub_self, List.take_zero, List.nil_append]
    intro z
    apply h
    have e2 : r = n ++ r.drop n.length := by
      have := List.take_append_drop n.length r
      rw [← e] at this
      exact this.symm
    obtain ⟨t, ht⟩ : ∃ t, r.drop n.length = x :: t := by
      cases hd : r.drop n.length with
      | nil => rw [hd] at z; cases z
      | cons y t =>
        rw [hd] at z
        cases z
        exact ⟨t, rfl⟩
    exact ⟨t, by rw [e2, ht]; simp⟩
  · intro z
    have hlt : cm n r < n.length := by omega
    have nz : n ≠ [] := fun e => by rw [e] at hlt; simp at hlt
    obtain ⟨m, y, rfl⟩ := snoc_of nz
    rw [List.reverse_append] at z
    have pos : (m ++ [y]).length - cm (m ++ [y]) r = ((m ++ [y]).length - cm (m ++ [y]) r - 1) + 1 := by omega
    rw [pos] at z
    have z : some y = some x := z
    cases z
    have := noAdj_right (a := m) (b := [x, x]) (by simpa using hn)
    simp [noAdj] at this
theorem turn_beyond {m r : List Nat} (hm : Wy m) (hr : noAdj r = true) (h : ¬ m <+: r) : m <+: turnL m r := by
  obtain ⟨n, x, rfl⟩ := snoc_of hm.ne
  have s := red_start hm.ad hr h
  refine ⟨redL (n.reverse ++ r), ?_⟩
  unfold turnL
  rw [pal_snoc]
  have e : n ++ x :: n.reverse ++ r = (n ++ [x]) ++ (n.reverse ++ r) := by simp
  rw [e, ← red_right (n ++ [x]) (n.reverse ++ r)]
  refine (redL_row (noAdj_append hm.ad (noAdj_red _) fun c hc z => ?_)).symm
  rw [List.getLast?_concat] at hc
  cases hc
  exact s z
theorem turn_inside {m t : List Nat} (hm : Wy m) : turnL m (m ++ t) = redL (m.dropLast ++ t) := by
  obtain ⟨n, x, rfl⟩ := snoc_of hm.ne
  rw [List.dropLast_concat]
  unfold turnL
  rw [pal_snoc]
  have e : n ++ x :: n.reverse ++ (n ++ [x] ++ t) = (n ++ [x]) ++ ((n.reverse ++ n) ++ ([x] ++ t)) := by simp
  rw [e]
  show Eqv _ _
  refine (Eqv.app (Eqv.refl (n ++ [x])) (Eqv.app (Eqv.back2 n) (Eqv.refl ([x] ++ t)))).trans ?_
  have e2 : (n ++ [x]) ++ ([] ++ ([x] ++ t)) = n ++ (([x] ++ [x]) ++ t) := by simp
  rw [e2]
  exact Eqv.app (Eqv.refl n) (Eqv.app (Eqv.back1 [x]) (Eqv.refl t))
theorem turn_short {m r : List Nat} (hm : Wy m) (h : m <+: r) : (turnL m r).length < r.length := by
  obtain ⟨t, rfl⟩ := h
  rw [turn_inside hm]
  have := redL_le (m.dropLast ++ t)
  have := List.length_pos_iff.mpr hm.ne
  simp only [List.length_append, List.length_dropLast] at *
  omega
theorem noAdj_turn (m r : List Nat) : noAdj (turnL m r) = true := noAdj_red _
theorem pre_butlast {m a : List Nat} (h : m <+: a) (hn : m ≠ a) : m <+: a.dropLast := by
  obtain ⟨t, rfl⟩ := h
  have ht : t ≠ [] := fun z => hn (by rw [z, List.append_nil])
  obtain ⟨u, x, rfl⟩ := snoc_of ht
  rw [← List.append_assoc, List.dropLast_concat]
  exact List.prefix_append _ _
theorem butlast_pre {m a : List Nat} (h : m <+: a.dropLast) : m <+: a := h.trans (List.dropLast_prefix a)
theorem noAdj_butlast {a : List Nat} (h : noAdj a = true) : noAdj a.dropLast = true := by
  rw [List.dropLast_eq_take]
  exact noAdj_take _ h
/-- which room the farther one is -/
theorem seen_case {a b : List Nat} (ha : Wy a) (hb : noAdj b = true) : seenL a b = turnL b a ∨ seenL a b = turnL b a.dropLast := by
  rw [← farther_seen ha.ne ha.ad hb]
  by_cases c : (turnL b a).length > (turnL b a.dropLast).length
  · rw [if_pos c]; exact .inl rfl
  · rw [if_neg c]; exact .inr rfl
theorem seen_beyond {a b : List Nat} (ha : Wy a) (hb : Wy b) (h : ¬ b <+: a) : b <+: seenL a b := by
  rcases seen_case ha hb.ad with e | e
  · rw [e]; exact turn_beyond hb ha.ad h
  · rw [e]; exact turn_beyond hb (noAdj_butlast ha.ad) fun z => h (butlast_pre z)
theorem seen_short {a b : List Nat} (ha : Wy a) (hb : Wy b) (h : b <+: a) (hn : b ≠ a) : (seenL a b).length < a.length := by
  have h2 := pre_butlast h hn
  rcases seen_case ha hb.ad with e | e
  · rw [e]; exact turn_short hb h
  · rw [e]
    have := turn_short hb h2
    rw [List.length_dropLast] at this
    omega
/-- seen in a door that is itself seen -/
theorem seen_conj {a b c : List Nat} (ha : Wy a) (hb : Wy b) : seenL a (seenL b c) = seenL (seenL (seenL a c) b) c := by
  have h1 : Wy (seenL a c) := ha.seen
  have h2 : Wy (seenL (seenL a c) b) := h1.seen
  refine way_unique (seen_ne ha.ne) (seen_ne h2.ne) (noAdj_seen _ _) (noAdj_seen _ _) ?_
  have pb := eqv_pal_seen (one := b) (other := c) hb.ne
  have l1 := (eqv_pal_seen (one := a) (other := seenL b c) ha.ne).trans (Eqv.app (Eqv.app pb (Eqv.refl (palL a))) pb)
  have p1 := eqv_pal_seen (one := a) (other := c) ha.ne
  have p2 := (eqv_pal_seen (one := seenL a c) (other := b) h1.ne).trans (Eqv.app (Eqv.app (Eqv.refl (palL b)) p1) (Eqv.refl (palL b)))
  have p3 := (eqv_pal_seen (one := seenL (seenL a c) b) (other := c) h2.ne).trans (Eqv.app (Eqv.app (Eqv.refl (palL c)) p2) (Eqv.refl (palL c)))
  refine l1.trans (Eqv.trans ?_ p3.symm)
  simp only [List.append_assoc]
  exact Eqv.refl _

/-! ### the family -/
inductive Cl (W : List (List Nat)) : List Nat → Prop
  | base {w : List Nat} (h : w ∈ W) : Cl W w
  | step {a b : List Nat} (ha : Cl W a) (hb : Cl W b) : Cl W (seenL a b)
/-- doors of the family that are come to by doors of at most so many letters -/
inductive ClL (W : List (List Nat)) (n : Nat) : List Nat → Prop
  | base {w : List Nat} (h : w ∈ W) : ClL W n w
  | step {a b : List Nat} (ha : ClL W n a) (hb : ClL W n b) (h : (seenL a b).length ≤ n) : ClL W n (seenL a b)
def AllWy (W : List (List Nat)) : Prop := ∀ w ∈ W, Wy w
theorem Cl.wy {W : List (List Nat)} (hW : AllWy W) {w : List Nat} (h : Cl W w) : Wy w := by
  induction h with
  | base h => exact hW _ h
  | step _ _ i _ => exact i.seen
theorem ClL.cl {W : List (List Nat)} {n : Nat} {w : List Nat} (h : ClL W n w) : Cl W w := by
  induction h with
  | base h => exact .base h
  | step _ _ _ i j => exact .step i j
theorem Cl.trans {W V : List (List Nat)} (h : ∀ w ∈ W, Cl V w) {w : List Nat} (c : Cl W w) : Cl V w := by
  induction c with
  | base m => exact h _ m
  | step _ _ i j => exact .step i j
theorem ClL.trans {W V : List (List Nat)} {n : Nat} (h : ∀ w ∈ W, ClL V n w) {w : List Nat} (c : ClL W n w) : ClL V n w := by
  induction c with
  | base m => exact h _ m
  | step _ _ l i j => exact .step i j l
/-- none begins another one -/
def PreFree (M : List (List Nat)) : Prop := ∀ a ∈ M, ∀ b ∈ M, a <+: b → a = b
theorem pre_both {a b w : List Nat} (ha : a <+: w) (hb : b <+: w) : a <+: b ∨ b <+: a := List.prefix_or_prefix_of_prefix ha hb
theorem PreFree.one {M : List (List Nat)} (h : PreFree M) {a b w : List Nat} (ma : a ∈ M) (mb : b ∈ M) (ha : a <+: w) (hb : b <+: w) : a = b := by
  rcases pre_both ha hb with c | c
  · exact h a ma b mb c
  · exact (h b mb a ma c).symm
/-- chains without like neighbours: the door, and its last maker -/
inductive RC (M : List (List Nat)) : List Nat → List Nat → Prop
  | base {m : List Nat} (h : m ∈ M) : RC M m m
  | step {w n c : List Nat} (h : RC M w n) (hc : c ∈ M) (hn : c ≠ n) : RC M (seenL w c) c
section
variable {M : List (List Nat)} (hW : AllWy M) (hP : PreFree M)
include hW hP
theorem RC.front {w n : List Nat} (h : RC M w n) : Wy w ∧ n ∈ M ∧ n <+: w := by
  induction h with
  | base h => exact ⟨hW _ h, h, List.prefix_refl _⟩
  | step h hc hn i =>
    refine ⟨i.1.seen, hc, seen_beyond i.1 (hW _ hc) fun z => hn ?_⟩
    exact hP.one hc i.2.1 z i.2.2
theorem RC.more {w n c : List Nat} (h : RC M w n) (hc : c ∈ M) : ∃ n', RC M (seenL w c) n' := by
  by_cases e : c = n
  · subst e
    cases h with
    | base h => exact ⟨_, by rw [seen_self (hW _ h).ne (hW _ h).ad]; exact .base h⟩
    | step h _ _ => exact ⟨_, by rw [seen_twice (h.front hW hP).1.ne (h.front hW hP).1.ad]; exact h⟩
  · exact ⟨c, .step h hc e⟩
theorem RC.seen {b nb : List Nat} (hb : RC M b nb) : ∀ {a na : List Nat}, RC M a na → ∃ n, RC M (seenL a b) n := by
  induction hb with
  | base h => exact fun ha => ha.more hW hP h
  | step h hc hn i =>
    rename_i w n c
    intro a na ha
    rw [seen_conj (ha.front hW hP).1 (h.front hW hP).1]
    obtain ⟨n1, h1⟩ := ha.more hW hP hc
    obtain ⟨n2, h2⟩ := i h1
    exact h2.more hW hP hc
theorem Cl.rc {w : List Nat} (h : Cl M w) : ∃ n, RC M w n := by
  induction h with
  | base h => exact ⟨_, .base h⟩
  | step _ _ i j =>
    obtain ⟨n1, h1⟩ := i
    obtain ⟨n2, h2⟩ := j
    exact h2.seen hW hP h1
theorem RC.cl {w n : List Nat} (h : RC M w n) : Cl M w := by
  induction h with
  | base h => exact .base h
  | step _ hc _ i => exact .step i (.base hc)
/-- a maker begins each door of the family -/
theorem Cl.maker {w : List Nat} (h : Cl M w) : ∃ m ∈ M, m <+: w := by
  obtain ⟨n, h⟩ := h.rc hW hP
  exact ⟨n, (h.front hW hP).2⟩
end
/-- makers are told by the family -/
theorem makers_sub {M V : List (List Nat)} (hM : AllWy M) (pM : PreFree M) (hV : AllWy V) (pV : PreFree V) (h : ∀ w, Cl M w ↔ Cl V w) {m : List Nat} (hm : m ∈ M) : m ∈ V := by
  obtain ⟨v, hv, l⟩ := ((h m).mp (.base hm)).maker hV pV
  obtain ⟨m', hm', l'⟩ := ((h v).mpr (.base hv)).maker hM pM
  have e := pM m' hm' m hm (l'.trans l)
  subst e
  have := l.eq_of_length (Nat.le_antisymm l.length_le l'.length_le)
  rwa [← this]
theorem makers_iff {M V : List (List Nat)} (hM : AllWy M) (pM : PreFree M) (hV : AllWy V) (pV : PreFree V) (h : ∀ w, Cl M w ↔ Cl V w) (m : List Nat) : m ∈ M ↔ m ∈ V :=
  ⟨makers_sub hM pM hV pV h, makers_sub hV pV hM pM fun w => (h w).symm⟩
/-- the doors that no other one of the family begins, within so many letters -/
theorem first_makers {M W C : List (List Nat)} {n : Nat} (hM : AllWy M) (pM : PreFree M) (h : ∀ w, Cl M w ↔ Cl W w) (hC : ∀ w, w ∈ C ↔ ClL W n w) (sub : ∀ m ∈ M, m ∈ C) (c : List Nat) :
    (c ∈ C ∧ ∀ d ∈ C, d <+: c → d = c) ↔ c ∈ M := by
  have mk : ∀ c ∈ C, ∃ m ∈ M, m <+: c := fun c hc => ((h c).mpr ((hC c).mp hc).cl).maker hM pM
  constructor
  · rintro ⟨hc, k⟩
    obtain ⟨m, hm, l⟩ := mk c hc
    rw [← k m (sub m hm) l]
    exact hm
  · intro hc
    refine ⟨sub c hc, fun d hd l => ?_⟩
    obtain ⟨m, hm, l'⟩ := mk d hd
    have e := pM m hm c hc (l'.trans l)
    subst e
    exact l.eq_of_length (Nat.le_antisymm l.length_le l'.length_le)
/-- one door exchanged for what is seen of it in another one -/
theorem cl_swap {u v : List (List Nat)} {a b : List Nat} (hW : AllWy (u ++ a :: v)) (hb : b ∈ u ++ v) : ∀ w, Cl (u ++ seenL a b :: v) w ↔ Cl (u ++ a :: v) w := by
  have ha : Wy a := hW a (by simp)
  have old : ∀ {x : List Nat}, x ∈ u ++ v → Cl (u ++ a :: v) x := fun h => .base (by
    rcases List.mem_append.mp h with h | h
    · exact List.mem_append_left _ h
    · exact List.mem_append_right _ (List.mem_cons_of_mem _ h))
  have new : ∀ {x : List Nat}, x ∈ u ++ v → Cl (u ++ seenL a b :: v) x := fun h => .base (by
    rcases List.mem_append.mp h with h | h
    · exact List.mem_append_left _ h
    · exact List.mem_append_right _ (List.mem_cons_of_mem _ h))
  intro w
  constructor
  · refine Cl.trans fun x hx => ?_
    rcases List.mem_append.mp hx with h | h
    · exact old (List.mem_append_left _ h)
    · rcases List.mem_cons.mp h with rfl | h
      · exact .step (.base (by simp)) (old hb)
      · exact old (List.mem_append_right _ h)
  · refine Cl.trans fun x hx => ?_
    rcases List.mem_append.mp hx with h | h
    · exact new (List.mem_append_left _ h)
    · rcases List.mem_cons.mp h with rfl | h
      · have := Cl.step (W := u ++ seenL x b :: v) (.base (w := seenL x b) (by simp)) (new hb)
        rwa [seen_twice ha.ne ha.ad] at this
      · exact new (List.mem_append_right _ h)
end MD
end

section
set_option Elab.async false
set_option linter.all false
set_option maxRecDepth 100000
/-! Mth22: ascending lists of texts; the makers as the program tells them. -/
namespace MD
open PySem L2

/-! ### ascending lists of texts -/
def Asc (l : List (List Nat)) : Prop := l.Pairwise (· < ·)
def leN (a b : List Nat) : Bool := decide (a ≤ b)
def unT (s : Str) : List Nat := s.cps.toList
def sortN (ws : List (List Nat)) : List (List Nat) := (sortT (ws.map S)).map unT
def tot (ws : List (List Nat)) : Nat := (ws.map List.length).sum
theorem unT_S (l : List Nat) : unT (S l) = l := by simp [unT]
theorem S_unT (s : Str) : S (unT s) = s := (S_of s).symm
theorem addT_mem {L : List Str} {k x : Str} : x ∈ addT L k ↔ x ∈ L ∨ x = k := by
  unfold addT
  by_cases h : k ∈ L
  · rw [if_pos h]
    exact ⟨.inl, fun z => z.elim id fun e => e ▸ h⟩
  · rw [if_neg h, List.mem_cons]
    exact or_comm
theorem fold_mem : ∀ (xs L : List Str) {x : Str}, x ∈ xs.foldl addT L ↔ x ∈ L ∨ x ∈ xs
  | [], L, x => by simp
  | y :: xs, L, x => by
    rw [List.foldl_cons, fold_mem xs, addT_mem, List.mem_cons, or_assoc]
theorem fold_nodup : ∀ (xs L : List Str), L.Nodup → (xs.foldl addT L).Nodup
  | [], L, h => h
  | y :: xs, L, h => fold_nodup xs _ (by
    unfold addT
    by_cases c : y ∈ L
    · rw [if_pos c]; exact h
    · rw [if_neg c]; exact List.nodup_cons.mpr ⟨c, h⟩)
def totS (ws : List Str) : Nat := (ws.map fun s => (unT s).length).sum
theorem fold_tot : ∀ (xs L : List Str), totS (xs.foldl addT L) ≤ totS L + totS xs
  | [], L => by simp [totS]
  | y :: xs, L => by
    have := fold_tot xs (addT L y)
    have h : totS (addT L y) ≤ totS L + (unT y).length := by
      unfold addT
      by_cases c : y ∈ L
      · rw [if_pos c]; omega
      · rw [if_neg c]; simp [totS]; omega
    simp only [List.foldl_cons]
    have e : totS (y :: xs) = (unT y).length + totS xs := by simp [totS]
    omega
theorem sortN_mem {ws : List (List Nat)} {w : List Nat} : w ∈ sortN ws ↔ w ∈ ws := by
  unfold sortN sortT listT
  rw [List.mem_map]
  constructor
  · rintro ⟨s, h, rfl⟩
    rw [List.mem_mergeSort, fold_mem, List.mem_map] at h
    rcases h with h | ⟨l, h, rfl⟩
    · cases h
    · rwa [unT_S]
  · intro h
    refine ⟨S w, ?_, unT_S w⟩
    rw [List.mem_mergeSort, fold_mem, List.mem_map]
    exact .inr ⟨w, h, rfl⟩
theorem sortN_asc (ws : List (List Nat)) : Asc (sortN ws) := by
  unfold sortN Asc
  rw [List.pairwise_map]
  have nd : (sortT (ws.map S)).Nodup := (List.mergeSort_perm _ _).symm.nodup (fold_nodup _ _ List.nodup_nil)
  have so : (sortT (ws.map S)).Pairwise (fun x y => leT x y = true) := leT_sorted _
  refine (so.and nd).imp fun {a b} h => ?_
  rcases List.le_iff_lt_or_eq.mp (of_decide_eq_true h.1) with l | e
  · exact l
  · exact (h.2 (by rw [← S_unT a, ← S_unT b]; exact congrArg S e)).elim
theorem tot_perm {a b : List Str} (h : a.Perm b) : totS a = totS b := (h.map fun s => (unT s).length).sum_nat
theorem sortN_tot (ws : List (List Nat)) : tot (sortN ws) ≤ tot ws := by
  have h1 : tot (sortN ws) = totS (sortT (ws.map S)) := by
    unfold tot sortN totS
    rw [List.map_map]
    rfl
  have h2 : totS (sortT (ws.map S)) = totS (listT (ws.map S)) := tot_perm (List.mergeSort_perm _ _)
  have h3 := fold_tot (ws.map S) []
  have h4 : totS (ws.map S) = tot ws := by
    unfold tot totS
    rw [List.map_map]
    congr 1
  have h5 : totS ([] : List Str) = 0 := rfl
  unfold listT at h2
  omega
theorem sortN_len (ws : List (List Nat)) : (sortN ws).length ≤ ws.length := by
  unfold sortN sortT
  rw [List.length_map, (List.mergeSort_perm _ _).length_eq]
  have := listT_len (ws.map S)
  rwa [List.length_map] at this
theorem txts_sort (xs : List Str) : xs.map PyData.str = txts (xs.map unT) := by
  unfold txts
  rw [List.map_map]
  exact List.map_congr_left fun s _ => congrArg PyData.str (S_of s)
theorem sortSet_txts {x : D} {ws : List (List Nat)} (h : Seqs x ws) (hl : ws.length ≤ 4000) : sortSetFD [x] = some (.list (txts (sortN ws))) := by
  have e : strsD (txts ws) = some (ws.map S) := strsD_map ws
  have k : (strsD (txts ws)).bind (fun xs => if xs.length ≤ 4000 then some (PyData.list ((sortT xs).map .str)) else none) = some (.list (txts (sortN ws))) := by
    rw [e]
    show (if (ws.map S).length ≤ 4000 then _ else _) = _
    rw [if_pos (by rw [List.length_map]; exact hl), txts_sort]
    rfl
  rcases h with rfl | rfl <;> exact k
theorem Asc.tail {x : List Nat} {l : List (List Nat)} (h : Asc (x :: l)) : Asc l := (List.pairwise_cons.mp h).2
theorem asc_ext : ∀ {a b : List (List Nat)}, Asc a → Asc b → (∀ x, x ∈ a ↔ x ∈ b) → a = b
  | [], [], _, _, _ => rfl
  | [], y :: b, _, _, h => by have := (h y).mpr List.mem_cons_self; cases this
  | x :: a, [], _, _, h => by have := (h x).mp List.mem_cons_self; cases this
  | x :: a, y :: b, ha, hb, h => by
    obtain ⟨a1, a2⟩ := List.pairwise_cons.mp ha
    obtain ⟨b1, b2⟩ := List.pairwise_cons.mp hb
    have e : x = y := by
      rcases List.mem_cons.mp ((h x).mp List.mem_cons_self) with e | m
      · exact e
      · rcases List.mem_cons.mp ((h y).mpr List.mem_cons_self) with e | m2
        · exact e.symm
        · exact (List.lt_asymm (a1 y m2) (b1 x m)).elim
    subst e
    refine congrArg _ (asc_ext a2 b2 fun z => ⟨fun hz => ?_, fun hz => ?_⟩)
    · rcases List.mem_cons.mp ((h z).mp (List.mem_cons_of_mem _ hz)) with e | m
      · exact (List.lt_irrefl _ (e ▸ a1 z hz)).elim
      · exact m
    · rcases List.mem_cons.mp ((h z).mpr (List.mem_cons_of_mem _ hz)) with e | m
      · exact (List.lt_irrefl _ (e ▸ b1 z hz)).elim
      · exact m
theorem Asc.nodup {l : List (List Nat)} (h : Asc l) : l.Nodup := List.Pairwise.imp (S := fun a b => a ≠ b) (fun {a b} (l : a < b) (e : a = b) => List.lt_irrefl b (e ▸ l)) h
/-- what lies between a text and one that it begins -/
theorem pre_between : ∀ {a b c : List Nat}, a <+: c → a ≤ b → b ≤ c → a <+: b
  | [], b, c, _, _, _ => List.nil_prefix
  | x :: a, [], c, _, h, _ => by simp at h
  | x :: a, y :: b, [], h, _, _ => by simp at h
  | x :: a, y :: b, z :: c, h, h1, h2 => by
    rw [List.cons_prefix_cons] at h
    obtain ⟨rfl, h⟩ := h
    rw [List.cons_le_cons_iff] at h1 h2
    have e : x = y := by
      rcases h1 with a | ⟨a, _⟩
      · rcases h2 with b | ⟨b, _⟩ <;> omega
      · exact a
    subst e
    rw [List.cons_prefix_cons]
    refine ⟨rfl, pre_between h ?_ ?_⟩
    · exact h1.elim (fun z => (Nat.lt_irrefl _ z).elim) (·.2)
    · exact h2.elim (fun z => (Nat.lt_irrefl _ z).elim) (·.2)
theorem asc_get {l : List (List Nat)} (h : Asc l) {i j : Nat} (hi : i < l.length) (hj : j < l.length) (hij : i < j) : l[i] < l[j] := List.pairwise_iff_getElem.mp h i j hi hj hij
/-- no neighbour begins the next one -/
def NoNext (l : List (List Nat)) : Prop := ∀ i, (h : i + 1 < l.length) → ¬ l[i] <+: l[i + 1]
theorem noNext_free {l : List (List Nat)} (h : Asc l) (n : NoNext l) : PreFree l := by
  intro a ha b hb hp
  obtain ⟨i, hi, rfl⟩ := List.mem_iff_getElem.mp ha
  obtain ⟨j, hj, rfl⟩ := List.mem_iff_getElem.mp hb
  rcases Nat.lt_trichotomy i j with c | c | c
  · refine (n i (by omega) ?_).elim
    have h1 := asc_get h hi (show i + 1 < l.length by omega) (by omega)
    refine pre_between hp (List.le_of_lt h1) ?_
    by_cases e : i + 1 = j
    · subst e; exact List.le_refl _
    · exact List.le_of_lt (asc_get h (by omega) hj (by omega))
  · subst c; rfl
  · have h1 := asc_get h hj hi c
    exact (List.not_lt.mpr hp.le h1).elim

/-! ### the program's makers -/
def fbB : Sf := sSeq (sFor [] (setN 1) (iArgs rangeD (aCons (eC (.int 1)) (aCons (eA lenD (aCons (eVar 0) (aNil))) (aNil))))
  (sIf (tOf (e2 startsD (eIx (eVar 0) (eVar 1)) (eIx (eVar 0) (e2 subD (eVar 1) (eC (.int 1))))))
  (sRet (eVar 1))
  (sNil)))
  (sRet (eC .none))
def fbF : Ff := mkF 1 2 fbB
def makersB : Sf := sSeq (sSetM [] 1 (eA sortSetFD (aCons (eVar 0) aNil)))
  (sSeq (sSetM [] 2 (eCall fbF (aCons (eVar 1) (aNil))))
  (sSeq (whileF (tOf (e2 notND (eVar 2) (eC .none)))
  (sSeq (sSetM [] 3 (eCall seenInF (aCons (eIx (eVar 1) (eVar 2)) (aCons (eIx (eVar 1) (e2 subD (eVar 2) (eC (.int 1)))) (aNil)))))
  (sSeq (sSetM [] 1 (eA sortSetFD (aCons (e2 addD (e2 addD (eSl slD (eVar 1) (pNo) (pSo (eVar 2))) (eA gLst (aCons (eVar 3) (aNil)))) (eSl slD (eVar 1) (pSo (e2 addD (eVar 2) (eC (.int 1)))) (pNo))) aNil)))
  (sSetM [] 2 (eCall fbF (aCons (eVar 1) (aNil)))))) 100000)
  (sRet (eA tupFD (aCons (eVar 1) (aNil))))))
def makersF : Ff := mkF 1 4 makersB
theorem lenD_list (ds : List D) : lenD [.list ds] = some (.int ds.length) := rfl
theorem lenD_tup (ds : List D) : lenD [.tuple ds] = some (.int ds.length) := rfl
theorem Seqs.len {x : D} {ws : List (List Nat)} (h : Seqs x ws) : lenD [x] = some (.int ws.length) := by
  rcases h with rfl | rfl
  · rw [lenD_tup, txts_len]
  · rw [lenD_list, txts_len]
theorem ixD_txts {ws : List (List Nat)} {i : Nat} (h : i < ws.length) : ixD (.list (txts ws)) (.int (i : Int)) = some (.str (S ws[i])) := by
  show atI (txts ws) (i : Int) = _
  rw [atI_lt (by rw [txts_len]; exact h)]
  simp [txts]
theorem ixT_txts {ws : List (List Nat)} {i : Nat} (h : i < ws.length) : ixD (.tuple (txts ws)) (.int (i : Int)) = some (.str (S ws[i])) := by
  show atI (txts ws) (i : Int) = _
  rw [atI_lt (by rw [txts_len]; exact h)]
  simp [txts]
theorem Seqs.ix {x : D} {ws : List (List Nat)} (h : Seqs x ws) {i : Nat} (hi : i < ws.length) : ixD x (.int (i : Int)) = some (.str (S ws[i])) := by
  rcases h with rfl | rfl
  · exact ixT_txts hi
  · exact ixD_txts hi
theorem subD_one {i : Nat} (h : 0 < i) : subD (.int (i : Int)) (.int 1) = some (.int ((i - 1 : Nat) : Int)) := by
  show some (PyData.int ((i : Int) - 1)) = _
  congr 2
  omega
theorem subD_succ (i : Nat) : subD (.int ((i + 1 : Nat) : Int)) (.int 1) = some (.int (i : Int)) := by
  show some (PyData.int (((i + 1 : Nat) : Int) - 1)) = _
  congr 2
  omega
theorem starts_take (a b : List Nat) : startsD (.str (S b)) (.str (S a)) = some (.bool (decide (b.take a.length = a))) := by
  show some (PyData.bool (0 + (S a).length ≤ (S b).length && Builtin.Str.subAt (S b) (S a) 0)) = _
  congr 2
  unfold Builtin.Str.subAt
  rw [S_len, S_len]
  by_cases h : b.take a.length = a
  · rw [decide_eq_true h]
    have hl : a.length ≤ b.length := by
      have := congrArg List.length h
      rw [List.length_take] at this
      omega
    simp [hl, h]
  · rw [decide_eq_false h]
    have : ((S b).cps.extract 0 (0 + a.length) == (S a).cps) = false := by
      rw [beq_eq_false_iff_ne]
      intro z
      have := congrArg Array.toList z
      simp at this
      exact h this
    rw [this, Bool.and_false]
theorem startsN (a b : List Nat) : startsD (.str (S a)) (.str (S b)) = some (.bool (decide (b <+: a))) := by
  rw [starts_take]
  congr 3
  rw [List.prefix_iff_eq_take]
  exact propext ⟨Eq.symm, Eq.symm⟩
theorem fb_ok {x : D} {ws : List (List Nat)} {bx : Bx} (hx : Seqs x ws) (hl : ws.length ≤ 100000) : ∃ d, fbF [x] bx = some (d, bx) ∧
    ((d = .none ∧ NoNext ws) ∨ ∃ i, ∃ h : i + 1 < ws.length, d = .int ((i + 1 : Nat) : Int) ∧ ws[i] <+: ws[i + 1]) := by
  have r : Run (fbF [x]) bx fun d b => b = bx ∧ ((d = .none ∧ NoNext ws) ∨ ∃ i, ∃ h : i + 1 < ws.length, d = .int ((i + 1 : Nat) : Int) ∧ ws[i] <+: ws[i + 1]) := by
    refine run_F rfl (run_seq (run_for (Run.of (p_args (p_cons p_c (p_cons (p_A1 (p_var rfl) hx.len) p_nil)) (rangeD2 (i := 1) (n := ws.length) (by decide) (by decide) (by omega) (by omega))) ?_)))
    refine run_forL' (fun i env b => b = bx ∧ (∀ k, k < i → (h : k + 1 < ws.length) → ¬ ws[k] <+: ws[k + 1]) ∧ ∃ d1, env = [some x, d1]) ⟨rfl, fun k h => (Nat.not_lt_zero _ h).elim, none, rfl⟩ ?_ ?_
    · rintro i d env b hd ⟨rfl, hk, d1, rfl⟩
      obtain ⟨rfl, hi⟩ := rangeItems_get hd
      have hi : i + 1 < ws.length := by omega
      have e1 : (1 : Int) + (i : Int) = ((i + 1 : Nat) : Int) := by omega
      refine ⟨_, rfl, ?_⟩
      rw [e1]
      refine run_sif' (p_e2 (p_ix (p_var rfl) (p_var rfl) (ixM_ix (hx.ix hi))) (p_ix (p_var rfl) (p_e2 (p_var rfl) p_c (subD_succ i)) (ixM_ix (hx.ix (i := i) (by omega)))) (startsN _ _)) rfl ?_
      by_cases c : ws[i] <+: ws[i + 1]
      · rw [if_pos (decide_eq_true c)]
        exact run_rt' (p_var rfl) ⟨rfl, .inr ⟨i, hi, rfl, c⟩⟩
      · rw [if_neg (by simpa using c)]
        refine run_snil ⟨rfl, fun k hk2 hk3 => ?_, _, rfl⟩
        by_cases e : k = i
        · subst e; exact c
        · exact hk k (by omega) hk3
    · rintro env b ⟨rfl, hk, d1, rfl⟩
      rw [rangeItems_len] at hk
      exact run_rt' p_c ⟨rfl, .inl ⟨rfl, fun i h => hk i (by omega) h⟩⟩
  obtain ⟨d, b, e, rfl, h⟩ := r
  exact ⟨d, e, h⟩
/-- the makers of a family -/
structure Mk (M W : List (List Nat)) : Prop where
  asc : Asc M
  free : PreFree M
  wy : AllWy M
  cl : ∀ w, Cl M w ↔ Cl W w
  le : ∀ n, (∀ w ∈ W, w.length ≤ n) → ∀ m ∈ M, m.length ≤ n ∧ ClL W n m
  len : M.length ≤ W.length
theorem Mk.one {M V W : List (List Nat)} (h : Mk M W) (ha : Asc V) (hp : PreFree V) (hw : AllWy V) (hc : ∀ w, Cl V w ↔ Cl W w) : V = M :=
  asc_ext ha h.asc fun m => makers_iff hw hp h.wy h.free (fun w => (hc w).trans (h.cl w).symm) m
theorem tot_split (u v : List (List Nat)) (a : List Nat) : tot (u ++ a :: v) = tot u + a.length + tot v := by
  simp [tot]
  omega
theorem makers_ok {x : D} {ws : List (List Nat)} {bx : Bx} (hx : Seqs x ws) (hw : AllWy ws) (hn : ws.length ≤ 1000) (hl : ∀ w ∈ ws, w.length ≤ 10000) (ht : tot ws < 90000) : ∃ M, makersF [x] bx = some (.tuple (txts M), bx) ∧ Mk M ws := by
  have r : Run (makersF [x]) bx fun d b => b = bx ∧ ∃ M, d = .tuple (txts M) ∧ Mk M ws := by
    refine run_F rfl (run_seq (run_setM' (p_A1 (p_var rfl) (sortSet_txts hx (by omega))) ?_))
    have l0 := sortN_len ws
    obtain ⟨d0, e0, h0⟩ := fb_ok (bx := bx) (x := .list (txts (sortN ws))) (.inr rfl) (show (sortN ws).length ≤ 100000 by omega)
    refine run_seq (run_setM' (p_call (p_cons (p_var rfl) p_nil) e0) ?_)
    refine run_seq (run_while (fun m env b => b = bx ∧ ∃ M d d3, env = [some x, some (.list (txts M)), some d, d3] ∧ tot M ≤ m ∧ Asc M ∧ AllWy M ∧ (∀ w, Cl M w ↔ Cl ws w) ∧ (∀ n, (∀ w ∈ ws, w.length ≤ n) → ∀ m ∈ M, m.length ≤ n ∧ ClL ws n m) ∧ M.length ≤ ws.length ∧
      ((d = .none ∧ NoNext M) ∨ ∃ i, ∃ h : i + 1 < M.length, d = .int ((i + 1 : Nat) : Int) ∧ M[i] <+: M[i + 1])) ?_ 100000 (tot ws) _ _ (by omega) ⟨rfl, sortN ws, d0, none, rfl, sortN_tot ws, sortN_asc ws, fun w h => hw w (sortN_mem.mp h), fun w => ⟨Cl.trans fun x h => .base (sortN_mem.mp h), Cl.trans fun x h => .base (sortN_mem.mpr h)⟩, fun n h m hm => ⟨h m (sortN_mem.mp hm), .base (sortN_mem.mp hm)⟩, l0, h0⟩)
    rintro m env b ⟨rfl, M, d, d3, rfl, tM, aM, wM, cM, lM, nM, hd⟩
    rcases hd with ⟨rfl, hd⟩ | ⟨i, hi, rfl, hp⟩
    · refine run_tOf (Pu.run (p_e2 (p_var rfl) p_c rfl) ⟨_, rfl, ?_⟩)
      rw [if_neg (by decide)]
      exact run_rt' (p_A1 (p_var rfl) rfl) ⟨rfl, M, rfl, aM, noNext_free aM hd, wM, cM, lM, nM⟩
    · refine run_tOf (Pu.run (p_e2 (p_var rfl) p_c rfl) ⟨_, rfl, ?_⟩)
      rw [if_pos (by decide)]
      have sq : Seqs (.list (txts M)) M := .inr rfl
      obtain ⟨u, p, q, v, eM, eu, ep, eq⟩ := two_split hi
      have lw := lM 10000 hl
      have mp : p ∈ M := by rw [ep]; exact List.getElem_mem _
      have mq : q ∈ M := by rw [eq]; exact List.getElem_mem _
      rw [← ep, ← eq] at hp
      have ne : p ≠ q := by
        have := asc_get aM (show i < M.length by omega) hi (by omega)
        rw [← ep, ← eq] at this
        exact fun z => List.lt_irrefl _ (z ▸ this)
      have lp := (lw p mp).1
      have lq := (lw q mq).1
      have sh := seen_short (wM q mq) (wM p mp) hp ne
      have i1 := sq.ix hi
      have i2 := sq.ix (i := i) (by omega)
      rw [← eq] at i1
      rw [← ep] at i2
      refine run_seq (run_setM' (p_call (p_cons (p_ix (p_var rfl) (p_var rfl) (ixM_ix i1)) (p_cons (p_ix (p_var rfl) (p_e2 (p_var rfl) p_c (subD_succ i)) (ixM_ix i2)) p_nil)) (seenIn_ok (wM q mq).ne (wM q mq).ad (wM p mp).ad (by omega) (by omega))) ?_)
      have hz : M.length ≤ 1000 := by omega
      have eM' : M = (u ++ [p]) ++ q :: v := by rw [eM]; simp
      have z1 : M.take (i + 1) = u ++ [p] := by
        rw [eM']
        exact List.take_left' (by simp; omega)
      have z2 : M.drop (i + 1 + 1) = v := by
        have : M = (u ++ [p] ++ [q]) ++ v := by rw [eM]; simp
        rw [this]
        exact List.drop_left' (by simp; omega)
      have s1 : slD (.list (txts M)) none (some ((i + 1 : Nat) : Int)) = some (.list (txts (u ++ [p]))) := by
        show some (PyData.list (cutL (txts M) none (some ((i + 1 : Nat) : Int)))) = _
        rw [cut_to, txts_take, z1]
      have s2 : slD (.list (txts M)) (some ((i + 1 + 1 : Nat) : Int)) none = some (.list (txts v)) := by
        show some (PyData.list (cutL (txts M) (some ((i + 1 + 1 : Nat) : Int)) none)) = _
        rw [cut_from, txts_drop, z2]
      have lM2 : M.length = u.length + 2 + v.length := by rw [eM]; simp; omega
      have a1 : addD (.list (txts (u ++ [p]))) (.list [.str (S (seenL q p))]) = some (.list (txts (u ++ [p] ++ [seenL q p]))) := by
        have : ([PyData.str (S (seenL q p))] : List D) = txts [seenL q p] := rfl
        rw [this, addD_list (by rw [txts_len, txts_len]; simp; omega), txts_app]
      have a2 : addD (.list (txts (u ++ [p] ++ [seenL q p]))) (.list (txts v)) = some (.list (txts ((u ++ [p]) ++ seenL q p :: v))) := by
        rw [addD_list (by rw [txts_len, txts_len]; simp; omega), txts_app]
        simp
      have ln : ((u ++ [p]) ++ seenL q p :: v).length = M.length := by rw [lM2]; simp; omega
      refine run_seq (run_setM' (p_A1 (p_e2 (p_e2 (p_sl (p_var rfl) rfl (p_so (p_var rfl)) s1) (p_lst (p_cons (p_var rfl) p_nil) (show (1 : Nat) ≤ 1000000 by decide)) a1) (p_sl (p_var rfl) (p_so (p_addN (p_var rfl) p_c)) rfl s2) a2) (sortSet_txts (.inr rfl) (by omega))) ?_)
      have l1 := sortN_len ((u ++ [p]) ++ seenL q p :: v)
      obtain ⟨d', e', h'⟩ := fb_ok (bx := b) (x := .list (txts (sortN ((u ++ [p]) ++ seenL q p :: v)))) (.inr rfl) (show (sortN ((u ++ [p]) ++ seenL q p :: v)).length ≤ 100000 by omega)
      refine run_setM' (p_call (p_cons (p_var rfl) p_nil) e') ⟨tot (sortN ((u ++ [p]) ++ seenL q p :: v)), ?_, rfl, _, d', _, rfl, Nat.le_refl _, sortN_asc _, ?_, ?_, ?_, by omega, h'⟩
      · have t1 := sortN_tot ((u ++ [p]) ++ seenL q p :: v)
        have t2 := tot_split (u ++ [p]) v (seenL q p)
        have t3 := tot_split (u ++ [p]) v q
        rw [← eM'] at t3
        omega
      · intro w h
        rcases List.mem_append.mp (sortN_mem.mp h) with h | h
        · exact wM w (by rw [eM']; exact List.mem_append_left _ h)
        · rcases List.mem_cons.mp h with rfl | h
          · exact (wM q mq).seen
          · exact wM w (by rw [eM']; exact List.mem_append_right _ (List.mem_cons_of_mem _ h))
      · intro w
        have k := cl_swap (u := u ++ [p]) (v := v) (a := q) (b := p) (by rw [← eM']; exact wM) (by simp) w
        rw [← eM'] at k
        exact (Iff.trans ⟨Cl.trans fun x h => .base (sortN_mem.mp h), Cl.trans fun x h => .base (sortN_mem.mpr h)⟩ k).trans (cM w)
      · intro n hn' m' hm'
        rcases List.mem_append.mp (sortN_mem.mp hm') with h | h
        · exact lM n hn' m' (by rw [eM']; exact List.mem_append_left _ h)
        · rcases List.mem_cons.mp h with rfl | h
          · obtain ⟨q1, q2⟩ := lM n hn' q mq
            obtain ⟨p1, p2⟩ := lM n hn' p mp
            exact ⟨by omega, .step q2 p2 (by omega)⟩
          · exact lM n hn' m' (by rw [eM']; exact List.mem_append_right _ (List.mem_cons_of_mem _ h))
  obtain ⟨d, b, e, rfl, M, rfl, h⟩ := r
  exact ⟨M, e, h⟩
theorem makers_is {x : D} {ws M : List (List Nat)} {bx : Bx} (hx : Seqs x ws) (hw : AllWy ws) (hn : ws.length ≤ 1000) (hl : ∀ w ∈ ws, w.length ≤ 10000) (ht : tot ws < 90000) (ha : Asc M) (hp : PreFree M) (hM : AllWy M) (hc : ∀ w, Cl M w ↔ Cl ws w) : makersF [x] bx = some (.tuple (txts M), bx) := by
  obtain ⟨V, e, h⟩ := makers_ok (bx := bx) hx hw hn hl ht
  rw [h.one ha hp hM hc, e]
end MD
end

section
set_option Elab.async false
set_option linter.all false
set_option maxRecDepth 100000
/-! Mth23: the laws' own families: drawn ways, doors by seeing, the first ones. -/
namespace MD
open PySem L2

theorem pushes_in : ∀ (l st : List Nat) {c : Nat}, c ∈ pushes st l → c ∈ st ∨ c ∈ l
  | [], st, c, h => .inl h
  | x :: l, st, c, h => by
    rcases pushes_in l (push st x) h with h | h
    · unfold push at h
      cases st with
      | nil => right; simpa using Or.inl (by simpa using h)
      | cons y r =>
        by_cases e : y = x
        · simp [e] at h
          exact .inl (List.mem_cons_of_mem _ h)
        · simp [e] at h
          rcases h with h | h | h
          · right; simp [h]
          · left; simp [h]
          · left; simp [h]
    · exact .inr (List.mem_cons_of_mem _ h)
theorem red_in {l : List Nat} {c : Nat} (h : c ∈ redL l) : c ∈ l := by
  unfold redL at h
  rw [List.mem_reverse] at h
  exact (pushes_in l [] h).elim (fun z => (List.not_mem_nil z).elim) id
theorem pal_in {w : List Nat} {c : Nat} (h : c ∈ palL w) : c ∈ w := by
  unfold palL at h
  rcases List.mem_append.mp h with h | h
  · exact h
  · have h := List.mem_reverse.mp h
    rw [List.dropLast_eq_take] at h
    exact List.mem_of_mem_take h
theorem seen_in_letters {a b : List Nat} {c : Nat} (h : c ∈ seenL a b) : c ∈ a ∨ c ∈ b := by
  unfold seenL halfL at h
  have h := red_in (List.mem_of_mem_take h)
  rcases List.mem_append.mp h with h | h
  · rcases List.mem_append.mp h with h | h
    · exact .inr (pal_in h)
    · exact .inl (pal_in h)
  · exact .inr (pal_in h)
theorem Cl.letters {W : List (List Nat)} {A : List Nat} (hA : ∀ w ∈ W, ∀ c ∈ w, c ∈ A) {w : List Nat} (h : Cl W w) : ∀ c ∈ w, c ∈ A := by
  induction h with
  | base h => exact hA _ h
  | step _ _ i j => exact fun c hc => (seen_in_letters hc).elim (i c) (j c)
theorem ClL.short {W : List (List Nat)} {n : Nat} (h0 : ∀ w ∈ W, w.length ≤ n) {w : List Nat} (h : ClL W n w) : w.length ≤ n := by
  cases h with
  | base h => exact h0 _ h
  | step _ _ l => exact l
/-- all words of so many letters at most -/
def allW (A : List Nat) : Nat → List (List Nat)
  | 0 => [[]]
  | n + 1 => [] :: A.flatMap fun c => (allW A n).map fun w => c :: w
theorem allW_mem {A : List Nat} : ∀ {n : Nat} {w : List Nat}, (∀ c ∈ w, c ∈ A) → w.length ≤ n → w ∈ allW A n
  | 0, [], _, _ => List.mem_cons_self
  | 0, x :: w, _, h => by simp at h
  | n + 1, [], _, _ => List.mem_cons_self
  | n + 1, x :: w, ha, h => by
    refine List.mem_cons_of_mem _ (List.mem_flatMap.mpr ⟨x, ha x List.mem_cons_self, List.mem_map.mpr ⟨w, allW_mem (fun c hc => ha c (List.mem_cons_of_mem _ hc)) (by simpa using h), rfl⟩⟩)

/-! ### ways drawn -/
theorem way_ok2 {m : Nat} {bx : Bx} {many : Nat} {lg : Nat} (h2 : 2 ≤ many) (hl : lg ≤ 10000) (h1 : 1 ≤ lg) (g : Good (m + lg + 2) bx) : Run (wayF [boxD, .int many, .int lg]) bx fun d b => ∃ a, d = .str (S a) ∧ Row many a ∧ a ≠ [] ∧ a.length ≤ lg ∧ Good m b := by
  refine run_F rfl (run_seq (run_setM (run_call' (p_cons (p_var rfl) (p_cons (p_var rfl) (p_cons (p_var rfl) p_nil))) ?_)))
  refine (row_ok (m := m + 1) h2 hl (g.mono (by omega))).mono fun d b ⟨a, e, ra, la, gb⟩ => ?_
  subst e
  rw [emp]
  refine run_rt (run_eIf (Run.of (p_tOf (p_e2 (p_var rfl) p_c neD_str) rfl) ?_))
  by_cases c : a = []
  · subst c
    rw [if_neg (by simp)]
    refine run_call' (p_cons (p_var rfl) (p_cons (p_letters rfl) p_nil)) ?_
    refine (of_str (m := m) (L8_ne (by omega)) (Nat.le_trans (L8_le many) (by decide)) gb).mono fun d b ⟨c, hc, e, gb⟩ => ?_
    refine ⟨[c], e, ⟨rfl, fun x hx => ?_⟩, by simp, by simpa using h1, gb⟩
    have : x = c := by simpa using hx
    rw [this]
    exact hc
  · rw [if_pos (by simpa using c)]
    exact Pu.run (p_var rfl) ⟨a, rfl, ra, c, la, gb.mono (by omega)⟩
/-- drawn ways: a set -/
structure Lot (many n k : Nat) (ws : List (List Nat)) : Prop where
  row : ∀ w ∈ ws, Row many w
  ne : ∀ w ∈ ws, w ≠ []
  le : ∀ w ∈ ws, w.length ≤ n
  no : ws.length ≤ k
  asc : Asc ws
theorem Lot.wy {many n k : Nat} {ws : List (List Nat)} (h : Lot many n k ws) : AllWy ws := fun w hw => ⟨h.ne w hw, (h.row w hw).ad⟩
theorem tot_le {n : Nat} : ∀ {ws : List (List Nat)}, (∀ w ∈ ws, w.length ≤ n) → tot ws ≤ n * ws.length
  | [], _ => by simp [tot]
  | w :: ws, h => by
    have h1 := tot_le (ws := ws) fun x hx => h x (List.mem_cons_of_mem _ hx)
    have h2 := h w List.mem_cons_self
    have e : tot (w :: ws) = w.length + tot ws := by simp [tot]
    rw [e, List.length_cons, Nat.mul_add, Nat.mul_one]
    omega
def lotB : Sf := sSeq (sSetM [] 4 (eLc [5] (setN 5) (iArgs rangeD (aCons (eCall takeF (aCons (eVar 0) (aCons (e2 addD (eVar 2) (eC (.int 1))) (aNil)))) (aNil))) (tYesF) (eCall wayF (aCons (eVar 0) (aCons (eVar 1) (aCons (eVar 3) (aNil)))))))
  (sRet (eA tupFD (aCons (eA sortSetFD (aCons (eVar 4) aNil)) (aNil))))
def lotF : Ff := mkF 4 6 lotB
theorem lot_ok {m : Nat} {bx : Bx} {many k lg : Nat} (h2 : 2 ≤ many) (hl : lg ≤ 1000) (h1 : 1 ≤ lg) (hk : k ≤ 1000) (g : Good (m + 1 + k * (lg + 2)) bx) : Run (lotF [boxD, .int many, .int k, .int lg]) bx fun d b => ∃ ws, d = .tuple (txts ws) ∧ Lot many lg k ws ∧ Good m b := by
  refine run_F rfl (run_seq (run_setM (run_lc (run_its (run_one ?_)))))
  refine run_take (m := m + k * (lg + 2)) (n := k + 1) rfl (by omega) (by omega) (by rw [show m + k * (lg + 2) + 1 = m + 1 + k * (lg + 2) by omega]; exact g) (p_addN (p_var rfl) p_c) fun r b hr gb => ?_
  refine ⟨_, rangeD1 (by omega) (by omega), by rw [rangeItems_len]; exact sz (by omega), ?_⟩
  rw [Int.toNat_natCast]
  refine (run_compL (fun i b => Good (m + (k - i) * (lg + 2)) b) (fun y => ∃ w, y = .str (S w) ∧ (Row many w ∧ w ≠ [] ∧ w.length ≤ lg)) (rangeItems 0 r) 0 b gb fun i d b hd hg => ?_).mono fun ys b' ⟨q1, q2, q3⟩ => ?_
  · obtain ⟨rfl, hi⟩ := rangeItems_get hd
    rw [Nat.zero_add] at hg ⊢
    refine ⟨_, rfl, rfl, ?_⟩
    have hki : (k - i) * (lg + 2) = (k - (i + 1)) * (lg + 2) + (lg + 2) := by
      obtain ⟨t, ht⟩ : ∃ t, k - i = t + 1 := ⟨k - i - 1, by omega⟩
      have : k - (i + 1) = t := by omega
      rw [ht, this, Nat.add_mul, Nat.one_mul]
    refine run_call' (p_cons (p_var rfl) (p_cons (p_var rfl) (p_cons (p_var rfl) p_nil))) ?_
    refine (way_ok2 (m := m + (k - (i + 1)) * (lg + 2)) h2 (by omega) h1 (by rw [hki] at hg; exact hg.mono (by omega))).mono fun d b ⟨w, e, h1, h2, h3, gb⟩ => ⟨⟨w, e, h1, h2, h3⟩, gb⟩
  · obtain ⟨ws, rfl, hp⟩ := list_txts q2
    rw [rangeItems_len] at q1 q3
    rw [txts_len] at q1
    have hp' : ∀ w ∈ sortN ws, Row many w ∧ w ≠ [] ∧ w.length ≤ lg := fun w h => hp w (sortN_mem.mp h)
    have := sortN_len ws
    refine run_rt' (p_A1 (p_A1 (p_var rfl) (sortSet_txts (.inr rfl) (by omega))) rfl) ⟨sortN ws, rfl, ⟨fun w h => (hp' w h).1, fun w h => (hp' w h).2.1, fun w h => (hp' w h).2.2, by omega, sortN_asc ws⟩, q3.mono (by omega)⟩

/-! ### sorted lists of texts -/
theorem leD0_str (a b : List Nat) : leD0 (.str (S a)) (.str (S b)) = leN a b := by
  have := congrFun (congrFun (PySem.W.dataLe_str (β := List Nat) (fun l => S l)) a) b
  have h : leD0 (.str (S a)) (.str (S b)) = PySem.W.dataLe false (fun l : List Nat => PyData.str (S l)) a b := rfl
  rw [h, this]
  rfl
theorem okSort_txts (ws : List (List Nat)) : okSort (txts ws) = true := by
  unfold okSort
  have h1 : allAlikeB (txts ws) = true := by
    unfold allAlikeB txts
    simp only [List.all_map, List.all_eq_true]
    intro a _
    simp only [Function.comp, List.all_eq_true]
    intro b _
    rfl
  have h2 : sortableB (txts ws) = true := by
    unfold sortableB txts
    rw [Bool.or_eq_true]
    right
    simp only [List.all_map, List.all_eq_true]
    intro a _
    rfl
  have h3 : noDictA (txts ws) = true := noDict_txts ws
  have h4 : ((txts ws).all fun d => decide (d.depth ≤ 60)) = true := by
    unfold txts
    simp only [List.all_map, List.all_eq_true]
    intro a _
    exact decide_eq_true (Nat.le_trans (show PyData.depth (.str (S a)) ≤ 1 by unfold PyData.depth; omega) (by decide : 1 ≤ 60))
  rw [h1, h2, h3, h4]
  rfl
theorem sort_txts (ws : List (List Nat)) : sortFD [.list (txts ws)] = some (.list (txts (ws.mergeSort leN))) := by
  show sortL (txts ws) = _
  unfold sortL
  rw [if_pos (okSort_txts ws)]
  congr 2
  unfold txts
  exact (List.map_mergeSort fun a _ b _ => (leD0_str a b).symm).symm
theorem msort_asc {ws : List (List Nat)} (h : ws.Nodup) : Asc (ws.mergeSort leN) := by
  have nd : (ws.mergeSort leN).Nodup := (List.mergeSort_perm _ _).symm.nodup h
  have so : (ws.mergeSort leN).Pairwise (fun x y => leN x y = true) := List.pairwise_mergeSort (le := leN) (fun x y z h1 h2 => by
    unfold leN at *
    exact decide_eq_true (List.le_trans (of_decide_eq_true h1) (of_decide_eq_true h2))) (fun x y => by
    unfold leN
    rcases List.le_total x y with h | h
    · rw [decide_eq_true h]; rfl
    · rw [decide_eq_true h]; simp) ws
  refine List.Pairwise.imp (fun {a b} (h : leN a b = true ∧ a ≠ b) => ?_) (so.and nd)
  rcases List.le_iff_lt_or_eq.mp (of_decide_eq_true h.1) with l | e
  · exact l
  · exact (h.2 e).elim

/-! ### rules of own lists -/
section
variable {env : Ev} {bx : Bx} {Q : Fl → Bx → Prop}
theorem run_popT {i : Nat} {set : D → Ev → Option Ev} {ds : List D} {d : D} {e : Ev} (hl : env[i]? = some (some (.list ds))) (hd : ds.getLast? = some d) (hs : set d (env.set i (some (.list ds.dropLast))) = some e) (q : Q (.nx e) bx) : Run (sPopT i set env) bx Q :=
  run_bnd (run_opt (by unfold getL; rw [hl]) (run_bnd (run_opt hd (run_bnd (run_opt hs (run_ret q))))))
theorem run_setOV {i : Nat} {a : Ef} {ds : List D} (h : Pu a env bx (.list ds)) (hi : i < env.length) (hf : flatA ds = true) (q : Q (.nx (env.set i (some (.list ds)))) bx) : Run (sSetOV i a env) bx Q :=
  run_bnd ⟨_, _, h, by
    show Run (if i < env.length ∧ flatA ds = true then _ else _) bx Q
    rw [if_pos ⟨hi, hf⟩]
    exact run_ret q⟩
theorem run_forF {set : D → Ev → Option Ev} {a : Ef} {body : Sf} {ds : List D} (h : Pu a env bx (.list ds)) (hf : flatA ds = true) (q : Run (forL set body ds env) bx Q) : Run (sForF set a body env) bx Q :=
  run_bnd ⟨_, _, h, by
    show Run (if flatA ds = true then _ else _) bx Q
    rw [if_pos hf]
    exact q⟩
end
theorem flatA_txts : ∀ ws : List (List Nat), flatA (txts ws) = true
  | [] => rfl
  | w :: ws => by
    have := flatA_txts ws
    simp only [txts] at this
    simp [txts, flatA, this, flat]
theorem eqv_str (a b : List Nat) : PyData.eqv (.str (S a)) (.str (S b)) = decide (a = b) := by
  have hs : (S a = S b) ↔ a = b := S_inj
  by_cases h : a = b <;> simp [PyData.eqv, h, hs]
theorem allFlat_txts (ws : List (List Nat)) : (txts ws).all flatS = true := by
  unfold txts
  simp only [List.all_map, List.all_eq_true]
  intro a _
  rfl
theorem inItems_txts (a : List Nat) (ws : List (List Nat)) : inItems (.str (S a)) (txts ws) = decide (a ∈ ws) := by
  unfold inItems txts
  rw [List.any_map]
  have : (ws.any ((fun y => PyData.eqv y (.str (S a))) ∘ fun l => PyData.str (S l))) = ws.any fun w => decide (w = a) := by
    congr 1
    funext w
    exact eqv_str w a
  rw [this]
  by_cases h : a ∈ ws
  · rw [decide_eq_true h, List.any_eq_true]
    exact ⟨a, h, decide_eq_true rfl⟩
  · rw [decide_eq_false h, List.any_eq_false]
    intro x hx z
    exact h (of_decide_eq_true z ▸ hx)
theorem inB_txts {x : D} {a : List Nat} {ws : List (List Nat)} (h : Seqs x ws) : inB (.str (S a)) x = some (decide (a ∈ ws)) := by
  have k : (if (flatS (.str (S a)) && (txts ws).all flatS) = true then some (inItems (.str (S a)) (txts ws)) else none) = some (decide (a ∈ ws)) := by
    rw [allFlat_txts, inItems_txts]
    rfl
  rcases h with rfl | rfl <;> exact k
theorem inD_txts {x : D} {a : List Nat} {ws : List (List Nat)} (h : Seqs x ws) : inD (.str (S a)) x = some (.bool (decide (a ∈ ws))) := by
  unfold inD
  rw [inB_txts h]
  rfl
theorem ninD_txts {x : D} {a : List Nat} {ws : List (List Nat)} (h : Seqs x ws) : ninD (.str (S a)) x = some (.bool (!decide (a ∈ ws))) := by
  unfold ninD
  rw [inB_txts h]
  rfl

/-! ### all doors of a family, by seeing -/
def closedB : Sf := sSeq (sSetO [] 2 (eA sortSetFD (aCons (eVar 0) aNil)))
  (sSeq (sSetOV 3 (eA listAD (aCons (eVar 2) (aNil))))
  (sSeq (whileF (tOf (e2 neD (eVar 3) (eA gLst (aNil))))
  (sSeq (sPopT 3 (setN 4))
  (sForF (setN 5) (eA listAD (aCons (eVar 2) (aNil)))
  (sFor [3, 2] (setN 6) (iOf itemsD (eA gTup (aCons (eCall lseenF (aCons (eVar 4) (aCons (eVar 5) (aNil)))) (aCons (eCall lseenF (aCons (eVar 5) (aCons (eVar 4) (aNil)))) (aNil)))))
  (sIf (tAn (tOf (e2 leD (eA lenD (aCons (eVar 6) (aNil))) (eVar 1))) (tOf (e2 ninD (eVar 6) (eVar 2))))
  (sSeq (sApp [3, 2] false 2 (eVar 6))
  (sApp [3, 2] false 3 (eVar 6)))
  (sNil))))) 100000)
  (sRet (eA sortFD (aCons (eVar 2) (aNil))))))
def closedF : Ff := mkF 2 7 closedB
structure CS (W U : List (List Nat)) (n : Nat) (F E : List (List Nat)) : Prop where
  nd : F.Nodup
  un : ∀ x ∈ F, x ∈ U
  cl : ∀ x ∈ F, ClL W n x
  sub : ∀ x ∈ E, x ∈ F
  base : ∀ w ∈ W, w ∈ F
theorem CS.len {W U F E : List (List Nat)} {n : Nat} (h : CS W U n F E) : F.length ≤ U.length := h.nd.length_le_of_subset fun x hx => h.un x hx
def mea (U F E : List (List Nat)) : Nat := 2 * (U.length - F.length) + E.length
/-- what one turn of the two inner loops has come to -/
structure CT (W U : List (List Nat)) (n : Nat) (F0 E0 : List (List Nat)) (mm : Nat) (F E : List (List Nat)) : Prop where
  cs : CS W U n F E
  f0 : ∀ x ∈ F0, x ∈ F
  e0 : ∀ x ∈ E0, x ∈ E
  new : ∀ x ∈ F, x ∈ F0 ∨ x ∈ E
  me : mea U F E ≤ mm
theorem CT.add {W U F0 E0 F E : List (List Nat)} {n mm : Nat} (h : CT W U n F0 E0 mm F E) {s : List Nat} (hs : ClL W n s) (hu : s ∈ U) (hn : s ∉ F) : CT W U n F0 E0 mm (F ++ [s]) (E ++ [s]) := by
  have nd' : (F ++ [s]).Nodup := by
    rw [List.nodup_append]
    refine ⟨h.cs.nd, by simp, fun a ha b hb e => hn ?_⟩
    have : b = s := by simpa using hb
    rw [← this, ← e]
    exact ha
  have c' : CS W U n (F ++ [s]) (E ++ [s]) := ⟨nd', fun x hx => by
      rcases List.mem_append.mp hx with hx | hx
      · exact h.cs.un x hx
      · have : x = s := by simpa using hx
        rw [this]; exact hu, fun x hx => by
      rcases List.mem_append.mp hx with hx | hx
      · exact h.cs.cl x hx
      · have : x = s := by simpa using hx
        rw [this]; exact hs, fun x hx => by
      rcases List.mem_append.mp hx with hx | hx
      · exact List.mem_append_left _ (h.cs.sub x hx)
      · exact List.mem_append_right _ hx, fun w hw => List.mem_append_left _ (h.cs.base w hw)⟩
  refine ⟨c', fun x hx => List.mem_append_left _ (h.f0 x hx), fun x hx => List.mem_append_left _ (h.e0 x hx), fun x hx => ?_, ?_⟩
  · rcases List.mem_append.mp hx with hx | hx
    · exact (h.new x hx).imp id (List.mem_append_left _)
    · exact .inr (List.mem_append_right _ hx)
  · have := c'.len
    have := h.me
    unfold mea at *
    simp only [List.length_append, List.length_cons, List.length_nil] at *
    omega
theorem closed_ok {x : D} {W U : List (List Nat)} {n : Nat} {bx : Bx} (hx : Seqs x W) (hw : AllWy W) (h0 : ∀ w ∈ W, w.length ≤ n) (hn : n ≤ 1000) (hN : W.length ≤ 1000) (hU : ∀ x, ClL W n x → x ∈ U) (uU : U.length ≤ 10000) (hO : ∀ x, ClL W n x → ∀ c ∈ x, c < 1114112) :
    ∃ C, closedF [x, .int n] bx = some (.list (txts C), bx) ∧ Asc C ∧ ∀ w, w ∈ C ↔ ClL W n w := by
  have r : Run (closedF [x, .int n]) bx fun d b => b = bx ∧ ∃ C, d = .list (txts C) ∧ Asc C ∧ ∀ w, w ∈ C ↔ ClL W n w := by
    have l0 := sortN_len W
    refine run_F rfl (run_seq (run_setO (show (2 : Nat) < 7 by decide) (Pu.run (p_A1 (p_var rfl) (sortSet_txts hx (by omega))) ?_)))
    refine run_seq (run_setOV (ds := txts (sortN W)) (p_A1 (p_var rfl) rfl) (show (3 : Nat) < 7 by decide) (flatA_txts _) ?_)
    have start : CS W U n (sortN W) (sortN W) := ⟨(sortN_asc W).nodup, fun x h => hU x (.base (sortN_mem.mp h)), fun x h => .base (sortN_mem.mp h), fun x h => h, fun w h => sortN_mem.mpr h⟩
    have sl := start.len
    refine run_seq (run_while (fun m env b => b = bx ∧ ∃ F E d4 d5 d6, env = [some x, some (.int n), some (.list (txts F)), some (.list (txts E)), d4, d5, d6] ∧ CS W U n F E ∧ (mea U F E ≤ m ∧ m ≤ 40000) ∧
      ∀ p ∈ F, ∀ q ∈ F, p ∉ E → q ∉ E → (seenL p q).length ≤ n → seenL p q ∈ F) ?_ 100000 (mea U (sortN W) (sortN W)) _ _ (by unfold mea; omega) ⟨rfl, sortN W, sortN W, none, none, none, rfl, start, ⟨Nat.le_refl _, by unfold mea; omega⟩, fun p hp q _ hn => (hn hp).elim⟩)
    rintro m env b ⟨rfl, F, E, d4, d5, d6, rfl, cs, ⟨me, m4⟩, ck⟩
    have okE : Okl E := fun l hl => hO l (cs.cl l (cs.sub l hl))
    refine run_tOf (Pu.run (p_e2 (p_var rfl) (p_lst (ds := []) p_nil (show (0 : Nat) ≤ 1000000 by decide)) (neD_txts (b := []) okE (fun l h => (List.not_mem_nil h).elim))) ⟨_, rfl, ?_⟩)
    by_cases hE : E = []
    · subst hE
      rw [if_neg (by simp)]
      refine run_rt' (p_A1 (p_var rfl) (sort_txts F)) ⟨rfl, _, rfl, msort_asc cs.nd, fun w => ?_⟩
      rw [List.mem_mergeSort]
      constructor
      · exact cs.cl w
      · intro h
        induction h with
        | base h => exact cs.base _ h
        | step _ _ l i j => exact ck _ i _ j (fun z => (List.not_mem_nil z).elim) (fun z => (List.not_mem_nil z).elim) l
    · rw [if_pos (by simpa using hE)]
      obtain ⟨E0, mine, rfl⟩ : ∃ r a, E = r ++ [a] := ⟨E.dropLast, E.getLast hE, (List.dropLast_concat_getLast hE).symm⟩
      have hm : mine ∈ F := cs.sub _ (by simp)
      have tl : txts (E0 ++ [mine]) = txts E0 ++ [.str (S mine)] := (txts_app E0 [mine]).symm
      refine run_seq (run_popT (ds := txts (E0 ++ [mine])) (d := .str (S mine)) (e := [some x, some (.int n), some (.list (txts F)), some (.list (txts E0)), some (.str (S mine)), d5, d6]) rfl (by rw [tl, List.getLast?_concat]) (by rw [tl, List.dropLast_concat]; rfl) ?_)
      have wyF : ∀ {y : List Nat}, ClL W n y → Wy y := fun h => h.cl.wy hw
      have shF : ∀ {y : List Nat}, ClL W n y → y.length ≤ n := fun h => h.short h0
      have cs0 : CS W U n F E0 := ⟨cs.nd, cs.un, cs.cl, fun y h => cs.sub y (List.mem_append_left _ h), cs.base⟩
      have ml := shF (cs.cl mine hm)
      have me0 : mea U F E0 + 1 ≤ m := by
        unfold mea at *
        simp only [List.length_append, List.length_cons, List.length_nil] at me
        omega
      refine run_forF (ds := txts F) (p_A1 (p_var rfl) rfl) (flatA_txts F) ?_
      refine run_forL' (fun i env c => c = b ∧ ∃ F1 E1 d5 d6, env = [some x, some (.int n), some (.list (txts F1)), some (.list (txts E1)), some (.str (S mine)), d5, d6] ∧ CT W U n F E0 (mea U F E0) F1 E1 ∧
        ∀ q ∈ F.take i, ((seenL mine q).length ≤ n → seenL mine q ∈ F1) ∧ ((seenL q mine).length ≤ n → seenL q mine ∈ F1)) ⟨rfl, F, E0, d5, d6, rfl, ⟨cs0, fun y h => h, fun y h => h, fun y h => .inl h, Nat.le_refl _⟩, fun q h => by simp at h⟩ ?_ ?_
      · rintro i d env c hd ⟨rfl, F1, E1, e5, e6, rfl, ct, cv⟩
        obtain ⟨its, hi, rfl⟩ := txts_get hd
        have itsF : its ∈ F := List.mem_of_getElem? hi
        have il := shF (cs.cl its itsF)
        refine ⟨_, rfl, ?_⟩
        have sq : iOf itemsD (eA gTup (aCons (eCall lseenF (aCons (eVar 4) (aCons (eVar 5) (aNil)))) (aCons (eCall lseenF (aCons (eVar 5) (aCons (eVar 4) (aNil)))) (aNil)))) (maskE [3, 2] [some x, some (.int n), some (.list (txts F1)), some (.list (txts E1)), some (.str (S mine)), some (.str (S its)), e6]) c = some (txts [seenL mine its, seenL its mine], c) :=
          p_of (p_tup (p_cons (p_call (p_cons (p_var rfl) (p_cons (p_var rfl) p_nil)) (lseen_ok (by omega) (by omega))) (p_cons (p_call (p_cons (p_var rfl) (p_cons (p_var rfl) p_nil)) (lseen_ok (by omega) (by omega))) p_nil)) (show (2 : Nat) ≤ 1000000 by decide)) (itemsD_tup _)
        refine run_for (Run.of sq ?_)
        refine run_forL' (fun j env c' => c' = c ∧ ∃ F2 E2 d6, env = [some x, some (.int n), some (.list (txts F2)), some (.list (txts E2)), some (.str (S mine)), some (.str (S its)), d6] ∧ CT W U n F E0 (mea U F E0) F2 E2 ∧ (∀ y ∈ F1, y ∈ F2) ∧
          ∀ s ∈ [seenL mine its, seenL its mine].take j, s.length ≤ n → s ∈ F2) ⟨rfl, F1, E1, e6, rfl, ct, fun y h => h, fun s h => by simp at h⟩ ?_ ?_
        · rintro j d env c' hd ⟨rfl, F2, E2, e6, rfl, ct2, up, cv2⟩
          obtain ⟨s, hs, rfl⟩ := txts_get hd
          have sm : s ∈ [seenL mine its, seenL its mine] := List.mem_of_getElem? hs
          have sw : Cl W s := by
            simp only [List.mem_cons, List.not_mem_nil, or_false] at sm
            rcases sm with rfl | rfl
            · exact .step (cs.cl mine hm).cl (cs.cl its itsF).cl
            · exact .step (cs.cl its itsF).cl (cs.cl mine hm).cl
          have slen : s.length ≤ 10000 := by
            have a1 := seen_le (one := mine) (other := its) (wyF (cs.cl mine hm)).ne
            have a2 := seen_le (one := its) (other := mine) (wyF (cs.cl its itsF)).ne
            simp only [List.mem_cons, List.not_mem_nil, or_false] at sm
            rcases sm with rfl | rfl <;> omega
          have sL : s.length ≤ n → ClL W n s := fun l => by
            simp only [List.mem_cons, List.not_mem_nil, or_false] at sm
            rcases sm with rfl | rfl
            · exact .step (cs.cl mine hm) (cs.cl its itsF) l
            · exact .step (cs.cl its itsF) (cs.cl mine hm) l
          refine ⟨_, rfl, ?_⟩
          have fin : ∀ F3 E3, CT W U n F E0 (mea U F E0) F3 E3 → (∀ y ∈ F2, y ∈ F3) → (s.length ≤ n → s ∈ F3) →
              (∀ t ∈ [seenL mine its, seenL its mine].take (j + 1), t.length ≤ n → t ∈ F3) := fun F3 E3 _ h1 h2 t ht hl => by
            rw [take_snoc hs] at ht
            rcases List.mem_append.mp ht with ht | ht
            · exact h1 t (cv2 t ht hl)
            · have : t = s := by simpa using ht
              subst this
              exact h2 hl
          refine run_sif (run_tAn (Run.of (p_tOf (p_e2 (p_A1 (p_var rfl) (lenD_str (by omega))) (p_var rfl) rfl) rfl) ?_))
          by_cases c1 : (s.length : Int) ≤ (n : Int)
          · rw [if_pos (decide_eq_true c1)]
            have c1 : s.length ≤ n := by omega
            refine Run.of (p_tOf (p_e2 (p_var rfl) (p_var rfl) (ninD_txts (.inr rfl))) rfl) ?_
            by_cases c2 : s ∈ F2
            · rw [decide_eq_true c2, if_neg (by decide)]
              exact run_snil ⟨rfl, F2, E2, _, rfl, ct2, up, fin F2 E2 ct2 (fun y h => h) fun _ => c2⟩
            · rw [decide_eq_false c2, if_pos (by decide)]
              have ct3 := ct2.add (sL c1) (hU s (sL c1)) c2
              have lF := ct2.cs.len
              have lE : E2.length ≤ 100000 := by
                have a1 := ct2.me
                have a2 : E2.length ≤ mea U F2 E2 := by unfold mea; omega
                omega
              refine run_seq (run_app (l := txts F2) rfl (Pu.run (p_var rfl) ⟨⟨fun z => (by cases z), by rw [txts_len]; exact Nat.lt_of_le_of_lt (show F2.length ≤ 1000000 by omega) (by decide)⟩, ?_⟩))
              refine run_app (l := txts E2) rfl (Pu.run (p_var rfl) ⟨⟨fun z => (by cases z), by rw [txts_len]; exact Nat.lt_of_le_of_lt (show E2.length ≤ 1000000 by omega) (by decide)⟩, ?_⟩)
              refine ⟨rfl, F2 ++ [s], E2 ++ [s], some (.str (S s)), ?_, ct3, fun y h => List.mem_append_left _ (up y h), fin _ _ ct3 (fun y h => List.mem_append_left _ h) fun _ => by simp⟩
              rw [← txts_app, ← txts_app]
              rfl
          · rw [if_neg (by simpa using c1)]
            rw [if_neg (by decide)]
            exact run_snil ⟨rfl, F2, E2, _, rfl, ct2, up, fin F2 E2 ct2 (fun y h => h) fun l => (c1 (by omega)).elim⟩
        · rintro env c' ⟨rfl, F2, E2, e6, rfl, ct2, up, cv2⟩
          refine ⟨rfl, F2, E2, _, _, rfl, ct2, fun q hq => ?_⟩
          rw [take_snoc hi] at hq
          rcases List.mem_append.mp hq with hq | hq
          · exact ⟨fun l => up _ ((cv q hq).1 l), fun l => up _ ((cv q hq).2 l)⟩
          · have : q = its := by simpa using hq
            subst this
            exact ⟨fun l => cv2 _ (by simp [txts]) l, fun l => cv2 _ (by simp [txts]) l⟩
      · rintro env c ⟨rfl, F1, E1, e5, e6, rfl, ct, cv⟩
        rw [txts_len, List.take_length] at cv
        refine ⟨m - 1, by omega, rfl, F1, E1, _, _, _, rfl, ct.cs, ⟨by have := ct.me; omega, by omega⟩, fun p hp q hq np nq l => ?_⟩
        have pF : p ∈ F := (ct.new p hp).resolve_right np
        have qF : q ∈ F := (ct.new q hq).resolve_right nq
        by_cases e1 : p = mine
        · subst e1; exact (cv q qF).1 l
        · by_cases e2 : q = mine
          · subst e2; exact (cv p pF).2 l
          · refine ct.f0 _ (ck p pF q qF (fun z => ?_) (fun z => ?_) l)
            · rcases List.mem_append.mp z with z | z
              · exact np (ct.e0 p z)
              · exact e1 (by simpa using z)
            · rcases List.mem_append.mp z with z | z
              · exact nq (ct.e0 q z)
              · exact e2 (by simpa using z)
  obtain ⟨d, b, e, rfl, C, rfl, h⟩ := r
  exact ⟨C, e, h⟩

/-! ### doors that no other one begins -/
def firstB : Sf := sSeq (sSetO [] 1 (eA gLst (aNil)))
  (sSeq (sFor [1] (setN 2) (iOf itemsD (eVar 0))
  (sIf (tOf (e2 eqD (eLc [3] (setN 3) (iOf itemsD (eVar 0)) (tAn (tOf (e2 neD (eVar 3) (eVar 2))) (tOf (e2 eqD (eSl slD (eVar 2) (pNo) (pSo (eA lenD (aCons (eVar 3) (aNil))))) (eVar 3)))) (eVar 3)) (eA gLst (aNil))))
  (sApp [1] false 1 (eVar 2))
  (sNil)))
  (sRet (eA tupFD (aCons (eVar 1) (aNil)))))
def firstF : Ff := mkF 1 4 firstB
def aheadOf (C : List (List Nat)) (c : List Nat) : List (List Nat) := C.filter fun d => !decide (d = c) && decide (c.take d.length = d)
def firstL (C : List (List Nat)) : List (List Nat) := C.filter fun c => decide (aheadOf C c = [])
theorem firstL_mem {C : List (List Nat)} {c : List Nat} : c ∈ firstL C ↔ c ∈ C ∧ ∀ d ∈ C, d <+: c → d = c := by
  unfold firstL aheadOf
  rw [List.mem_filter, decide_eq_true_iff, List.filter_eq_nil_iff]
  constructor
  · rintro ⟨h, k⟩
    refine ⟨h, fun d hd l => ?_⟩
    have := k d hd
    rw [List.prefix_iff_eq_take] at l
    by_cases e : d = c
    · exact e
    · exfalso
      apply this
      rw [decide_eq_false e, decide_eq_true l.symm]
      rfl
  · rintro ⟨h, k⟩
    refine ⟨h, fun d hd z => ?_⟩
    rw [Bool.and_eq_true] at z
    have l : d <+: c := by
      rw [List.prefix_iff_eq_take]
      exact (of_decide_eq_true z.2).symm
    have e := k d hd l
    rw [decide_eq_true e] at z
    exact absurd z.1 (by decide)
theorem txts_filter (p : List Nat → Bool) (P : D → Bool) (h : ∀ l, P (.str (S l)) = p l) (ws : List (List Nat)) : (txts ws).filter P = txts (ws.filter p) := by
  unfold txts
  rw [List.filter_map]
  congr 1
  congr 1
  funext l
  exact h l
theorem firstL_sub {C : List (List Nat)} {n : Nat} : firstL (C.take n) = firstL (C.take n) := rfl
def onT (f : List Nat → Bool) : D → Bool
  | .str x => f (unT x)
  | _ => false
theorem onT_S (f : List Nat → Bool) (l : List Nat) : onT f (.str (S l)) = f l := by
  show f (unT (S l)) = f l
  rw [unT_S]
theorem first_ok {x : D} {C : List (List Nat)} {bx : Bx} (hx : Seqs x C) (hO : Okl C) (hl : ∀ w ∈ C, w.length ≤ 100000) (hC : C.length ≤ 100000) : firstF [x] bx = some (.tuple (txts (firstL C)), bx) := by
  refine fun_ok (run_F rfl (run_seq (run_setO (show (1 : Nat) < 4 by decide) (Pu.run (p_lst (ds := []) p_nil (show (0 : Nat) ≤ 1000000 by decide)) ?_))))
  refine run_seq (run_for (Run.of (p_of (p_var rfl) hx.items) ?_))
  refine run_forL' (fun i env b => b = bx ∧ ∃ d2 d3, env = [some x, some (.list (txts ((C.take i).filter fun c => decide (aheadOf C c = [])))), d2, d3]) ⟨rfl, none, none, rfl⟩ ?_ ?_
  · rintro i d env b hd ⟨rfl, d2, d3, rfl⟩
    obtain ⟨c, hc, rfl⟩ := txts_get hd
    have cm : c ∈ C := List.mem_of_getElem? hc
    have cl := hl c cm
    refine ⟨_, rfl, ?_⟩
    have comp : ∀ E : Ev, E = [some x, some (.list (txts ((C.take i).filter fun c => decide (aheadOf C c = [])))), some (.str (S c)), d3] → Pu (eLc [3] (setN 3) (iOf itemsD (eVar 0)) (tAn (tOf (e2 neD (eVar 3) (eVar 2))) (tOf (e2 eqD (eSl slD (eVar 2) (pNo) (pSo (eA lenD (aCons (eVar 3) (aNil))))) (eVar 3)))) (eVar 3)) E b (.list (txts (aheadOf C c))) := by
      rintro E rfl
      refine p_lc (p_of (p_var rfl) hx.items) (by rw [txts_len]; omega) ?_
      have h := comp_pure (set := setN 3) (tt := tAn (tOf (e2 neD (eVar 3) (eVar 2))) (tOf (e2 eqD (eSl slD (eVar 2) (pNo) (pSo (eA lenD (aCons (eVar 3) (aNil))))) (eVar 3)))) (el := eVar 3) (env0 := maskE [3] [some x, some (.list (txts ((C.take i).filter fun c => decide (aheadOf C c = [])))), some (.str (S c)), d3]) (bx := b)
        (onT fun d => !decide (d = c) && decide (c.take d.length = d)) id (ds := txts C) ?_
      · rw [h, List.map_id, txts_filter _ _ (onT_S _)]
        rfl
      · intro y hy
        obtain ⟨d, hd, rfl⟩ := List.mem_map.mp hy
        have dl := hl d hd
        refine ⟨_, rfl, ?_, fun _ => p_var rfl⟩
        rw [onT_S]
        have t1 : tOf (e2 neD (eVar 3) (eVar 2)) ((maskE [3] [some x, some (.list (txts ((C.take i).filter fun c => decide (aheadOf C c = [])))), some (.str (S c)), d3]).set 3 (some (.str (S d)))) b = some (!decide (d = c), b) := p_tOf (p_e2 (p_var rfl) (p_var rfl) neD_str) rfl
        have t2 : tOf (e2 eqD (eSl slD (eVar 2) (pNo) (pSo (eA lenD (aCons (eVar 3) (aNil))))) (eVar 3)) ((maskE [3] [some x, some (.list (txts ((C.take i).filter fun c => decide (aheadOf C c = [])))), some (.str (S c)), d3]).set 3 (some (.str (S d)))) b = some (decide (c.take d.length = d), b) :=
          p_tOf (p_e2 (p_to (p_var rfl) (p_len (p_var rfl) (by omega)) (by omega)) (p_var rfl) eqD_str) rfl
        show bnd (tOf _ _) _ b = _
        unfold bnd
        rw [t1]
        by_cases e : d = c
        · rw [decide_eq_true e]
          rfl
        · rw [decide_eq_false e]
          exact t2
    have hOa : Okl (aheadOf C c) := fun l h => hO l (List.mem_filter.mp h).1
    refine run_sif' (p_e2 (comp _ rfl) (p_lst (ds := []) p_nil (show (0 : Nat) ≤ 1000000 by decide)) (eqD_txts (b := []) hOa fun l h => (List.not_mem_nil h).elim)) rfl ?_
    rw [take_snoc hc, List.filter_append]
    by_cases e : aheadOf C c = []
    · rw [if_pos (decide_eq_true e)]
      have ln : ((C.take i).filter fun c => decide (aheadOf C c = [])).length ≤ C.length := Nat.le_trans (List.length_filter_le _ _) (by rw [List.length_take]; omega)
      refine run_app (l := txts ((C.take i).filter fun c => decide (aheadOf C c = []))) rfl (Pu.run (p_var rfl) ⟨⟨fun z => (by cases z), by rw [txts_len]; exact Nat.lt_of_le_of_lt (show _ ≤ 1000000 by omega) (by decide)⟩, rfl, some (.str (S c)), d3, ?_⟩)
      rw [← txts_app]
      simp [e]
      try rfl
    · rw [if_neg (by simpa using e)]
      refine run_snil ⟨rfl, some (.str (S c)), d3, ?_⟩
      simp [e]
      try rfl
  · rintro env b ⟨rfl, d2, d3, rfl⟩
    rw [txts_len, List.take_length]
    exact run_rt' (p_A1 (p_var rfl) rfl) ⟨rfl, rfl⟩
theorem firstL_asc {C : List (List Nat)} (h : Asc C) : Asc (firstL C) := List.Pairwise.filter _ h
/-- the due makers -/
theorem due_is {M W C : List (List Nat)} {n : Nat} (h : Mk M W) (h0 : ∀ w ∈ W, w.length ≤ n) (aC : Asc C) (hC : ∀ w, w ∈ C ↔ ClL W n w) : firstL C = M := by
  refine asc_ext (firstL_asc aC) h.asc fun c => ?_
  rw [firstL_mem]
  exact first_makers h.wy h.free h.cl hC (fun m hm => (hC m).mpr (h.le n h0 m hm).2) c

/-! ### the house and its letters -/
def sizes : List (Nat × Nat) := [(2, 5), (2, 6), (3, 3), (3, 4), (4, 2)]
def sizeD : List D := [.tuple [.int 2, .int 5], .tuple [.int 2, .int 6], .tuple [.int 3, .int 3], .tuple [.int 3, .int 4], .tuple [.int 4, .int 2]]
def sizeB : Sf := sRet (eCall ofF (aCons (eVar 0) (aCons (eA gLst (aCons (eA gTup (aCons (eC (.int 2)) (aCons (eC (.int 5)) (aNil)))) (aCons (eA gTup (aCons (eC (.int 2)) (aCons (eC (.int 6)) (aNil)))) (aCons (eA gTup (aCons (eC (.int 3)) (aCons (eC (.int 3)) (aNil)))) (aCons (eA gTup (aCons (eC (.int 3)) (aCons (eC (.int 4)) (aNil)))) (aCons (eA gTup (aCons (eC (.int 4)) (aCons (eC (.int 2)) (aNil)))) (aNil))))))) (aNil))))
def sizeF : Ff := mkF 1 1 sizeB
theorem size_ok {m : Nat} {bx : Bx} (g : Good (m + 1) bx) : Run (sizeF [boxD]) bx fun d b => ∃ many lg : Nat, d = .tuple [.int many, .int lg] ∧ (many, lg) ∈ sizes ∧ Good m b := by
  refine run_F rfl (run_rt (run_call' (xs := [boxD, .list sizeD]) (p_cons (p_var rfl) (p_cons rfl p_nil)) ?_))
  refine (of_list (m := m) (a := sizeD) (by decide) (by decide) g).mono fun d b ⟨hd, g'⟩ => ?_
  unfold sizeD at hd
  simp only [List.mem_cons, List.not_mem_nil, or_false] at hd
  rcases hd with rfl | rfl | rfl | rfl | rfl
  · exact ⟨2, 5, rfl, by decide, g'⟩
  · exact ⟨2, 6, rfl, by decide, g'⟩
  · exact ⟨3, 3, rfl, by decide, g'⟩
  · exact ⟨3, 4, rfl, by decide, g'⟩
  · exact ⟨4, 2, rfl, by decide, g'⟩
theorem sizes_ok : ∀ p ∈ sizes, 2 ≤ p.1 ∧ p.1 ≤ 4 ∧ 1 ≤ p.2 ∧ p.2 ≤ 6 ∧ (allW (L8.take p.1) p.2).length ≤ 1000 := by decide +kernel
theorem L8_ok : ∀ c ∈ L8, c < 1114112 := by decide
theorem mem_L8 {many c : Nat} (h : c ∈ L8.take many) : c ∈ L8 := List.mem_of_mem_take h
theorem Lot.letters {many n k : Nat} {ws : List (List Nat)} (h : Lot many n k ws) {w : List Nat} (c : Cl ws w) : ∀ x ∈ w, x ∈ L8.take many := c.letters fun w hw => (h.row w hw).le
/-- the doors of drawn ways, by seeing -/
theorem closed_lot {x : D} {W : List (List Nat)} {many lg k : Nat} {bx : Bx} (hx : Seqs x W) (h : Lot many lg k W) (hk : k ≤ 1000) (hs : (many, lg) ∈ sizes) :
    ∃ C, closedF [x, .int lg] bx = some (.list (txts C), bx) ∧ Asc C ∧ (∀ w, w ∈ C ↔ ClL W lg w) ∧ C.length ≤ 1000 ∧ (∀ w ∈ C, w.length ≤ 6) ∧ Okl C := by
  obtain ⟨s1, s2, s3, s4, s5⟩ := sizes_ok _ hs
  have s5 : (allW (L8.take many) lg).length ≤ 1000 := s5
  have hU : ∀ y, ClL W lg y → y ∈ allW (L8.take many) lg := fun y c => allW_mem (h.letters c.cl) (c.short h.le)
  obtain ⟨C, e, aC, hC⟩ := closed_ok (bx := bx) hx h.wy h.le (by omega) (by have := h.no; omega) hU (by omega) fun y c z hz => L8_ok z (mem_L8 (h.letters c.cl z hz))
  refine ⟨C, e, aC, hC, ?_, fun w hw => ?_, fun w hw z hz => L8_ok z (mem_L8 (h.letters ((hC w).mp hw).cl z hz))⟩
  · have := aC.nodup.length_le_of_subset fun y hy => hU y ((hC y).mp hy)
    omega
  · have := ((hC w).mp hw).short h.le
    have s4 : lg ≤ 6 := s4
    omega
/-- the makers of drawn ways, by the program -/
theorem makers_lot {x : D} {W : List (List Nat)} {many lg k : Nat} {bx : Bx} (hx : Seqs x W) (h : Lot many lg k W) (hk : k ≤ 1000) (hl : lg ≤ 6) : ∃ M, makersF [x] bx = some (.tuple (txts M), bx) ∧ Mk M W := by
  have t := tot_le h.le
  have n := h.no
  refine makers_ok hx h.wy (by omega) (fun w hw => Nat.le_trans (h.le w hw) (by omega)) ?_
  have : lg * W.length ≤ 6 * 1000 := Nat.mul_le_mul hl (by omega)
  omega
end MD
end

section
set_option Elab.async false
set_option linter.all false
set_option maxRecDepth 100000
/-! Mth24: makers, sorted lists, told fast: for the parts by hand. -/
namespace MD
open PySem L2

def unS : D → Option (List Nat)
  | .str x => some x.cps.toList
  | _ => none
def unSs : List D → Option (List (List Nat))
  | [] => some []
  | d :: ds => match unS d, unSs ds with
    | some a, some r => some (a :: r)
    | _, _ => none
def unSeq : D → Option (List (List Nat))
  | .tuple ds => unSs ds
  | .list ds => unSs ds
  | _ => none
theorem unSs_txts : ∀ {ds : List D} {ws : List (List Nat)}, unSs ds = some ws → ds = txts ws
  | [], ws, h => by cases h; rfl
  | d :: ds, ws, h => by
    unfold unSs at h
    split at h
    · rename_i a r h1 h2
      cases h
      have e := unSs_txts h2
      cases d with
      | str x =>
        have h1 : some x.cps.toList = some a := h1
        cases h1
        rw [e]
        show PyData.str x :: txts r = PyData.str (S x.cps.toList) :: txts r
        rw [← S_of]
      | _ => cases h1
    · cases h
theorem unSeq_seqs {x : D} {ws : List (List Nat)} (h : unSeq x = some ws) : Seqs x ws := by
  cases x with
  | tuple ds => exact .inl (congrArg PyData.tuple (unSs_txts h))
  | list ds => exact .inr (congrArg PyData.list (unSs_txts h))
  | _ => cases h
def ltB : List Nat → List Nat → Bool
  | [], [] => false
  | [], _ :: _ => true
  | _ :: _, [] => false
  | x :: a, y :: b => Nat.blt x y || (Nat.beq x y && ltB a b)
theorem ltB_iff : ∀ a b : List Nat, ltB a b = true ↔ a < b
  | [], [] => by simp [ltB]
  | [], _ :: _ => by simp [ltB]
  | _ :: _, [] => by simp [ltB]
  | x :: a, y :: b => by
    unfold ltB
    rw [Bool.or_eq_true, Bool.and_eq_true, ltB_iff a b, List.cons_lt_cons_iff, Nat.blt_eq, Nat.beq_eq]
def insN (w : List Nat) : List (List Nat) → List (List Nat)
  | [] => [w]
  | x :: r => if ltB w x = true then w :: x :: r else if ltB x w = true then x :: insN w r else x :: r
def isort (l : List (List Nat)) : List (List Nat) := l.foldr insN []
theorem nlt_eq {a b : List Nat} (h1 : ¬ a < b) (h2 : ¬ b < a) : a = b := List.le_antisymm (List.not_lt.mp h2) (List.not_lt.mp h1)
theorem insN_mem {w x : List Nat} : ∀ {l : List (List Nat)}, x ∈ insN w l ↔ x = w ∨ x ∈ l
  | [] => by simp [insN]
  | y :: r => by
    unfold insN
    by_cases c : ltB w y = true
    · rw [if_pos c, List.mem_cons]
    · rw [if_neg c]
      by_cases c2 : ltB y w = true
      · rw [if_pos c2, List.mem_cons, insN_mem (l := r), List.mem_cons]
        exact ⟨fun h => h.elim (fun h => .inr (.inl h)) (fun h => h.elim .inl fun h => .inr (.inr h)), fun h => h.elim (fun h => .inr (.inl h)) (fun h => h.elim .inl fun h => .inr (.inr h))⟩
      · rw [if_neg c2]
        have e : w = y := nlt_eq (fun z => c ((ltB_iff _ _).mpr z)) (fun z => c2 ((ltB_iff _ _).mpr z))
        subst e
        rw [List.mem_cons]
        exact ⟨.inr, fun h => h.elim .inl id⟩
theorem insN_asc {w : List Nat} : ∀ {l : List (List Nat)}, Asc l → Asc (insN w l)
  | [], _ => List.pairwise_singleton _ _
  | y :: r, h => by
    obtain ⟨h1, h2⟩ := List.pairwise_cons.mp h
    unfold insN
    by_cases c : ltB w y = true
    · rw [if_pos c]
      refine List.pairwise_cons.mpr ⟨fun z hz => ?_, h⟩
      have l := (ltB_iff _ _).mp c
      rcases List.mem_cons.mp hz with rfl | hz
      · exact l
      · exact List.lt_trans l (h1 z hz)
    · rw [if_neg c]
      by_cases c2 : ltB y w = true
      · rw [if_pos c2]
        refine List.pairwise_cons.mpr ⟨fun z hz => ?_, insN_asc h2⟩
        rcases insN_mem.mp hz with rfl | hz
        · exact (ltB_iff _ _).mp c2
        · exact h1 z hz
      · rw [if_neg c2]; exact h
theorem isort_mem {x : List Nat} : ∀ {l : List (List Nat)}, x ∈ isort l ↔ x ∈ l
  | [] => Iff.rfl
  | y :: r => by
    show x ∈ insN y (isort r) ↔ _
    rw [insN_mem, isort_mem (l := r), List.mem_cons]
theorem isort_asc : ∀ l : List (List Nat), Asc (isort l)
  | [] => List.Pairwise.nil
  | y :: r => insN_asc (isort_asc r)
theorem isort_sortN (l : List (List Nat)) : isort l = sortN l := asc_ext (isort_asc l) (sortN_asc l) fun x => isort_mem.trans sortN_mem.symm
/-! ### makers -/
def mkStep : List (List Nat) → Option (List (List Nat))
  | a :: b :: r => if List.isPrefixOf a b = true then some (a :: seenL b a :: r) else (mkStep (b :: r)).map (a :: ·)
  | _ => none
def mkN : Nat → List (List Nat) → Option (List (List Nat))
  | 0, _ => none
  | n + 1, l => match mkStep l with
    | none => some l
    | some l' => mkN n (isort l')
theorem mkStep_some : ∀ {l l' : List (List Nat)}, mkStep l = some l' → ∃ u a b v, l = u ++ a :: b :: v ∧ l' = u ++ a :: seenL b a :: v
  | [], _, h => by cases h
  | [_], _, h => by cases h
  | a :: b :: r, l', h => by
    unfold mkStep at h
    by_cases c : List.isPrefixOf a b = true
    · rw [if_pos c] at h
      cases h
      exact ⟨[], a, b, r, rfl, rfl⟩
    · rw [if_neg c] at h
      obtain ⟨l2, h2, rfl⟩ := Option.map_eq_some_iff.mp h
      obtain ⟨u, x, y, v, e1, e2⟩ := mkStep_some h2
      exact ⟨a :: u, x, y, v, by rw [e1]; rfl, by rw [e2]; rfl⟩
theorem mkStep_none : ∀ {l : List (List Nat)}, mkStep l = none → NoNext l
  | [], _ => fun i h => by simp at h
  | [_], _ => fun i h => by simp at h
  | a :: b :: r, h => by
    unfold mkStep at h
    by_cases c : List.isPrefixOf a b = true
    · rw [if_pos c] at h; cases h
    · rw [if_neg c] at h
      have ih := mkStep_none (Option.map_eq_none_iff.mp h)
      intro i hi
      cases i with
      | zero => exact fun z => c (List.isPrefixOf_iff_prefix.mpr z)
      | succ i => exact ih i (by simpa using hi)
theorem mkN_ok : ∀ (n : Nat) {l M : List (List Nat)}, mkN n l = some M → Asc l → AllWy l → Asc M ∧ PreFree M ∧ AllWy M ∧ ∀ w, Cl M w ↔ Cl l w
  | 0, l, M, h, _, _ => by cases h
  | n + 1, l, M, h, ha, hw => by
    unfold mkN at h
    split at h
    · rename_i e
      cases h
      exact ⟨ha, noNext_free ha (mkStep_none e), hw, fun w => Iff.rfl⟩
    · rename_i l' e
      obtain ⟨u, a, b, v, e1, e2⟩ := mkStep_some e
      have e1' : l = (u ++ [a]) ++ b :: v := by rw [e1]; simp
      have e2' : l' = (u ++ [a]) ++ seenL b a :: v := by rw [e2]; simp
      have wy : AllWy (isort l') := fun x hx => by
        have hx := isort_mem.mp hx
        rw [e2'] at hx
        rcases List.mem_append.mp hx with hx | hx
        · exact hw x (by rw [e1']; exact List.mem_append_left _ hx)
        · rcases List.mem_cons.mp hx with rfl | hx
          · exact (hw b (by rw [e1]; simp)).seen
          · exact hw x (by rw [e1']; exact List.mem_append_right _ (List.mem_cons_of_mem _ hx))
      obtain ⟨h1, h2, h3, h4⟩ := mkN_ok n h (isort_asc _) wy
      refine ⟨h1, h2, h3, fun w => (h4 w).trans (Iff.trans ⟨Cl.trans fun x h => .base (isort_mem.mp h), Cl.trans fun x h => .base (isort_mem.mpr h)⟩ ?_)⟩
      have k := cl_swap (u := u ++ [a]) (v := v) (a := b) (b := a) (by rw [← e1']; exact hw) (by simp) w
      rw [e1', e2']
      exact k
def okWs (ws : List (List Nat)) : Bool := (ws.all fun w => decide (w.length ≤ 10000) && noAdj w && !w.isEmpty) && decide (ws.length ≤ 1000) && decide (tot ws < 90000)
theorem okWs_ok {ws : List (List Nat)} (h : okWs ws = true) : AllWy ws ∧ (∀ w ∈ ws, w.length ≤ 10000) ∧ ws.length ≤ 1000 ∧ tot ws < 90000 := by
  unfold okWs at h
  rw [Bool.and_eq_true, Bool.and_eq_true, List.all_eq_true] at h
  have k : ∀ w ∈ ws, (w.length ≤ 10000 ∧ noAdj w = true) ∧ w ≠ [] := fun w hw => by
    have := h.1.1 w hw
    rw [Bool.and_eq_true, Bool.and_eq_true] at this
    refine ⟨⟨of_decide_eq_true this.1.1, this.1.2⟩, fun z => ?_⟩
    rw [z] at this
    cases this.2
  exact ⟨fun w hw => ⟨(k w hw).2, (k w hw).1.2⟩, fun w hw => (k w hw).1.1, of_decide_eq_true h.1.2, of_decide_eq_true h.2⟩
def fastMakers : Ff := fun xs bx => match xs with
  | [x] => (match unSeq x with
    | some ws => if okWs ws = true then (match mkN 3000 (isort ws) with
      | some M => some (.tuple (txts M), bx)
      | none => makersF xs bx) else makersF xs bx
    | none => makersF xs bx)
  | _ => makersF xs bx
theorem fastMakers_eq : fastMakers = makersF := by
  funext xs bx
  unfold fastMakers
  split
  · rename_i x
    split
    · rename_i ws hw
      by_cases c : okWs ws = true
      · rw [if_pos c]
        obtain ⟨h1, h2, h3, h4⟩ := okWs_ok c
        split
        · rename_i M hM
          obtain ⟨k1, k2, k3, k4⟩ := mkN_ok _ hM (isort_asc ws) fun w hw => h1 w (isort_mem.mp hw)
          exact (makers_is (unSeq_seqs hw) h1 h3 h2 h4 k1 k2 k3 fun w => (k4 w).trans ⟨Cl.trans fun x h => .base (isort_mem.mp h), Cl.trans fun x h => .base (isort_mem.mpr h)⟩).symm
        · rfl
      · rw [if_neg c]
    · rfl
  · rfl
/-- sorted(xs) of texts that are unlike -/
def fastSort : List D → Option D := fun xs => match xs with
  | [.list ds] => (match unSs ds with
    | some ws => if decide ws.Nodup = true then some (.list (txts (isort ws))) else sortFD xs
    | none => sortFD xs)
  | _ => sortFD xs
theorem fastSort_eq : fastSort = sortFD := by
  funext xs
  unfold fastSort
  split
  · rename_i ds
    split
    · rename_i ws hw
      by_cases c : decide ws.Nodup = true
      · rw [if_pos c, unSs_txts hw, sort_txts]
        have nd := of_decide_eq_true c
        rw [asc_ext (isort_asc ws) (msort_asc nd) fun x => isort_mem.trans List.mem_mergeSort.symm]
      · rw [if_neg c]
    · rfl
  · rfl
def fastSet : List D → Option D := fun xs => match xs with
  | [x] => (match unSeq x with
    | some ws => if ws.length ≤ 4000 then some (.list (txts (isort ws))) else sortSetFD xs
    | none => sortSetFD xs)
  | _ => sortSetFD xs
theorem fastSet_eq : fastSet = sortSetFD := by
  funext xs
  unfold fastSet
  split
  · rename_i x
    split
    · rename_i ws hw
      by_cases c : ws.length ≤ 4000
      · rw [if_pos c, sortSet_txts (unSeq_seqs hw) c, isort_sortN]
      · rw [if_neg c]
    · rfl
  · rfl
end MD
end

section
set_option Elab.async false
set_option linter.all false
set_option maxRecDepth 100000
/-! Mth25: what the laws of families share. -/
namespace MD
open PySem L2

theorem list_t (ws : List (List Nat)) : listAD [.tuple (txts ws)] = some (.list (txts ws)) := rfl
theorem list_l (ws : List (List Nat)) : listAD [.list (txts ws)] = some (.list (txts ws)) := rfl
theorem rev_t (ws : List (List Nat)) : revD (.tuple (txts ws)) = some (.tuple (txts ws.reverse)) := by
  show some (PyData.tuple (txts ws).reverse) = _
  rw [txts_rev]
theorem add_t {ws vs : List (List Nat)} (h : ws.length + vs.length ≤ 1000000) : addD (.tuple (txts ws)) (.tuple (txts vs)) = some (.tuple (txts (ws ++ vs))) := by
  show (if (txts ws).length + (txts vs).length ≤ sizeLine then some (PyData.tuple (txts ws ++ txts vs)) else none) = _
  rw [if_pos (by rw [txts_len, txts_len]; exact sz h), txts_app]
theorem add_l {ws vs : List (List Nat)} (h : ws.length + vs.length ≤ 1000000) : addD (.list (txts ws)) (.list (txts vs)) = some (.list (txts (ws ++ vs))) := by
  rw [addD_list (by rw [txts_len, txts_len]; exact h), txts_app]
theorem gl_n {ds : List D} (h : Nat.ble ds.length 100 = true := by rfl) : gLst ds = some (.list ds) := gLst_ok (Nat.le_trans (Nat.le_of_ble_eq_true h) (by decide))
theorem sq_t (ws : List (List Nat)) : Seqs (.tuple (txts ws)) ws := .inl rfl
theorem sq_l (ws : List (List Nat)) : Seqs (.list (txts ws)) ws := .inr rfl
theorem pl_tup {n : Nat} {ws : List (List Nat)} (h : ws.length ≤ 1000000) : Pl (n + 2) (.tuple (txts ws)) := .tuple (by rw [txts_len]; exact h) fun d hd => by
  obtain ⟨l, _, rfl⟩ := List.mem_map.mp hd
  exact .str _
theorem Cl.congr {A B : List (List Nat)} (h : ∀ x, x ∈ A ↔ x ∈ B) (w : List Nat) : Cl A w ↔ Cl B w :=
  ⟨Cl.trans fun x m => .base ((h x).mp m), Cl.trans fun x m => .base ((h x).mpr m)⟩
/-- the makers, from WAYs in any order, with doubles -/
theorem makers_any {x : D} {ws V M : List (List Nat)} {many lg k : Nat} {bx : Bx} (hx : Seqs x V) (hV : ∀ z, z ∈ V ↔ z ∈ ws) (h : Lot many lg k ws) (hk : V.length ≤ 1000) (hl : lg ≤ 6) (hM : Mk M ws) : makersF [x] bx = some (.tuple (txts M), bx) := by
  have le : ∀ w ∈ V, w.length ≤ lg := fun w hw => h.le w ((hV w).mp hw)
  have t := tot_le le
  have : lg * V.length ≤ 6 * 1000 := Nat.mul_le_mul hl hk
  exact makers_is hx (fun w hw => h.wy w ((hV w).mp hw)) hk (fun w hw => Nat.le_trans (le w hw) (by omega)) (by omega) hM.asc hM.free hM.wy fun w => (hM.cl w).trans (Cl.congr (fun z => (hV z).symm) w)
/-- the makers of the makers -/
theorem makers_self {x : D} {ws M : List (List Nat)} {many lg k : Nat} {bx : Bx} (hx : Seqs x M) (h : Lot many lg k ws) (hk : k ≤ 1000) (hl : lg ≤ 6) (hM : Mk M ws) : makersF [x] bx = some (.tuple (txts M), bx) := by
  have le : ∀ w ∈ M, w.length ≤ lg := fun w hw => (hM.le lg h.le w hw).1
  have t := tot_le le
  have n1 := hM.len
  have n2 := h.no
  have : lg * M.length ≤ 6 * 1000 := Nat.mul_le_mul hl (by omega)
  exact makers_is hx hM.wy (by omega) (fun w hw => Nat.le_trans (le w hw) (by omega)) (by omega) hM.asc hM.free hM.wy fun w => Iff.rfl
end MD
end

section
set_option Elab.async false
set_option linter.all false
set_option maxRecDepth 100000
/-! Mth26: doors folded at makers. -/
namespace MD
open PySem L2

theorem aheadOf_mem {M : List (List Nat)} {w m : List Nat} : m ∈ aheadOf M w ↔ m ∈ M ∧ m ≠ w ∧ m <+: w := by
  unfold aheadOf
  rw [List.mem_filter, Bool.and_eq_true, List.prefix_iff_eq_take]
  constructor
  · rintro ⟨h, h1, h2⟩
    exact ⟨h, fun z => (by rw [decide_eq_true z] at h1; cases h1), (of_decide_eq_true h2).symm⟩
  · rintro ⟨h, h1, h2⟩
    exact ⟨h, by rw [decide_eq_false h1]; rfl, decide_eq_true h2.symm⟩
/-- folded k times, if so often -/
def fw (M : List (List Nat)) (w : List Nat) : Nat → List Nat × List (List Nat)
  | 0 => (w, [])
  | k + 1 => match (aheadOf M (fw M w k).1).head? with
    | none => fw M w k
    | some m => (seenL (fw M w k).1 m, (fw M w k).2 ++ [m])
theorem fw_none {M : List (List Nat)} {w : List Nat} {k : Nat} (h : aheadOf M (fw M w k).1 = []) : ∀ j, fw M w (k + j) = fw M w k
  | 0 => rfl
  | j + 1 => by
    have ih := fw_none h j
    show (match (aheadOf M (fw M w (k + j)).1).head? with
      | none => fw M w (k + j)
      | some m => (seenL (fw M w (k + j)).1 m, (fw M w (k + j)).2 ++ [m])) = _
    rw [ih, h]
    rfl
theorem fw_some {M : List (List Nat)} {w m : List Nat} {k : Nat} (h : (aheadOf M (fw M w k).1).head? = some m) : fw M w (k + 1) = (seenL (fw M w k).1 m, (fw M w k).2 ++ [m]) := by
  rw [fw, h]
theorem head_none {α : Type} {l : List α} (h : l.head? = none) : l = [] := List.head?_eq_none_iff.mp h
theorem fw_step {M : List (List Nat)} {w : List Nat} {k : Nat} (h : aheadOf M (fw M w k).1 ≠ []) : ∃ m, m ∈ M ∧ m ≠ (fw M w k).1 ∧ m <+: (fw M w k).1 ∧ (aheadOf M (fw M w k).1).head? = some m := by
  cases e : (aheadOf M (fw M w k).1).head? with
  | none => exact (h (head_none e)).elim
  | some m =>
    obtain ⟨h1, h2, h3⟩ := aheadOf_mem.mp (List.mem_of_head? e)
    exact ⟨m, h1, h2, h3, rfl⟩
section
variable {M : List (List Nat)} (hM : AllWy M) {w : List Nat} (hw : Wy w)
include hM hw
theorem fw_wy : ∀ k, Wy (fw M w k).1
  | 0 => hw
  | k + 1 => by
    have ih := fw_wy k
    by_cases c : aheadOf M (fw M w k).1 = []
    · rw [fw_none c 1]; exact ih
    · obtain ⟨m, _, _, _, e⟩ := fw_step c
      rw [fw_some e]
      exact ih.seen
theorem fw_less {k : Nat} (h : aheadOf M (fw M w k).1 ≠ []) : (fw M w (k + 1)).1.length < (fw M w k).1.length := by
  obtain ⟨m, h1, h2, h3, e⟩ := fw_step h
  rw [fw_some e]
  exact seen_short (fw_wy hM hw k) (hM m h1) h3 h2
theorem fw_len : ∀ k, (∀ j, j < k → aheadOf M (fw M w j).1 ≠ []) → (fw M w k).1.length + k ≤ w.length
  | 0, _ => Nat.le_refl _
  | k + 1, h => by
    have ih := fw_len k fun j hj => h j (by omega)
    have := fw_less hM hw (h k (by omega))
    omega
theorem fw_le : ∀ k, (fw M w k).1.length ≤ w.length
  | 0 => Nat.le_refl _
  | k + 1 => by
    have ih := fw_le k
    by_cases c : aheadOf M (fw M w k).1 = []
    · rw [fw_none c 1]; exact ih
    · have := fw_less hM hw c
      omega
theorem fw_stop : ∃ j, j ≤ w.length ∧ aheadOf M (fw M w j).1 = [] := by
  by_cases c : ∃ j, j ≤ w.length ∧ aheadOf M (fw M w j).1 = []
  · exact c
  · exfalso
    have := fw_len hM hw w.length fun j hj z => c ⟨j, by omega, z⟩
    have := List.length_pos_iff.mpr (fw_wy hM hw w.length).ne
    omega
theorem fw_end {k : Nat} (h : aheadOf M (fw M w k).1 = []) : fw M w k = fw M w w.length := by
  obtain ⟨j, hj, e⟩ := fw_stop hM hw
  obtain ⟨i, hi⟩ : ∃ i, w.length = j + i := ⟨w.length - j, by omega⟩
  rw [hi, fw_none e]
  rcases Nat.le_total j k with c | c
  · obtain ⟨i, rfl⟩ : ∃ i, k = j + i := ⟨k - j, by omega⟩
    exact fw_none e i
  · obtain ⟨i, rfl⟩ : ∃ i, j = k + i := ⟨j - k, by omega⟩
    exact (fw_none h i).symm
theorem fw_last : aheadOf M (fw M w w.length).1 = [] := by
  obtain ⟨j, hj, e⟩ := fw_stop hM hw
  rw [← fw_end hM hw e]
  exact e
theorem fw_cl : ∀ k, Cl M (fw M w k).1 ↔ Cl M w
  | 0 => Iff.rfl
  | k + 1 => by
    have ih := fw_cl k
    by_cases c : aheadOf M (fw M w k).1 = []
    · rw [fw_none c 1]; exact ih
    · obtain ⟨m, h1, h2, h3, e⟩ := fw_step c
      rw [fw_some e]
      refine Iff.trans ⟨fun h => ?_, fun h => .step h (.base h1)⟩ ih
      have := Cl.step h (Cl.base h1)
      rwa [seen_twice (fw_wy hM hw k).ne (fw_wy hM hw k).ad] at this
end
theorem fw_folds {M : List (List Nat)} {w : List Nat} : ∀ k, (∀ m ∈ (fw M w k).2, m ∈ M) ∧ (fw M w k).2.length ≤ k
  | 0 => ⟨fun m h => (List.not_mem_nil h).elim, Nat.le_refl _⟩
  | k + 1 => by
    have ih := fw_folds (M := M) (w := w) k
    by_cases c : aheadOf M (fw M w k).1 = []
    · rw [fw_none c 1]; exact ⟨ih.1, by omega⟩
    · obtain ⟨m, h1, h2, h3, e⟩ := fw_step c
      rw [fw_some e]
      refine ⟨fun x hx => ?_, by simp; omega⟩
      rcases List.mem_append.mp hx with hx | hx
      · exact ih.1 x hx
      · have : x = m := by simpa using hx
        rw [this]; exact h1
def restL (M : List (List Nat)) (w : List Nat) : List Nat := (fw M w w.length).1
def foldsL (M : List (List Nat)) (w : List Nat) : List (List Nat) := (fw M w w.length).2
theorem rest_mem {M : List (List Nat)} (hM : AllWy M) (hP : PreFree M) {w : List Nat} (hw : Wy w) : restL M w ∈ M ↔ Cl M w := by
  have e := fw_last hM hw
  have c := fw_cl hM hw w.length
  constructor
  · intro h
    exact c.mp (.base h)
  · intro h
    obtain ⟨m, hm, l⟩ := (c.mpr h).maker hM hP
    by_cases q : m = (fw M w w.length).1
    · unfold restL
      rw [← q]; exact hm
    · have : m ∈ aheadOf M (fw M w w.length).1 := aheadOf_mem.mpr ⟨hm, q, l⟩
      rw [e] at this
      cases this
theorem clL_back {M W : List (List Nat)} {n : Nat} (hM : AllWy M) (h : ∀ m ∈ M, ClL W n m) {w : List Nat} (hw : Wy w) (hl : w.length ≤ n) : ∀ k, ClL W n (fw M w k).1 → ClL W n w
  | 0, c => c
  | k + 1, c => by
    by_cases q : aheadOf M (fw M w k).1 = []
    · rw [fw_none q 1] at c
      exact clL_back hM h hw hl k c
    · obtain ⟨m, h1, h2, h3, e⟩ := fw_step q
      rw [fw_some e] at c
      have v := fw_wy hM hw k
      have l := fw_le hM hw k
      have t := seen_twice (b := m) v.ne v.ad
      have := ClL.step c (h m h1) (by rw [t]; omega)
      rw [t] at this
      exact clL_back hM h hw hl k this
/-- doors of few letters are come to by doors of few letters -/
theorem clL_iff {M W : List (List Nat)} {n : Nat} (hM : Mk M W) (h0 : ∀ w ∈ W, w.length ≤ n) {w : List Nat} (hw : Wy w) (hl : w.length ≤ n) : ClL W n w ↔ Cl W w := by
  refine ⟨ClL.cl, fun h => ?_⟩
  have r := (rest_mem hM.wy hM.free hw).mpr ((hM.cl w).mpr h)
  exact clL_back hM.wy (fun m hm => (hM.le n h0 m hm).2) hw hl w.length (hM.le n h0 _ r).2

/-! ### the program -/
def maB : Sf := sSeq (sFor [] (setN 2) (iOf itemsD (eVar 0))
  (sIf (tOf (e2 startsD (eVar 1) (eVar 2)))
  (sRet (eVar 2))
  (sNil)))
  (sRet (eC .none))
def maF : Ff := mkF 2 3 maB
def strO : Option (List Nat) → D
  | some m => .str (S m)
  | none => .none
theorem ma_ok {x : D} {M : List (List Nat)} {w : List Nat} {bx : Bx} (hx : Seqs x M) : maF [x, .str (S w)] bx = some (strO (M.find? fun m => decide (m <+: w)), bx) := by
  refine fun_ok (run_F rfl (run_seq (run_for (Run.of (p_of (p_var rfl) hx.items) ?_))))
  refine run_forL' (fun i env b => b = bx ∧ M.find? (fun m => decide (m <+: w)) = (M.drop i).find? (fun m => decide (m <+: w)) ∧ ∃ d2, env = [some x, some (.str (S w)), d2]) ⟨rfl, rfl, none, rfl⟩ ?_ ?_
  · rintro i d env b hd ⟨rfl, hf, d2, rfl⟩
    obtain ⟨m, hm, rfl⟩ := txts_get hd
    refine ⟨_, rfl, run_sif' (p_e2 (p_var rfl) (p_var rfl) (startsN _ _)) rfl ?_⟩
    obtain ⟨hi, rfl⟩ := List.getElem?_eq_some_iff.mp hm
    rw [List.drop_eq_getElem_cons hi, List.find?_cons] at hf
    by_cases c : M[i] <+: w
    · rw [if_pos (decide_eq_true c)]
      rw [decide_eq_true c] at hf
      refine run_rt' (p_var rfl) ⟨?_, rfl⟩
      rw [hf]
      rfl
    · rw [if_neg (by simpa using c)]
      rw [decide_eq_false c] at hf
      exact run_snil ⟨rfl, hf, _, rfl⟩
  · rintro env b ⟨rfl, hf, d2, rfl⟩
    rw [txts_len, List.drop_length] at hf
    refine run_rt' p_c ⟨?_, rfl⟩
    rw [hf]
    rfl
theorem find_ahead {M : List (List Nat)} (hP : PreFree M) {w m : List Nat} (h : M.find? (fun m => decide (m <+: w)) = some m) (hn : m ≠ w) : (aheadOf M w).head? = some m := by
  have hm := List.mem_of_find?_eq_some h
  have hp : m <+: w := by
    have := List.find?_some h
    simpa using this
  have mem : m ∈ aheadOf M w := aheadOf_mem.mpr ⟨hm, hn, hp⟩
  cases e : (aheadOf M w).head? with
  | none => rw [head_none e] at mem; cases mem
  | some m' =>
    obtain ⟨h1, h2, h3⟩ := aheadOf_mem.mp (List.mem_of_head? e)
    rw [hP.one h1 hm h3 hp]
theorem find_stop {M : List (List Nat)} (hP : PreFree M) {w : List Nat} (h : ∀ m, M.find? (fun m => decide (m <+: w)) = some m → m = w) : aheadOf M w = [] := by
  rw [List.eq_nil_iff_forall_not_mem]
  intro a ha
  obtain ⟨h1, h2, h3⟩ := aheadOf_mem.mp ha
  cases e : M.find? (fun m => decide (m <+: w)) with
  | none =>
    have := List.find?_eq_none.mp e a h1
    exact this (decide_eq_true h3)
  | some m =>
    have hm := List.mem_of_find?_eq_some e
    have hp : m <+: w := by
      have := List.find?_some e
      simpa using this
    exact h2 ((hP.one h1 hm h3 hp).trans (h m e))
def dfB : Sf := sSeq (sSetO [] 2 (eA gLst (aNil)))
  (sSeq (sSetM [2] 3 (eCall maF (aCons (eVar 0) (aCons (eVar 1) (aNil)))))
  (sSeq (whileF (tAn (tOf (e2 notND (eVar 3) (eC .none))) (tOf (e2 neD (eVar 3) (eVar 1))))
  (sSeq (sApp [2] false 2 (eVar 3))
  (sSeq (sSetM [2] 1 (eCall seenInF (aCons (eVar 1) (aCons (eVar 3) (aNil)))))
  (sSetM [2] 3 (eCall maF (aCons (eVar 0) (aCons (eVar 1) (aNil))))))) 100000)
  (sRet (eA gTup (aCons (eVar 1) (aCons (eA tupFD (aCons (eVar 2) (aNil))) (aNil)))))))
def dfF : Ff := mkF 2 4 dfB
def foldD (M : List (List Nat)) (w : List Nat) : D := .tuple [.str (S (restL M w)), .tuple (txts (foldsL M w))]
theorem g2t (a b : D) : gTup [a, b] = some (.tuple [a, b]) := gTup_ok (show (2 : Nat) ≤ 1000000 by decide)
theorem df_ok {x : D} {M : List (List Nat)} {w : List Nat} {bx : Bx} (hx : Seqs x M) (hM : AllWy M) (hP : PreFree M) (hw : Wy w) (hl : w.length ≤ 10000) (hL : ∀ m ∈ M, m.length ≤ 10000) : dfF [x, .str (S w)] bx = some (foldD M w, bx) := by
  refine fun_ok (run_F rfl (run_seq (run_setO (show (2 : Nat) < 4 by decide) (Pu.run (p_lst (ds := []) p_nil (show (0 : Nat) ≤ 1000000 by decide)) ?_))))
  refine run_seq (run_setM' (p_call (p_cons (p_var rfl) (p_cons (p_var rfl) p_nil)) (ma_ok hx)) ?_)
  refine run_seq (run_while (fun m env b => b = bx ∧ ∃ k, (fw M w k).1.length + k ≤ w.length ∧ (fw M w k).1.length ≤ m ∧ env = [some x, some (.str (S (fw M w k).1)), some (.list (txts (fw M w k).2)), some (strO (M.find? fun m => decide (m <+: (fw M w k).1)))]) ?_ 100000 w.length _ _ (by omega) ⟨rfl, 0, Nat.le_refl _, Nat.le_refl _, rfl⟩)
  rintro m env b ⟨rfl, k, hk, km, rfl⟩
  have v := fw_wy hM hw k
  have stop : aheadOf M (fw M w k).1 = [] → Run (sRet (eA gTup (aCons (eVar 1) (aCons (eA tupFD (aCons (eVar 2) (aNil))) (aNil)))) [some x, some (.str (S (fw M w k).1)), some (.list (txts (fw M w k).2)), some (strO (M.find? fun m => decide (m <+: (fw M w k).1)))]) b fun fl c => match fl with | .rt d => d = foldD M w ∧ c = b | .nx _ => PyData.none = foldD M w ∧ c = b | _ => False := fun h => by
    refine run_rt' (p_A (p_cons (p_var rfl) (p_cons (p_A1 (p_var rfl) rfl) p_nil)) (g2t _ _)) ⟨?_, rfl⟩
    unfold foldD restL foldsL
    rw [fw_end hM hw h]
  cases e : M.find? (fun m => decide (m <+: (fw M w k).1)) with
  | none =>
    have h := stop (find_stop hP fun m h => by rw [e] at h; cases h)
    rw [e] at h
    refine run_tAn (Run.of (p_tOf (p_e2 (p_var rfl) p_c (show notND .none .none = some (.bool false) from rfl)) rfl) ?_)
    rw [if_neg (by decide), if_neg (by decide)]
    exact h
  | some y =>
    refine run_tAn (Run.of (p_tOf (p_e2 (p_var rfl) p_c (show notND (.str (S y)) .none = some (.bool true) from rfl)) rfl) ?_)
    rw [if_pos (by decide)]
    refine Run.of (p_tOf (p_e2 (p_var rfl) (p_var rfl) (show neD (.str (S y)) (.str (S (fw M w k).1)) = _ from neD_str)) rfl) ?_
    by_cases c : y = (fw M w k).1
    · have h := stop (find_stop hP fun m h => by rw [e] at h; cases h; exact c)
      rw [e] at h
      rw [decide_eq_true c, if_neg (by decide)]
      exact h
    · rw [decide_eq_false c, if_pos (by decide)]
      have hd := find_ahead hP e c
      have es := fw_some hd
      have ne : aheadOf M (fw M w k).1 ≠ [] := fun z => by rw [z] at hd; cases hd
      have ls := fw_less hM hw ne
      have ym := List.mem_of_find?_eq_some e
      have fl := (fw_folds (M := M) (w := w) k).2
      have l2 := fw_le hM hw k
      refine run_seq (run_app (l := txts (fw M w k).2) rfl (Pu.run (p_var rfl) ⟨⟨fun z => (by cases z), by rw [txts_len]; exact Nat.lt_of_le_of_lt (show _ ≤ 1000000 by omega) (by decide)⟩, ?_⟩))
      refine run_seq (run_setM' (p_call (p_cons (p_var rfl) (p_cons (p_var rfl) p_nil)) (seenIn_ok v.ne v.ad (hM y ym).ad (by omega) (by have := hL y ym; omega))) ?_)
      refine run_setM' (p_call (p_cons (p_var rfl) (p_cons (p_var rfl) p_nil)) (ma_ok hx)) ⟨m - 1, by omega, rfl, k + 1, by omega, by omega, ?_⟩
      rw [es]
      show [_, _, some (PyData.list (txts (fw M w k).2 ++ [.str (S y)])), _] = _
      have : ([PyData.str (S y)] : List D) = txts [y] := rfl
      rw [this, txts_app]
def foldedB : Sf := sRet (eCall dfF (aCons (eCall makersF (aCons (eVar 0) (aNil))) (aCons (eVar 1) (aNil))))
def foldedF : Ff := mkF 2 2 foldedB
theorem folded_ok {x : D} {M : List (List Nat)} {w : List Nat} {bx : Bx} (hm : makersF [x] bx = some (.tuple (txts M), bx)) (hM : AllWy M) (hP : PreFree M) (hw : Wy w) (hl : w.length ≤ 10000) (hL : ∀ m ∈ M, m.length ≤ 10000) : foldedF [x, .str (S w)] bx = some (foldD M w, bx) :=
  fun_ok (run_F rfl (run_rt' (p_call (p_cons (p_call (p_cons (p_var rfl) p_nil) hm) (p_cons (p_var rfl) p_nil)) (df_ok (sq_t M) hM hP hw hl hL)) ⟨rfl, rfl⟩))

/-! ### the law's walk -/
def lfoldB : Sf := sSeq (sSetM [] 2 (eSl slD (eVar 1) (pSo (eA lenD (aCons (eVar 0) (aNil)))) (pNo)))
  (sSeq (sSetM [] 3 (eA gLst (aCons (eCall lredF (aCons (e2 addD (eSl slD (eVar 0) (pNo) (pSo (e1 negD (eC (.int 1))))) (eVar 2)) (aNil))) (aCons (eCall lredF (aCons (e2 addD (eSl slD (eVar 0) (pNo) (pSo (e1 negD (eC (.int 1))))) (eSl slD (eVar 2) (pNo) (pSo (e1 negD (eC (.int 1)))))) (aNil))) (aNil)))))
  (sRet (eIf (tOf (e2 gtD (eA lenD (aCons (eIx (eVar 3) (eC (.int 0))) (aNil))) (eA lenD (aCons (eIx (eVar 3) (eC (.int 1))) (aNil))))) (eIx (eVar 3) (eC (.int 0))) (eIx (eVar 3) (eC (.int 1))))))
def lfoldF : Ff := mkF 2 4 lfoldB
theorem lfold_ok {m w : List Nat} {bx : Bx} (hm : Wy m) (hw : Wy w) (hp : m <+: w) (hn : m ≠ w) (hl : w.length ≤ 10000) : lfoldF [.str (S m), .str (S w)] bx = some (.str (S (seenL w m)), bx) := by
  obtain ⟨t, rfl⟩ := hp
  have ht : t ≠ [] := fun z => hn (by rw [z, List.append_nil])
  have hl2 : m.length + t.length ≤ 10000 := by simpa using hl
  have e1 : (m ++ t).drop m.length = t := List.drop_left
  have db : (m ++ t).dropLast = m ++ t.dropLast := by
    obtain ⟨u, x, rfl⟩ := snoc_of ht
    rw [← List.append_assoc, List.dropLast_concat, List.dropLast_concat]
  have f := farther_seen hw.ne hw.ad hm.ad
  rw [db, turn_inside hm, turn_inside hm] at f
  have l1 := redL_le (m.dropLast ++ t)
  have l2 := redL_le (m.dropLast ++ t.dropLast)
  have l3 : m.dropLast.length ≤ m.length := by rw [List.length_dropLast]; omega
  have l4 : t.dropLast.length ≤ t.length := by rw [List.length_dropLast]; omega
  rw [List.length_append] at l1 l2
  refine fun_ok (run_F rfl (run_seq (run_setM' (d := .str (S t)) (p_sl (p_var rfl) (p_so (p_len (p_var rfl) (by omega))) rfl (by rw [slD_str (by omega), cut_from, e1])) ?_)))
  refine run_seq (run_setM' (p_A (p_cons (p_call (p_cons (p_addS (p_butlast (p_var rfl) (by omega)) (p_var rfl) (by omega)) p_nil) (lred_ok (by rw [List.length_append]; omega))) (p_cons (p_call (p_cons (p_addS (p_butlast (p_var rfl) (by omega)) (p_butlast (p_var rfl) (by omega)) (by omega)) p_nil) (lred_ok (by rw [List.length_append]; omega))) p_nil)) gl_n) ?_)
  have i0 : ixD (.list [.str (S (redL (m.dropLast ++ t))), .str (S (redL (m.dropLast ++ t.dropLast)))]) (.int 0) = some (.str (S (redL (m.dropLast ++ t)))) := rfl
  have i1 : ixD (.list [.str (S (redL (m.dropLast ++ t))), .str (S (redL (m.dropLast ++ t.dropLast)))]) (.int 1) = some (.str (S (redL (m.dropLast ++ t.dropLast)))) := rfl
  refine run_rt (run_eIf (Run.of (p_tOf (p_e2 (p_A1 (p_ix (p_var rfl) p_c (ixM_ix i0)) (lenD_str (by omega))) (p_A1 (p_ix (p_var rfl) p_c (ixM_ix i1)) (lenD_str (by omega))) rfl) rfl) ?_))
  rw [← f]
  by_cases c : (redL (m.dropLast ++ t)).length > (redL (m.dropLast ++ t.dropLast)).length
  · rw [if_pos (decide_eq_true (by omega)), if_pos c]
    exact Pu.run (p_ix (p_var rfl) p_c (ixM_ix i0)) ⟨rfl, rfl⟩
  · rw [if_neg (by simpa using c), if_neg c]
    exact Pu.run (p_ix (p_var rfl) p_c (ixM_ix i1)) ⟨rfl, rfl⟩
def walkB : Sf := sSeq (sAsg [] (setT [3, 4]) (eA gTup (aCons (eVar 1) (aCons (eA gLst (aNil)) (aNil)))))
  (sSeq (sFor [] (setN 2) (iArgs rangeD (aCons (eA lenD (aCons (eVar 1) (aNil))) (aNil)))
  (sSeq (sSetM [] 5 (eLc [6] (setN 6) (iOf itemsD (eVar 0)) (tAn (tOf (e2 neD (eVar 6) (eVar 3))) (tOf (e2 eqD (eSl slD (eVar 3) (pNo) (pSo (eA lenD (aCons (eVar 6) (aNil))))) (eVar 6)))) (eVar 6)))
  (sSeq (sIf (tOf (e2 eqD (eVar 5) (eA gLst (aNil))))
  (sRet (eA gTup (aCons (eVar 3) (aCons (eA tupFD (aCons (eVar 4) (aNil))) (aNil)))))
  (sNil))
  (sAsg [] (setT [3, 4]) (eA gTup (aCons (eCall lfoldF (aCons (eIx (eVar 5) (eC (.int 0))) (aCons (eVar 3) (aNil)))) (aCons (e2 addD (eVar 4) (eA gLst (aCons (eIx (eVar 5) (eC (.int 0))) (aNil)))) (aNil))))))))
  (sRet (eA gTup (aCons (eVar 3) (aCons (eA tupFD (aCons (eVar 4) (aNil))) (aNil))))))
def walkF : Ff := mkF 2 7 walkB
theorem walk_ok {x : D} {M : List (List Nat)} {w : List Nat} {bx : Bx} (hx : Seqs x M) (hM : AllWy M) (hw : Wy w) (hl : w.length ≤ 10000) (hL : ∀ m ∈ M, m.length ≤ 10000) (hO : Okl M) (hn : M.length ≤ 100000) : walkF [x, .str (S w)] bx = some (foldD M w, bx) := by
  refine fun_ok (run_F rfl (run_seq (run_asg (d := .tuple [.str (S w), .list (txts [])]) (p_A (p_cons (p_var rfl) (p_cons (p_lst (ds := []) p_nil (show (0 : Nat) ≤ 1000000 by decide)) p_nil)) (g2t _ _)) rfl ?_)))
  refine run_seq (run_for (Run.of (p_args (p_cons (p_len (p_var rfl) (by omega)) p_nil) (rangeD1 (by omega) (by omega))) ?_))
  refine run_forL' (fun i env b => b = bx ∧ (fw M w i).2.length ≤ i ∧ ∃ d2 d5 d6, env = [some x, some (.str (S w)), d2, some (.str (S (fw M w i).1)), some (.list (txts (fw M w i).2)), d5, d6]) ⟨rfl, Nat.le_refl _, none, none, none, rfl⟩ ?_ ?_
  · rintro i d env b hd ⟨rfl, hf, d2, d5, d6, rfl⟩
    obtain ⟨rfl, hi⟩ := rangeItems_get hd
    have hi : i < w.length := by omega
    refine ⟨_, rfl, ?_⟩
    have v := fw_wy hM hw i
    have l2 := fw_le hM hw i
    generalize hv : (fw M w i).1 = here at *
    generalize hg : (fw M w i).2 = fs at *
    have comp : ∀ E : Ev, E = [some x, some (.str (S w)), some (.int (0 + (i : Nat))), some (.str (S here)), some (.list (txts fs)), d5, d6] → Pu (eLc [6] (setN 6) (iOf itemsD (eVar 0)) (tAn (tOf (e2 neD (eVar 6) (eVar 3))) (tOf (e2 eqD (eSl slD (eVar 3) (pNo) (pSo (eA lenD (aCons (eVar 6) (aNil))))) (eVar 6)))) (eVar 6)) E b (.list (txts (aheadOf M here))) := by
      rintro E rfl
      refine p_lc (p_of (p_var rfl) hx.items) (by rw [txts_len]; omega) ?_
      have h := comp_pure (set := setN 6) (tt := tAn (tOf (e2 neD (eVar 6) (eVar 3))) (tOf (e2 eqD (eSl slD (eVar 3) (pNo) (pSo (eA lenD (aCons (eVar 6) (aNil))))) (eVar 6)))) (el := eVar 6) (env0 := maskE [6] [some x, some (.str (S w)), some (.int (0 + (i : Nat))), some (.str (S here)), some (.list (txts fs)), d5, d6]) (bx := b)
        (onT fun d => !decide (d = here) && decide (here.take d.length = d)) id (ds := txts M) ?_
      · rw [h, List.map_id, txts_filter _ _ (onT_S _)]
        rfl
      · intro y hy
        obtain ⟨d, hd, rfl⟩ := List.mem_map.mp hy
        have dl := hL d hd
        refine ⟨_, rfl, ?_, fun _ => p_var rfl⟩
        rw [onT_S]
        have t1 : tOf (e2 neD (eVar 6) (eVar 3)) ((maskE [6] [some x, some (.str (S w)), some (.int (0 + (i : Nat))), some (.str (S here)), some (.list (txts fs)), d5, d6]).set 6 (some (.str (S d)))) b = some (!decide (d = here), b) := p_tOf (p_e2 (p_var rfl) (p_var rfl) neD_str) rfl
        have t2 : tOf (e2 eqD (eSl slD (eVar 3) (pNo) (pSo (eA lenD (aCons (eVar 6) (aNil))))) (eVar 6)) ((maskE [6] [some x, some (.str (S w)), some (.int (0 + (i : Nat))), some (.str (S here)), some (.list (txts fs)), d5, d6]).set 6 (some (.str (S d)))) b = some (decide (here.take d.length = d), b) :=
          p_tOf (p_e2 (p_to (p_var rfl) (p_len (p_var rfl) (by omega)) (by omega)) (p_var rfl) eqD_str) rfl
        show bnd (tOf _ _) _ b = _
        unfold bnd
        rw [t1]
        by_cases e : d = here
        · rw [decide_eq_true e]
          rfl
        · rw [decide_eq_false e]
          exact t2
    refine run_seq (run_setM' (comp _ rfl) ?_)
    have hOa : Okl (aheadOf M here) := fun l h => hO l (aheadOf_mem.mp h).1
    refine run_seq (run_sif' (p_e2 (p_var rfl) (p_lst (ds := []) p_nil (show (0 : Nat) ≤ 1000000 by decide)) (eqD_txts (b := []) hOa fun l h => (List.not_mem_nil h).elim)) rfl ?_)
    cases e : (aheadOf M here).head? with
    | none =>
      have e' := head_none e
      rw [e']
      refine run_rt' (p_A (p_cons (p_var rfl) (p_cons (p_A1 (p_var rfl) rfl) p_nil)) (g2t _ _)) ⟨?_, rfl⟩
      have k : aheadOf M (fw M w i).1 = [] := by rw [hv]; exact e'
      unfold foldD restL foldsL
      rw [← fw_end hM hw k, hv, hg]
    | some m =>
      have ne : aheadOf M here ≠ [] := fun z => by rw [z] at e; cases e
      rw [if_neg (by simpa using ne)]
      refine run_snil ?_
      have mm := List.mem_of_head? e
      obtain ⟨m1, m2, m3⟩ := aheadOf_mem.mp mm
      have i0 : ixD (.list (txts (aheadOf M here))) (.int 0) = some (.str (S m)) := by
        have hp : 0 < (aheadOf M here).length := List.length_pos_iff.mpr ne
        have := ixD_txts (ws := aheadOf M here) (i := 0) hp
        rw [List.head?_eq_getElem?, List.getElem?_eq_getElem hp] at e
        cases e
        exact this
      have es := fw_some (M := M) (w := w) (k := i) (m := m) (by rw [hv]; exact e)
      rw [hv, hg] at es
      refine run_asg (d := .tuple [.str (S (seenL here m)), .list (txts (fs ++ [m]))]) (p_A (p_cons (p_call (p_cons (p_ix (p_var rfl) p_c (ixM_ix i0)) (p_cons (p_var rfl) p_nil)) (lfold_ok (hM m m1) v m3 m2 (by omega))) (p_cons (p_e2 (p_var rfl) (p_lst (p_cons (p_ix (p_var rfl) p_c (ixM_ix i0)) p_nil) (show (1 : Nat) ≤ 1000000 by decide)) ?_) p_nil)) (g2t _ _)) rfl ⟨rfl, ?_, some (.int (0 + (i : Nat))), some (.list (txts (aheadOf M here))), d6, ?_⟩
      · exact add_l (vs := [m]) (by simp; omega)
      · rw [es]; simp; omega
      · rw [es]
        rfl
  · rintro env b ⟨rfl, hf, d2, d5, d6, rfl⟩
    rw [rangeItems_len, Int.toNat_natCast]
    exact run_rt' (p_A (p_cons (p_var rfl) (p_cons (p_A1 (p_var rfl) rfl) p_nil)) (g2t _ _)) ⟨rfl, rfl⟩

/-! ### by hand -/
def fwR (M : List (List Nat)) : Nat → List Nat → List (List Nat) → List Nat × List (List Nat)
  | 0, v, fs => (v, fs)
  | n + 1, v, fs => match (aheadOf M v).head? with
    | none => (v, fs)
    | some m => fwR M n (seenL v m) (fs ++ [m])
theorem fwR_ok {M : List (List Nat)} {w : List Nat} : ∀ (n k : Nat), fwR M n (fw M w k).1 (fw M w k).2 = fw M w (k + n)
  | 0, k => rfl
  | n + 1, k => by
    unfold fwR
    cases e : (aheadOf M (fw M w k).1).head? with
    | none => exact (fw_none (head_none e) (n + 1)).symm
    | some m =>
      have es := fw_some e
      have ih := fwR_ok (M := M) (w := w) n (k + 1)
      rw [es] at ih
      rw [show k + (n + 1) = k + 1 + n by omega]
      exact ih
def okW (w : List Nat) : Bool := decide (w.length ≤ 10000) && noAdj w && !w.isEmpty
theorem okW_ok {w : List Nat} (h : okW w = true) : Wy w ∧ w.length ≤ 10000 := by
  unfold okW at h
  rw [Bool.and_eq_true, Bool.and_eq_true] at h
  exact ⟨⟨fun z => by rw [z] at h; exact absurd h.2 (by decide), h.1.2⟩, of_decide_eq_true h.1.1⟩
def fastFold : Ff := fun xs bx => match xs with
  | [x, .str s] => (match unSeq x with
    | some ws => if (okWs ws && okW s.cps.toList) = true then (match mkN 3000 (isort ws) with
      | some M => (match fwR M s.cps.toList.length s.cps.toList [] with
        | (r, fs) => some (.tuple [.str (S r), .tuple (txts fs)], bx))
      | none => foldedF xs bx) else foldedF xs bx
    | none => foldedF xs bx)
  | _ => foldedF xs bx
theorem mkN_makers {x : D} {ws M : List (List Nat)} {bx : Bx} (hx : Seqs x ws) (h : okWs ws = true) (hM : mkN 3000 (isort ws) = some M) : makersF [x] bx = some (.tuple (txts M), bx) ∧ Mk M ws ∧ ∀ m ∈ M, m.length ≤ 10000 := by
  obtain ⟨h1, h2, h3, h4⟩ := okWs_ok h
  obtain ⟨k1, k2, k3, k4⟩ := mkN_ok _ hM (isort_asc ws) fun w hw => h1 w (isort_mem.mp hw)
  have cl : ∀ w, Cl M w ↔ Cl ws w := fun w => (k4 w).trans ⟨Cl.trans fun x h => .base (isort_mem.mp h), Cl.trans fun x h => .base (isort_mem.mpr h)⟩
  obtain ⟨V, eV, hV⟩ := makers_ok (bx := bx) hx h1 h3 h2 h4
  have e := hV.one k1 k2 k3 cl
  subst e
  exact ⟨eV, hV, fun m hm => (hV.le 10000 h2 m hm).1⟩
theorem fastFold_eq : fastFold = foldedF := by
  funext xs bx
  unfold fastFold
  split
  · rename_i x s
    split
    · rename_i ws hw
      by_cases c : (okWs ws && okW s.cps.toList) = true
      · rw [if_pos c]
        rw [Bool.and_eq_true] at c
        obtain ⟨w1, w2⟩ := okW_ok c.2
        split
        · rename_i M hM
          obtain ⟨e, k, l⟩ := mkN_makers (bx := bx) (unSeq_seqs hw) c.1 hM
          have f := folded_ok e k.wy k.free w1 w2 l
          rw [← S_of] at f
          rw [f]
          have q := fwR_ok (M := M) (w := s.cps.toList) s.cps.toList.length 0
          rw [Nat.zero_add] at q
          show (match fwR M s.cps.toList.length s.cps.toList [] with | (r, fs) => some (PyData.tuple [.str (S r), .tuple (txts fs)], bx)) = _
          have q : fwR M s.cps.toList.length s.cps.toList [] = fw M s.cps.toList s.cps.toList.length := q
          rw [q]
          rfl
        · rfl
      · rw [if_neg c]
    · rfl
  · rfl
end MD
end

section
set_option Elab.async false
set_option linter.all false
set_option maxRecDepth 100000
/-! Mth27: families within families. -/
namespace MD
open PySem L2

/-- ways of few letters, in any order -/
structure Bag (many n k : Nat) (ws : List (List Nat)) : Prop where
  row : ∀ w ∈ ws, Row many w
  ne : ∀ w ∈ ws, w ≠ []
  le : ∀ w ∈ ws, w.length ≤ n
  no : ws.length ≤ k
section
variable {many n k : Nat} {ws : List (List Nat)}
theorem Lot.bag (h : Lot many n k ws) : Bag many n k ws := ⟨h.row, h.ne, h.le, h.no⟩
theorem Bag.wy (h : Bag many n k ws) : AllWy ws := fun w hw => ⟨h.ne w hw, (h.row w hw).ad⟩
theorem Bag.letters (h : Bag many n k ws) {w : List Nat} (c : Cl ws w) : ∀ x ∈ w, x ∈ L8.take many := c.letters fun w hw => (h.row w hw).le
theorem Bag.app {k' : Nat} {vs : List (List Nat)} (h : Bag many n k ws) (h' : Bag many n k' vs) : Bag many n (k + k') (ws ++ vs) :=
  ⟨fun w hw => (List.mem_append.mp hw).elim (h.row w) (h'.row w), fun w hw => (List.mem_append.mp hw).elim (h.ne w) (h'.ne w), fun w hw => (List.mem_append.mp hw).elim (h.le w) (h'.le w), by
    have := h.no
    have := h'.no
    rw [List.length_append]; omega⟩
theorem Bag.sub {k' : Nat} {vs : List (List Nat)} (h : Bag many n k ws) (hv : ∀ z ∈ vs, z ∈ ws) (hk : vs.length ≤ k') : Bag many n k' vs :=
  ⟨fun w hw => h.row w (hv w hw), fun w hw => h.ne w (hv w hw), fun w hw => h.le w (hv w hw), hk⟩
theorem Bag.sort (h : Bag many n k ws) : Lot many n k (sortN ws) :=
  ⟨fun w hw => h.row w (sortN_mem.mp hw), fun w hw => h.ne w (sortN_mem.mp hw), fun w hw => h.le w (sortN_mem.mp hw), Nat.le_trans (sortN_len ws) h.no, sortN_asc ws⟩
theorem closed_bag {x : D} {lg : Nat} {bx : Bx} (hx : Seqs x ws) (h : Bag many lg k ws) (hk : k ≤ 1000) (hs : (many, lg) ∈ sizes) :
    ∃ C, closedF [x, .int lg] bx = some (.list (txts C), bx) ∧ Asc C ∧ (∀ w, w ∈ C ↔ ClL ws lg w) ∧ C.length ≤ 1000 ∧ (∀ w ∈ C, w.length ≤ 6) ∧ Okl C := by
  obtain ⟨s1, s2, s3, s4, s5⟩ := sizes_ok _ hs
  have s5 : (allW (L8.take many) lg).length ≤ 1000 := s5
  have s4 : lg ≤ 6 := s4
  have hU : ∀ y, ClL ws lg y → y ∈ allW (L8.take many) lg := fun y c => allW_mem (h.letters c.cl) (c.short h.le)
  obtain ⟨C, e, aC, hC⟩ := closed_ok (bx := bx) hx h.wy h.le (by omega) (by have := h.no; omega) hU (by omega) fun y c z hz => L8_ok z (mem_L8 (h.letters c.cl z hz))
  refine ⟨C, e, aC, hC, ?_, fun w hw => ?_, fun w hw z hz => L8_ok z (mem_L8 (h.letters ((hC w).mp hw).cl z hz))⟩
  · have := aC.nodup.length_le_of_subset fun y hy => hU y ((hC y).mp hy)
    omega
  · have := ((hC w).mp hw).short h.le
    omega
theorem makers_bag {x : D} {lg : Nat} {bx : Bx} (hx : Seqs x ws) (h : Bag many lg k ws) (hk : k ≤ 1000) (hl : lg ≤ 6) : ∃ M, makersF [x] bx = some (.tuple (txts M), bx) ∧ Mk M ws := by
  have t := tot_le h.le
  have n := h.no
  refine makers_ok hx h.wy (by omega) (fun w hw => Nat.le_trans (h.le w hw) (by omega)) ?_
  have : lg * ws.length ≤ 6 * 1000 := Nat.mul_le_mul hl (by omega)
  omega
/-- makers known: of other WAYs of the same family -/
theorem makers_bagM {x : D} {lg : Nat} {V M : List (List Nat)} {bx : Bx} (hx : Seqs x V) (h : Bag many lg k V) (hk : k ≤ 1000) (hl : lg ≤ 6) (hM : Mk M ws) (hc : ∀ w, Cl V w ↔ Cl ws w) : makersF [x] bx = some (.tuple (txts M), bx) := by
  obtain ⟨V', e, hV⟩ := makers_bag (bx := bx) hx h hk hl
  rw [e, hV.one hM.asc hM.free hM.wy fun w => (hM.cl w).trans (hc w).symm]
end
theorem Mk.perm {M V W : List (List Nat)} (h : Mk M W) (hV : ∀ z, z ∈ V ↔ z ∈ W) (w : List Nat) : Cl M w ↔ Cl V w := (h.cl w).trans (Cl.congr (fun z => (hV z).symm) w)
theorem Mk.okl {many n k : Nat} {M W : List (List Nat)} (h : Mk M W) (b : Bag many n k W) : Okl M := fun y hy c hc => L8_ok c (mem_L8 (b.letters ((h.cl y).mp (.base hy)) c hc))
/-- which doors of few letters lie in which family -/
theorem sub_iff {A B C1 C2 MB : List (List Nat)} {many n k k' : Nat} (hA : Bag many n k A) (hB : Bag many n k' B) (h1 : ∀ w, w ∈ C1 ↔ ClL A n w) (h2 : ∀ w, w ∈ C2 ↔ ClL B n w) (hM : Mk MB B) : (∀ w ∈ C1, w ∈ C2) ↔ ∀ w ∈ A, Cl B w := by
  constructor
  · exact fun h w hw => ((h2 w).mp (h w ((h1 w).mpr (.base hw)))).cl
  · intro h w hw
    have c := (h1 w).mp hw
    exact (h2 w).mpr ((clL_iff hM hB.le (c.cl.wy hA.wy) (c.short hA.le)).mpr (c.cl.trans h))

/-! ### told_by, within, same_family, together -/
def tbOf (df : Ff) : Ff := mkF 2 2 (sRet (e2 inD (eIx (eCall df (aCons (eVar 0) (aCons (eVar 1) (aNil)))) (eC (.int 0))) (eVar 0)))
def wiOf (mk tb : Ff) : Ff := mkF 2 4 (sSeq (sSetM [] 2 (eCall mk (aCons (eVar 1) (aNil))))
  (sRet (eA allFD (aCons (eLc [3] (setN 3) (iOf itemsD (eVar 0)) (tYesF) (eCall tb (aCons (eVar 2) (aCons (eVar 3) (aNil))))) (aNil)))))
def sfOf (mk : Ff) : Ff := mkF 2 2 (sRet (e2 eqD (eCall mk (aCons (eVar 0) (aNil))) (eCall mk (aCons (eVar 1) (aNil)))))
def toOf (mk : Ff) : Ff := mkF 2 2 (sRet (eCall mk (aCons (e2 addD (eA listAD (aCons (eVar 0) (aNil))) (eA listAD (aCons (eVar 1) (aNil)))) (aNil))))
def inFam (M : List (List Nat)) (w : List Nat) : Bool := decide (restL M w ∈ M)
theorem inFam_iff {M W : List (List Nat)} (h : Mk M W) {w : List Nat} (hw : Wy w) : inFam M w = true ↔ Cl W w := by
  unfold inFam
  rw [decide_eq_true_iff, rest_mem h.wy h.free hw]
  exact h.cl w
theorem tb_ok {x : D} {M : List (List Nat)} {w : List Nat} {bx : Bx} (hx : Seqs x M) (hM : AllWy M) (hP : PreFree M) (hw : Wy w) (hl : w.length ≤ 10000) (hL : ∀ m ∈ M, m.length ≤ 10000) : tbOf dfF [x, .str (S w)] bx = some (.bool (inFam M w), bx) := by
  have i0 : ixD (foldD M w) (.int 0) = some (.str (S (restL M w))) := rfl
  exact fun_ok (run_F rfl (run_rt' (p_e2 (p_ix (p_call (p_cons (p_var rfl) (p_cons (p_var rfl) p_nil)) (df_ok hx hM hP hw hl hL)) p_c (ixM_ix i0)) (p_var rfl) (inD_txts hx)) ⟨rfl, rfl⟩))
theorem all_boolsG {α : Type} (f : α → Bool) : ∀ l : List α, allFD [.list (l.map fun c => .bool (f c))] = some (.bool (l.all f)) := fun l => by
  have h : ∀ l : List α, boolsD (l.map fun c => .bool (f c)) = some (l.map f) := by
    intro l
    induction l with
    | nil => rfl
    | cons a l ih =>
      show (boolsD (l.map fun c => PyData.bool (f c))).map (f a :: ·) = _
      rw [ih]
      rfl
  show (boolsD (l.map fun c => PyData.bool (f c))).map (fun bs => PyData.bool (bs.all id)) = _
  rw [h]
  show some (PyData.bool ((l.map f).all id)) = _
  rw [List.all_map]
  rfl
def onB (f : List Nat → Bool) : D → D
  | .str x => .bool (f (unT x))
  | d => d
theorem onB_txts (f : List Nat → Bool) (ws : List (List Nat)) : (txts ws).map (onB f) = ws.map fun w => .bool (f w) := by
  unfold txts
  rw [List.map_map]
  refine List.map_congr_left fun w _ => ?_
  show PyData.bool (f (unT (S w))) = _
  rw [unT_S]
theorem comp_bools {set : D → Ev → Option Ev} {el : Ef} {env0 : Ev} {bx : Bx} {f : List Nat → Bool} {ws : List (List Nat)} (h : ∀ w ∈ ws, ∃ e, set (.str (S w)) env0 = some e ∧ el e bx = some (.bool (f w), bx)) :
    compL set tYesF el env0 (txts ws) bx = some (ws.map fun w => .bool (f w), bx) := by
  have k := comp_pure (set := set) (tt := tYesF) (el := el) (env0 := env0) (bx := bx) (fun _ => true) (onB f) (ds := txts ws) fun d hd => by
    obtain ⟨w, hw, rfl⟩ := List.mem_map.mp hd
    obtain ⟨e, h1, h2⟩ := h w hw
    refine ⟨e, h1, rfl, fun _ => ?_⟩
    rw [h2]
    show _ = some (PyData.bool (f (unT (S w))), bx)
    rw [unT_S]
  rw [k, List.filter_eq_self.mpr fun _ _ => rfl, onB_txts]
theorem wi_ok {x y : D} {A M : List (List Nat)} {bx : Bx} (hx : Seqs x A) (hm : makersF [y] bx = some (.tuple (txts M), bx)) (hM : AllWy M) (hP : PreFree M) (hL : ∀ m ∈ M, m.length ≤ 10000) (hA : AllWy A) (lA : ∀ w ∈ A, w.length ≤ 10000) (nA : A.length ≤ 100000) : wiOf makersF (tbOf dfF) [x, y] bx = some (.bool (A.all (inFam M)), bx) := by
  refine fun_ok (run_F rfl (run_seq (run_setM' (p_call (p_cons (p_var rfl) p_nil) hm) ?_)))
  refine run_rt' (p_A1 (p_lc (p_of (p_var rfl) hx.items) (by rw [txts_len]; omega) (comp_bools (f := inFam M) fun w hw => ⟨_, rfl, ?_⟩)) (all_boolsG (inFam M) A)) ⟨rfl, rfl⟩
  exact p_call (p_cons (p_var rfl) (p_cons (p_var rfl) p_nil)) (tb_ok (sq_t M) hM hP (hA w hw) (lA w hw) hL)
theorem noDictT (ls : List (List Nat)) : noDict (.tuple (txts ls)) = true := noDict_txts ls
theorem shapedT {ls : List (List Nat)} (h : Okl ls) : SeqAt.shaped (.tuple (txts ls)) = true := by
  have h1 := depthAll_txts ls
  unfold SeqAt.shaped
  rw [Bool.and_eq_true]
  refine ⟨by simp only [PyData.canLay0]; exact canLayAll0_txts ls h, decide_eq_true ?_⟩
  simp only [PyData.depth]
  omega
theorem eqB_tup {a b : List (List Nat)} (ha : Okl a) (hb : Okl b) : eqB (.tuple (txts a)) (.tuple (txts b)) = some (decide (a = b)) := by
  show (if (noDict (.tuple (txts a)) && noDict (.tuple (txts b)) && SeqAt.shaped (.tuple (txts a)) && SeqAt.shaped (.tuple (txts b))) = true then some (PyData.eqv (.tuple (txts a)) (.tuple (txts b))) else none) = _
  rw [noDictT, noDictT, shapedT ha, shapedT hb]
  have : PyData.eqv (.tuple (txts a)) (.tuple (txts b)) = decide (a = b) := by
    rw [← eqvAll_txts a b]
    rfl
  rw [this]
  rfl
theorem eqD_tup {a b : List (List Nat)} (ha : Okl a) (hb : Okl b) : eqD (.tuple (txts a)) (.tuple (txts b)) = some (.bool (decide (a = b))) := by
  unfold eqD
  rw [eqB_tup ha hb]
  rfl
theorem neD_tup {a b : List (List Nat)} (ha : Okl a) (hb : Okl b) : neD (.tuple (txts a)) (.tuple (txts b)) = some (.bool (!decide (a = b))) := by
  unfold neD
  rw [eqB_tup ha hb]
  rfl
theorem sf_ok {x y : D} {M V : List (List Nat)} {bx : Bx} (hm : makersF [x] bx = some (.tuple (txts M), bx)) (hv : makersF [y] bx = some (.tuple (txts V), bx)) (oM : Okl M) (oV : Okl V) : sfOf makersF [x, y] bx = some (.bool (decide (M = V)), bx) :=
  fun_ok (run_F rfl (run_rt' (p_e2 (p_call (p_cons (p_var rfl) p_nil) hm) (p_call (p_cons (p_var rfl) p_nil) hv) (eqD_tup oM oV)) ⟨rfl, rfl⟩))
theorem listAD_sq {x : D} {A : List (List Nat)} (h : Seqs x A) : listAD [x] = some (.list (txts A)) := by
  rcases h with rfl | rfl <;> rfl
theorem to_ok {x y : D} {A B M : List (List Nat)} {bx : Bx} (hx : Seqs x A) (hy : Seqs y B) (hn : A.length + B.length ≤ 1000000) (hm : makersF [.list (txts (A ++ B))] bx = some (.tuple (txts M), bx)) : toOf makersF [x, y] bx = some (.tuple (txts M), bx) :=
  fun_ok (run_F rfl (run_rt' (p_call (p_cons (p_e2 (p_A1 (p_var rfl) (listAD_sq hx)) (p_A1 (p_var rfl) (listAD_sq hy)) (add_l hn)) p_nil) hm) ⟨rfl, rfl⟩))
/-! ### by hand -/
def fastDf : Ff := fun xs bx => match xs with
  | [x, .str s] => (match unSeq x with
    | some M => if (okWs M && decide (isort M = M) && okW s.cps.toList) = true then (match mkStep M with
      | none => (match fwR M s.cps.toList.length s.cps.toList [] with
        | (r, fs) => some (.tuple [.str (S r), .tuple (txts fs)], bx))
      | some _ => dfF xs bx) else dfF xs bx
    | none => dfF xs bx)
  | _ => dfF xs bx
theorem fastDf_eq : fastDf = dfF := by
  funext xs bx
  unfold fastDf
  split
  · rename_i x s
    split
    · rename_i M hx
      by_cases c : (okWs M && decide (isort M = M) && okW s.cps.toList) = true
      · rw [if_pos c]
        rw [Bool.and_eq_true, Bool.and_eq_true] at c
        obtain ⟨w1, w2⟩ := okW_ok c.2
        obtain ⟨h1, h2, h3, h4⟩ := okWs_ok c.1.1
        have aM : Asc M := by
          rw [← of_decide_eq_true c.1.2]
          exact isort_asc M
        split
        · rename_i e
          have f := df_ok (bx := bx) (unSeq_seqs hx) h1 (noNext_free aM (mkStep_none e)) w1 w2 h2
          rw [← S_of] at f
          rw [f]
          have q := fwR_ok (M := M) (w := s.cps.toList) s.cps.toList.length 0
          rw [Nat.zero_add] at q
          have q : fwR M s.cps.toList.length s.cps.toList [] = fw M s.cps.toList s.cps.toList.length := q
          show (match fwR M s.cps.toList.length s.cps.toList [] with | (r, fs) => some (PyData.tuple [.str (S r), .tuple (txts fs)], bx)) = _
          rw [q]
          rfl
        · rfl
      · rw [if_neg c]
    · rfl
  · rfl
end MD
namespace MD
open PySem L2
def oklB (ws : List (List Nat)) : Bool := ws.all fun l => l.all fun c => decide (c < 1114112)
theorem oklB_ok {ws : List (List Nat)} (h : oklB ws = true) : Okl ws := fun l hl c hc => of_decide_eq_true (List.all_eq_true.mp (List.all_eq_true.mp h l hl) c hc)
/-- == of two lists of texts, of two tuples of texts -/
def fastEq : D → D → Option D := fun a b => match a, b with
  | .list x, .list y => (match unSs x, unSs y with
    | some u, some v => if (oklB u && oklB v) = true then some (.bool (decide (u = v))) else eqD a b
    | _, _ => eqD a b)
  | .tuple x, .tuple y => (match unSs x, unSs y with
    | some u, some v => if (oklB u && oklB v) = true then some (.bool (decide (u = v))) else eqD a b
    | _, _ => eqD a b)
  | _, _ => eqD a b
theorem fastEq_eq : fastEq = eqD := by
  funext a b
  unfold fastEq
  split
  · split
    · rename_i u v hu hv
      by_cases c : (oklB u && oklB v) = true
      · rw [if_pos c]
        rw [Bool.and_eq_true] at c
        rw [unSs_txts hu, unSs_txts hv, eqD_txts (oklB_ok c.1) (oklB_ok c.2)]
      · rw [if_neg c]
    · rfl
  · split
    · rename_i u v hu hv
      by_cases c : (oklB u && oklB v) = true
      · rw [if_pos c]
        rw [Bool.and_eq_true] at c
        rw [unSs_txts hu, unSs_txts hv, eqD_tup (oklB_ok c.1) (oklB_ok c.2)]
      · rw [if_neg c]
    · rfl
  · rfl
end MD
end

section
set_option Elab.async false
set_option linter.all false
set_option maxRecDepth 100000
/-! Mth28: sets of doors that are free. -/
namespace MD
open PySem L2

theorem flatMap_snoc {φ : Nat → List Nat} (w : List Nat) (c : Nat) : (w ++ [c]).flatMap φ = w.flatMap φ ++ φ c := by simp
/-- letters exchanged for words that are nothing when doubled -/
theorem flat_red {φ : Nat → List Nat} (h : ∀ i, Eqv (φ i ++ φ i) []) : ∀ n (w : List Nat), w.length = n → Eqv ((redL w).flatMap φ) (w.flatMap φ)
  | 0, w, hl => by
    rw [List.length_eq_zero_iff] at hl
    subst hl
    exact Eqv.refl _
  | n + 1, w, hl => by
    have ne : w ≠ [] := fun z => by rw [z] at hl; cases hl
    obtain ⟨v, c, rfl⟩ := snoc_of ne
    have ih := flat_red h n v (by simpa using hl)
    rw [redL_snoc, push_next, List.reverse_reverse, flatMap_snoc]
    unfold nextL
    by_cases e : (redL v).getLast? = some c
    · rw [if_pos e]
      obtain ⟨r, hr⟩ := List.getLast?_eq_some_iff.mp e
      rw [hr] at ih ⊢
      rw [List.dropLast_concat]
      rw [flatMap_snoc] at ih
      refine Eqv.trans ?_ (Eqv.app ih (Eqv.refl (φ c)))
      rw [List.append_assoc]
      have := Eqv.app (Eqv.refl (r.flatMap φ)) (h c)
      rw [List.append_nil] at this
      exact this.symm
    · rw [if_neg e, flatMap_snoc]
      exact Eqv.app ih (Eqv.refl _)
theorem flat_eqv {φ : Nat → List Nat} (h : ∀ i, Eqv (φ i ++ φ i) []) {a b : List Nat} (e : Eqv a b) : Eqv (a.flatMap φ) (b.flatMap φ) := by
  have e : redL a = redL b := e
  refine (flat_red h _ a rfl).symm.trans ?_
  rw [e]
  exact flat_red h _ b rfl
/-- the doors with these places, turned over one behind another -/
def gen (ws : List (List Nat)) (i : Nat) : List Nat := palL (ws.getD i [])
def evI (ws : List (List Nat)) (word : List Nat) : List Nat := word.flatMap (gen ws)
theorem gen_twice (ws : List (List Nat)) (i : Nat) : Eqv (gen ws i ++ gen ws i) [] := Eqv.pp _
def Free (ws : List (List Nat)) : Prop := ∀ word : List Nat, (∀ i ∈ word, i < ws.length) → Eqv (evI ws word) [] → redL word = []
theorem nodup_ix {α : Type} {l : List α} (nd : l.Nodup) {i j : Nat} {hi : i < l.length} {hj : j < l.length} (e : l[i] = l[j]) : i = j := by
  rcases Nat.lt_trichotomy i j with c | c | c
  · exact (List.pairwise_iff_getElem.mp nd i j hi hj c e).elim
  · exact c
  · exact (List.pairwise_iff_getElem.mp nd j i hj hi c e.symm).elim
/-! makers are free -/
theorem pre_ne {m r : List Nat} (h : m <+: r) (hm : m ≠ []) : r ≠ [] := fun z => by
  rw [z, List.prefix_nil] at h
  exact hm h
theorem makers_front {M : List (List Nat)} (hM : AllWy M) (aM : Asc M) (pM : PreFree M) : ∀ (word : List Nat), noAdj word = true → (∀ i ∈ word, i < M.length) → ∀ i r, word = i :: r → M.getD i [] <+: redL (evI M word)
  | [], _, _, i, r, e => by cases e
  | i :: r, hn, hi, _, _, rfl => by
    have hil : i < M.length := hi i List.mem_cons_self
    have gi : M.getD i [] = M[i] := by simp [List.getD, hil]
    have mi : M[i] ∈ M := List.getElem_mem _
    have e : redL (evI M (i :: r)) = turnL M[i] (redL (evI M r)) := by
      unfold turnL
      rw [red_right]
      show redL (gen M i ++ evI M r) = _
      unfold gen
      rw [gi]
    rw [e, gi]
    refine turn_beyond (hM _ mi) (noAdj_red _) fun z => ?_
    cases r with
    | nil =>
      exact pre_ne z (hM _ mi).ne rfl
    | cons j t =>
      have ih := makers_front hM aM pM (j :: t) (noAdj_tail hn) (fun k hk => hi k (List.mem_cons_of_mem _ hk)) j t rfl
      have hjl : j < M.length := hi j (by simp)
      have gj : M.getD j [] = M[j] := by simp [List.getD, hjl]
      rw [gj] at ih
      have e := pM.one mi (List.getElem_mem hjl) z ih
      have : i = j := nodup_ix aM.nodup e
      subst this
      simp [noAdj] at hn
theorem makers_free {M : List (List Nat)} (hM : AllWy M) (aM : Asc M) (pM : PreFree M) : Free M := by
  intro word hi he
  have e : Eqv (evI M (redL word)) [] := (flat_red (gen_twice M) _ word rfl).trans he
  cases hr : redL word with
  | nil => rfl
  | cons i r =>
    exfalso
    have mem : ∀ k ∈ redL word, k < M.length := fun k hk => hi k (red_in hk)
    have f := makers_front hM aM pM (redL word) (noAdj_red _) mem i r hr
    have e : redL (evI M (redL word)) = [] := e
    rw [e] at f
    have hil : i < M.length := mem i (by rw [hr]; simp)
    have gi : M.getD i [] = M[i] := by simp [List.getD, hil]
    rw [gi] at f
    exact pre_ne f (hM _ (List.getElem_mem _)).ne rfl
/-! one door exchanged -/
theorem getD_swap {u v : List (List Nat)} {a b : List Nat} {i : Nat} (h : i ≠ u.length) : (u ++ a :: v).getD i [] = (u ++ b :: v).getD i [] := by
  simp only [List.getD]
  congr 1
  rcases Nat.lt_or_ge i u.length with c | c
  · rw [List.getElem?_append_left c, List.getElem?_append_left c]
  · rw [List.getElem?_append_right c, List.getElem?_append_right c]
    obtain ⟨k, hk⟩ : ∃ k, i - u.length = k + 1 := ⟨i - u.length - 1, by omega⟩
    rw [hk, List.getElem?_cons_succ, List.getElem?_cons_succ]
theorem getD_at {u v : List (List Nat)} {a : List Nat} : (u ++ a :: v).getD u.length [] = a := by simp [List.getD]
def swapI (p q i : Nat) : List Nat := if i = p then [q, p, q] else [i]
theorem swap_pair {p q : Nat} : ∀ i, Eqv (swapI p q i ++ swapI p q i) [] := fun i => by
  unfold swapI
  by_cases c : i = p
  · rw [if_pos c]
    have : ([q, p, q] : List Nat) ++ [q, p, q] = [q, p] ++ ([q] ++ [q]) ++ [p, q] := rfl
    rw [this]
    have k := Eqv.app (Eqv.app (Eqv.refl [q, p]) (Eqv.back1 [q])) (Eqv.refl [p, q])
    refine k.trans ?_
    exact Eqv.back1 [q, p]
  · rw [if_neg c]
    exact Eqv.back1 [i]
theorem swap_swap {p q : Nat} (h : q ≠ p) : ∀ w : List Nat, Eqv ((w.flatMap (swapI p q)).flatMap (swapI p q)) w
  | [] => Eqv.refl _
  | i :: w => by
    have ih := swap_swap h w
    show Eqv ((swapI p q i ++ w.flatMap (swapI p q)).flatMap (swapI p q)) ([i] ++ w)
    rw [List.flatMap_append]
    refine Eqv.app ?_ ih
    unfold swapI
    by_cases c : i = p
    · rw [if_pos c]
      subst c
      show Eqv (swapI i q q ++ (swapI i q i ++ (swapI i q q ++ []))) [i]
      unfold swapI
      rw [if_neg h, if_pos rfl]
      have : [q] ++ ([q, i, q] ++ ([q] ++ [])) = ([q] ++ [q]) ++ ([i] ++ ([q] ++ [q])) := rfl
      rw [this]
      exact (Eqv.app (Eqv.back1 [q]) (Eqv.app (Eqv.refl [i]) (Eqv.back1 [q]))).trans (Eqv.refl _)
    · rw [if_neg c]
      show Eqv (swapI p q i ++ []) [i]
      unfold swapI
      rw [if_neg c]
      exact Eqv.refl _
theorem free_swap {u v : List (List Nat)} {a b : List Nat} {q : Nat} (ha : Wy a) (hq : q ≠ u.length) (hql : q < (u ++ a :: v).length) (hb : (u ++ a :: v).getD q [] = b) (h : Free (u ++ seenL a b :: v)) : Free (u ++ a :: v) := by
  intro word hi he
  have le : (u ++ seenL a b :: v).length = (u ++ a :: v).length := by simp
  have ev : Eqv (evI (u ++ seenL a b :: v) (word.flatMap (swapI u.length q))) (evI (u ++ a :: v) word) := by
    clear he hi
    induction word with
    | nil => exact Eqv.refl _
    | cons i w ih =>
      show Eqv ((swapI u.length q i ++ w.flatMap (swapI u.length q)).flatMap (gen (u ++ seenL a b :: v))) (gen (u ++ a :: v) i ++ evI (u ++ a :: v) w)
      rw [List.flatMap_append]
      refine Eqv.app ?_ ih
      unfold swapI
      by_cases c : i = u.length
      · rw [if_pos c]
        subst c
        show Eqv (gen (u ++ seenL a b :: v) q ++ (gen (u ++ seenL a b :: v) u.length ++ (gen (u ++ seenL a b :: v) q ++ []))) _
        unfold gen
        rw [getD_at, getD_at, ← getD_swap (a := a) hq, hb, List.append_nil]
        have k := eqv_pal_seen (one := seenL a b) (other := b) (seen_ne ha.ne)
        rw [seen_twice ha.ne ha.ad, List.append_assoc] at k
        exact k.symm
      · rw [if_neg c]
        show Eqv (gen (u ++ seenL a b :: v) i ++ []) _
        unfold gen
        rw [List.append_nil, getD_swap (b := a) c]
        exact Eqv.refl _
  have z : redL (word.flatMap (swapI u.length q)) = [] := by
    refine h _ (fun i hm => ?_) (ev.trans he)
    obtain ⟨j, hj, hm⟩ := List.mem_flatMap.mp hm
    have := hi j hj
    rw [le]
    unfold swapI at hm
    by_cases c : j = u.length
    · rw [if_pos c] at hm
      simp only [List.mem_cons, List.not_mem_nil, or_false] at hm
      rcases hm with rfl | rfl | rfl
      · exact hql
      · rw [← c]; exact this
      · exact hql
    · rw [if_neg c] at hm
      have : i = j := by simpa using hm
      subst this
      exact hi i hj
  have z : Eqv (word.flatMap (swapI u.length q)) [] := z
  exact (swap_swap hq word).symm.trans (flat_eqv swap_pair z)
/-! fewer doors, in another order -/
theorem red_map {σ : Nat → Nat} {n : Nat} (h : ∀ i j, i < n → j < n → σ i = σ j → i = j) : ∀ k (w : List Nat), w.length = k → (∀ i ∈ w, i < n) → redL (w.map σ) = (redL w).map σ
  | 0, w, hl, _ => by
    rw [List.length_eq_zero_iff] at hl
    subst hl
    rfl
  | k + 1, w, hl, hi => by
    have ne : w ≠ [] := fun z => by rw [z] at hl; cases hl
    obtain ⟨v, c, rfl⟩ := snoc_of ne
    have ih := red_map h k v (by simpa using hl) fun i hm => hi i (List.mem_append_left _ hm)
    have hc : c < n := hi c (by simp)
    rw [List.map_append, List.map_singleton, redL_snoc, push_next, List.reverse_reverse, ih, redL_snoc, push_next, List.reverse_reverse]
    unfold nextL
    by_cases e : (redL v).getLast? = some c
    · rw [if_pos e, if_pos (by rw [List.getLast?_map, e]; rfl)]
      rw [List.map_dropLast]
    · rw [if_neg e, if_neg ?_, List.map_append, List.map_singleton]
      intro z
      rw [List.getLast?_map] at z
      obtain ⟨x, hx, hs⟩ := Option.map_eq_some_iff.mp z
      have xm := List.mem_of_getLast? hx
      have := h x c (hi x (List.mem_append_left _ (red_in xm))) hc hs
      subst this
      exact e hx
theorem free_sub {ws vs : List (List Nat)} (nd : ws.Nodup) (sub : ∀ w ∈ ws, w ∈ vs) (h : Free vs) : Free ws := by
  intro word hi he
  have spec : ∀ i (hi : i < ws.length), ∃ hj : vs.idxOf ws[i] < vs.length, vs[vs.idxOf ws[i]] = ws[i] := fun i hi =>
    ⟨List.idxOf_lt_length_of_mem (sub _ (List.getElem_mem _)), List.getElem_idxOf _⟩
  have inj : ∀ i j, i < ws.length → j < ws.length → vs.idxOf (ws.getD i []) = vs.idxOf (ws.getD j []) → i = j := fun i j hi hj e => by
    obtain ⟨h1, e1⟩ := spec i hi
    obtain ⟨h2, e2⟩ := spec j hj
    have gi : ws.getD i [] = ws[i] := by simp [List.getD, hi]
    have gj : ws.getD j [] = ws[j] := by simp [List.getD, hj]
    rw [gi, gj] at e
    have : ws[i] = ws[j] := by
      rw [← e1, ← e2]
      simp only [e]
    exact nodup_ix nd this
  have ev : evI vs (word.map fun i => vs.idxOf (ws.getD i [])) = evI ws word := by
    clear he
    induction word with
    | nil => rfl
    | cons i w ih =>
      show gen vs (vs.idxOf (ws.getD i [])) ++ evI vs (w.map fun i => vs.idxOf (ws.getD i [])) = gen ws i ++ evI ws w
      rw [ih fun k hk => hi k (List.mem_cons_of_mem _ hk)]
      congr 1
      have hil := hi i List.mem_cons_self
      obtain ⟨h1, e1⟩ := spec i hil
      have gi : ws.getD i [] = ws[i] := by simp [List.getD, hil]
      unfold gen
      rw [gi]
      congr 1
      simp [List.getD, h1, e1]
  have z := h (word.map fun i => vs.idxOf (ws.getD i [])) (fun i hm => by
    obtain ⟨j, hj, rfl⟩ := List.mem_map.mp hm
    have hjl := hi j hj
    obtain ⟨h1, e1⟩ := spec j hjl
    have gj : ws.getD j [] = ws[j] := by simp [List.getD, hjl]
    rw [gj]; exact h1) (by rw [ev]; exact he)
  rw [red_map inj word.length word rfl hi, List.map_eq_nil_iff] at z
  exact z
theorem fold_full : ∀ (xs L : List Str), (xs.foldl addT L).length = L.length + xs.length → xs.Nodup ∧ ∀ x ∈ xs, x ∉ L
  | [], L, _ => ⟨List.nodup_nil, fun x h => (List.not_mem_nil h).elim⟩
  | x :: xs, L, h => by
    rw [List.foldl_cons] at h
    have l1 := foldT_len xs (addT L x)
    have l2 := addT_len L x
    rw [List.length_cons] at h
    have e : (addT L x).length = L.length + 1 := by omega
    have nx : x ∉ L := fun z => by
      unfold addT at e
      rw [if_pos z] at e
      omega
    obtain ⟨i1, i2⟩ := fold_full xs (addT L x) (by omega)
    refine ⟨List.nodup_cons.mpr ⟨fun z => i2 x z (addT_mem.mpr (.inr rfl)), i1⟩, fun y hy => ?_⟩
    rcases List.mem_cons.mp hy with rfl | hy
    · exact nx
    · exact fun z => i2 y hy (addT_mem.mpr (.inl z))
theorem nodup_of_sort {ws : List (List Nat)} (h : (sortN ws).length = ws.length) : ws.Nodup := by
  have e : (sortN ws).length = (listT (ws.map S)).length := by
    unfold sortN sortT
    rw [List.length_map, (List.mergeSort_perm _ _).length_eq]
  have k := (fold_full (ws.map S) [] (by
    show (listT (ws.map S)).length = 0 + (ws.map S).length
    rw [← e, h, List.length_map, Nat.zero_add])).1
  exact List.Pairwise.imp (fun {a b} (h : S a ≠ S b) (e : a = b) => h (congrArg S e)) (List.pairwise_map.mp k)
/-- makers there are; if as many as doors, the doors are free -/
theorem makers_exist (n : Nat) : ∀ (W : List (List Nat)), tot W ≤ n → AllWy W → ∃ M, Asc M ∧ PreFree M ∧ AllWy M ∧ (∀ w, Cl M w ↔ Cl W w) ∧ M.length ≤ W.length ∧ (M.length = W.length → Free W) := by
  induction n using Nat.strongRecOn with
  | _ n ih =>
    intro W ht hw
    have wS : AllWy (sortN W) := fun w h => hw w (sortN_mem.mp h)
    have cS : ∀ w, Cl (sortN W) w ↔ Cl W w := fun w => ⟨Cl.trans fun x h => .base (sortN_mem.mp h), Cl.trans fun x h => .base (sortN_mem.mpr h)⟩
    have lS := sortN_len W
    by_cases c : NoNext (sortN W)
    · refine ⟨sortN W, sortN_asc W, noNext_free (sortN_asc W) c, wS, cS, lS, fun e => ?_⟩
      exact free_sub (nodup_of_sort e) (fun w h => sortN_mem.mpr h) (makers_free wS (sortN_asc W) (noNext_free (sortN_asc W) c))
    · have : ∃ i, ∃ h : i + 1 < (sortN W).length, (sortN W)[i] <+: (sortN W)[i + 1] := by
        by_cases k : ∃ i, ∃ h : i + 1 < (sortN W).length, (sortN W)[i] <+: (sortN W)[i + 1]
        · exact k
        · exact (c fun i h z => k ⟨i, h, z⟩).elim
      obtain ⟨i, hi, hp⟩ := this
      obtain ⟨u, p, q, v, eM, eu, ep, eq⟩ := two_split hi
      rw [← ep, ← eq] at hp
      have mp : p ∈ sortN W := by rw [ep]; exact List.getElem_mem _
      have mq : q ∈ sortN W := by rw [eq]; exact List.getElem_mem _
      have ne : p ≠ q := by
        have := asc_get (sortN_asc W) (show i < (sortN W).length by omega) hi (by omega)
        rw [← ep, ← eq] at this
        exact fun z => List.lt_irrefl _ (z ▸ this)
      have sh := seen_short (wS q mq) (wS p mp) hp ne
      have eM' : sortN W = (u ++ [p]) ++ q :: v := by rw [eM]; simp
      have t1 := tot_split (u ++ [p]) v q
      have t2 := tot_split (u ++ [p]) v (seenL q p)
      have t3 := sortN_tot W
      have tS : tot (sortN W) = tot ((u ++ [p]) ++ q :: v) := by rw [← eM']
      have wL : AllWy ((u ++ [p]) ++ seenL q p :: v) := fun w h => by
        rcases List.mem_append.mp h with h | h
        · exact wS w (by rw [eM']; exact List.mem_append_left _ h)
        · rcases List.mem_cons.mp h with rfl | h
          · exact (wS q mq).seen
          · exact wS w (by rw [eM']; exact List.mem_append_right _ (List.mem_cons_of_mem _ h))
      obtain ⟨M, m1, m2, m3, m4, m5, m6⟩ := ih (tot ((u ++ [p]) ++ seenL q p :: v)) (by omega) ((u ++ [p]) ++ seenL q p :: v) (Nat.le_refl _) wL
      have lL : ((u ++ [p]) ++ seenL q p :: v).length = (sortN W).length := by rw [eM']; simp
      refine ⟨M, m1, m2, m3, fun w => (m4 w).trans ?_, by omega, fun e => ?_⟩
      · have k := cl_swap (u := u ++ [p]) (v := v) (a := q) (b := p) (by rw [← eM']; exact wS) (by simp) w
        rw [← eM'] at k
        exact k.trans (cS w)
      · have f := m6 (by omega)
        have g : Free ((u ++ [p]) ++ q :: v) := free_swap (q := u.length) (wS q mq) (by simp) (by simp) (by
          rw [List.append_assoc]
          exact getD_at) f
        rw [← eM'] at g
        exact free_sub (nodup_of_sort (by omega)) (fun w h => sortN_mem.mpr h) g
end MD
end

section
set_option Elab.async false
set_option linter.all false
set_option maxRecDepth 100000
/-! Mth44: makers and folding, quicker where a maker has one letter. -/
namespace MD
open PySem L2

def seenQ (a b : List Nat) : List Nat := match b, a with
  | [c], x :: v => if (Nat.beq x c && !v.isEmpty && noAdj (x :: v)) = true then v else seenL a b
  | _, _ => seenL a b
theorem seenQ_eq (a b : List Nat) : seenQ a b = seenL a b := by
  unfold seenQ
  split
  · rename_i c x v
    split
    · rename_i h
      rw [Bool.and_eq_true, Bool.and_eq_true] at h
      have e := Nat.beq_eq.mp h.1.1
      subst e
      have vn : v ≠ [] := fun z => by rw [z] at h; exact absurd h.1.2 (by decide)
      have s := seen_cons vn h.2
      have t := seen_twice (b := [x]) vn (noAdj_tail h.2)
      rw [s] at t
      exact t.symm
    · rfl
  · rfl
def mkStepQ : List (List Nat) → Option (List (List Nat))
  | a :: b :: r => if List.isPrefixOf a b = true then some (a :: seenQ b a :: r) else (mkStepQ (b :: r)).map (a :: ·)
  | _ => none
theorem mkStepQ_eq : ∀ l, mkStepQ l = mkStep l
  | [] => rfl
  | [_] => rfl
  | a :: b :: r => by
    show (if List.isPrefixOf a b = true then some (a :: seenQ b a :: r) else (mkStepQ (b :: r)).map (a :: ·)) = (if List.isPrefixOf a b = true then some (a :: seenL b a :: r) else (mkStep (b :: r)).map (a :: ·))
    rw [mkStepQ_eq (b :: r), seenQ_eq]
def mkNQ : Nat → List (List Nat) → Option (List (List Nat))
  | 0, _ => none
  | n + 1, l => match mkStepQ l with
    | none => some l
    | some l' => mkNQ n (isort l')
theorem mkNQ_eq : ∀ n l, mkNQ n l = mkN n l
  | 0, _ => rfl
  | n + 1, l => by
    show (match mkStepQ l with | none => some l | some l' => mkNQ n (isort l')) = (match mkStep l with | none => some l | some l' => mkN n (isort l'))
    rw [mkStepQ_eq]
    cases mkStep l with
    | none => rfl
    | some l' => exact mkNQ_eq n (isort l')
def fwRQ (M : List (List Nat)) : Nat → List Nat → List (List Nat) → List Nat × List (List Nat)
  | 0, v, fs => (v, fs)
  | n + 1, v, fs => match (aheadOf M v).head? with
    | none => (v, fs)
    | some m => fwRQ M n (seenQ v m) (fs ++ [m])
theorem fwRQ_eq (M : List (List Nat)) : ∀ n v fs, fwRQ M n v fs = fwR M n v fs
  | 0, _, _ => rfl
  | n + 1, v, fs => by
    show (match (aheadOf M v).head? with | none => (v, fs) | some m => fwRQ M n (seenQ v m) (fs ++ [m])) = (match (aheadOf M v).head? with | none => (v, fs) | some m => fwR M n (seenL v m) (fs ++ [m]))
    cases (aheadOf M v).head? with
    | none => rfl
    | some m =>
      show fwRQ M n (seenQ v m) (fs ++ [m]) = fwR M n (seenL v m) (fs ++ [m])
      rw [seenQ_eq]
      exact fwRQ_eq M n _ _
def fastMakersQ : Ff := fun xs bx => match xs with
  | [x] => (match unSeq x with
    | some ws => if okWs ws = true then (match mkNQ 3000 (isort ws) with
      | some M => some (.tuple (txts M), bx)
      | none => makersF xs bx) else makersF xs bx
    | none => makersF xs bx)
  | _ => makersF xs bx
theorem fastMakersQ_eq : fastMakersQ = makersF := by
  rw [← fastMakers_eq]
  funext xs bx
  unfold fastMakersQ fastMakers
  simp only [mkNQ_eq] <;> rfl
def fastDfQ : Ff := fun xs bx => match xs with
  | [x, .str s] => (match unSeq x with
    | some M => if (okWs M && decide (isort M = M) && okW s.cps.toList) = true then (match mkStepQ M with
      | none => (match fwRQ M s.cps.toList.length s.cps.toList [] with
        | (r, fs) => some (.tuple [.str (S r), .tuple (txts fs)], bx))
      | some _ => dfF xs bx) else dfF xs bx
    | none => dfF xs bx)
  | _ => dfF xs bx
theorem fastDfQ_eq : fastDfQ = dfF := by
  rw [← fastDf_eq]
  funext xs bx
  unfold fastDfQ fastDf
  simp only [mkStepQ_eq, fwRQ_eq] <;> rfl
end MD
end

section
set_option Elab.async false
set_option linter.all false
set_option maxRecDepth 100000
set_option maxHeartbeats 4000000
namespace K43
open PySem L2 MD
def b_common : Sf := sSeq (sPar [] [2, 3] (aCons (eC (.int 0)) (aCons (eA min2D (aCons (eA lenD (aCons (eVar 0) (aNil))) (aCons (eA lenD (aCons (eVar 1) (aNil))) (aNil)))) (aNil))))
  (sSeq (whileF (tOf (e2 ltD (eVar 2) (eVar 3)))
  (sSeq (sSetM [] 4 (e2 fdivD (e2 addD (e2 addD (eVar 2) (eVar 3)) (eC (.int 1))) (eC (.int 2))))
  (sIf (tOf (e2 eqD (eSl slD (eVar 0) (pSo (eVar 2)) (pSo (eVar 4))) (eSl slD (eVar 1) (pSo (eVar 2)) (pSo (eVar 4)))))
  (sSetM [] 2 (eVar 4))
  (sSetM [] 3 (e2 subD (eVar 4) (eC (.int 1)))))) 100000)
  (sRet (eVar 2)))
def f_common : Ff := mkF 2 5 b_common
def b_back : Sf := sRet (e1 revD (eVar 0))
def f_back : Ff := mkF 1 1 b_back
def b_joined : Sf := sSeq (sSetM [] 2 (eCall f_common (aCons (eCall f_back (aCons (eVar 0) (aNil))) (aCons (eVar 1) (aNil)))))
  (sRet (e2 addD (eSl slD (eVar 0) (pNo) (pSo (e2 subD (eA lenD (aCons (eVar 0) (aNil))) (eVar 2)))) (eSl slD (eVar 1) (pSo (eVar 2)) (pNo))))
def f_joined : Ff := mkF 2 3 b_joined
def b_rooms_of : Sf := sRet (eA gTup (aCons (eSl slD (eVar 0) (pNo) (pSo (e1 negD (eC (.int 1))))) (aCons (eVar 0) (aNil))))
def f_rooms_of : Ff := mkF 1 1 b_rooms_of
def b_palindrome : Sf := sRet (e2 addD (eVar 0) (eCall f_back (aCons (eSl slD (eVar 0) (pNo) (pSo (e1 negD (eC (.int 1))))) (aNil))))
def f_palindrome : Ff := mkF 1 1 b_palindrome
def b_turned : Sf := sRet (eCall f_joined (aCons (eCall f_palindrome (aCons (eVar 0) (aNil))) (aCons (eVar 1) (aNil))))
def f_turned : Ff := mkF 2 2 b_turned
def b_farther : Sf := sRet (eA maxLenD (aCons (eVar 0) (aCons (eVar 1) (aNil))))
def f_farther : Ff := mkF 2 2 b_farther
def b_seen_in : Sf := sSeq (sAsg [] (setT [2, 3]) (eCall f_rooms_of (aCons (eVar 0) (aNil))))
  (sRet (eCall f_farther (aCons (eCall f_turned (aCons (eVar 1) (aCons (eVar 2) (aNil)))) (aCons (eCall f_turned (aCons (eVar 1) (aCons (eVar 3) (aNil)))) (aNil)))))
def f_seen_in : Ff := mkF 2 4 b_seen_in
def b_first_begun : Sf := sSeq (sFor [] (setN 1) (iArgs rangeD (aCons (eC (.int 1)) (aCons (eA lenD (aCons (eVar 0) (aNil))) (aNil))))
  (sIf (tOf (e2 startsD (eIx (eVar 0) (eVar 1)) (eIx (eVar 0) (e2 subD (eVar 1) (eC (.int 1))))))
  (sRet (eVar 1))
  (sNil)))
  (sRet (eC .none))
def f_first_begun : Ff := mkF 1 2 b_first_begun
def b_makers : Sf := sSeq (sSetM [] 1 (eA sortSetFD (aCons (eVar 0) aNil)))
  (sSeq (sSetM [] 2 (eCall f_first_begun (aCons (eVar 1) (aNil))))
  (sSeq (whileF (tOf (e2 notND (eVar 2) (eC .none)))
  (sSeq (sSetM [] 3 (eCall f_seen_in (aCons (eIx (eVar 1) (eVar 2)) (aCons (eIx (eVar 1) (e2 subD (eVar 2) (eC (.int 1)))) (aNil)))))
  (sSeq (sSetM [] 1 (eA sortSetFD (aCons (e2 addD (e2 addD (eSl slD (eVar 1) (pNo) (pSo (eVar 2))) (eA gLst (aCons (eVar 3) (aNil)))) (eSl slD (eVar 1) (pSo (e2 addD (eVar 2) (eC (.int 1)))) (pNo))) aNil)))
  (sSetM [] 2 (eCall f_first_begun (aCons (eVar 1) (aNil)))))) 100000)
  (sRet (eA tupFD (aCons (eVar 1) (aNil))))))
def f_makers : Ff := mkF 1 4 b_makers
def b_maker_ahead : Sf := sSeq (sFor [] (setN 2) (iOf itemsD (eVar 0))
  (sIf (tOf (e2 startsD (eVar 1) (eVar 2)))
  (sRet (eVar 2))
  (sNil)))
  (sRet (eC .none))
def f_maker_ahead : Ff := mkF 2 3 b_maker_ahead
def b_door_folded : Sf := sSeq (sSetO [] 2 (eA gLst (aNil)))
  (sSeq (sSetM [2] 3 (eCall f_maker_ahead (aCons (eVar 0) (aCons (eVar 1) (aNil)))))
  (sSeq (whileF (tAn (tOf (e2 notND (eVar 3) (eC .none))) (tOf (e2 neD (eVar 3) (eVar 1))))
  (sSeq (sApp [2] false 2 (eVar 3))
  (sSeq (sSetM [2] 1 (eCall f_seen_in (aCons (eVar 1) (aCons (eVar 3) (aNil)))))
  (sSetM [2] 3 (eCall f_maker_ahead (aCons (eVar 0) (aCons (eVar 1) (aNil))))))) 100000)
  (sRet (eA gTup (aCons (eVar 1) (aCons (eA tupFD (aCons (eVar 2) (aNil))) (aNil)))))))
def f_door_folded : Ff := mkF 2 4 b_door_folded
def b_told_by : Sf := sRet (e2 inD (eIx (eCall f_door_folded (aCons (eVar 0) (aCons (eVar 1) (aNil)))) (eC (.int 0))) (eVar 0))
def f_told_by : Ff := mkF 2 2 b_told_by
def b_is_of : Sf := sRet (eCall f_told_by (aCons (eCall f_makers (aCons (eVar 0) (aNil))) (aCons (eVar 1) (aNil))))
def f_is_of : Ff := mkF 2 2 b_is_of
def b_all_but : Sf := sRet (eLc [2] (setN 2) (iOf itemsD (eVar 0)) (tOf (e2 neD (eVar 2) (eVar 1))) (eVar 2))
def f_all_but : Ff := mkF 2 3 b_all_but
def b_needless : Sf := sSeq (sSetM [] 1 (eA sortSetFD (aCons (eVar 0) aNil)))
  (sRet (eA tupFD (aCons (eLc [2] (setN 2) (iOf itemsD (eVar 1)) (tOf (eCall f_is_of (aCons (eCall f_all_but (aCons (eVar 1) (aCons (eVar 2) (aNil)))) (aCons (eVar 2) (aNil))))) (eVar 2)) (aNil))))
def f_needless : Ff := mkF 1 3 b_needless
def b_are_free : Sf := sRet (e2 eqD (eA lenD (aCons (eCall f_makers (aCons (eVar 0) (aNil))) (aNil))) (eA lenSetFD (aCons (eVar 0) aNil)))
def f_are_free : Ff := mkF 1 1 b_are_free
def b__law_box : Sf := sSeq (sSetM [] 2 (eIf (tOf (e2 ltD (eVar 1) (eA lenD (aCons (eVar 0) (aNil))))) (eIx (eVar 0) (eVar 1)) (eC (.int 0)))) (sRet (eA gLst (aCons (e2 mulAD (eA absD (aCons (eVar 2) (aNil))) (eA intFD (aCons (e2 geD (eA absD (aCons (eVar 2) (aNil))) (e2 powD (eC (.int 10)) (eC (.int 18)))) (aNil)))) (aCons (e2 addD (e2 addD (e2 modD (eA intFD (aCons (eVar 2) (aNil))) (eC (.int 2305843009213693951))) (e2 mulAD (eC (.int 39373)) (eVar 1))) (eC (.int 45043))) (aCons (eC (.int 0)) (aNil))))))
def f__law_box : Ff := mkF 2 3 b__law_box
def b__law_take : Sf := sSeq (sIf (tOf (e2 gtD (eIx (eVar 0) (eC (.int 0))) (eC (.int 0))))
  (sSeq (sSetM [] 5 (e2 modD (eA intFD (aCons (eIx (eVar 0) (eC (.int 0))) (aNil))) (eVar 1)))
  (sSeq (sPutB 0 (eC (.int 0)) (e2 fdivD (eIx (eVar 0) (eC (.int 0))) (eVar 1)))
  (sRet (eVar 5))))
  (sNil))
  (sSeq (sPutB 0 (eC (.int 2)) (e2 addD (eIx (eVar 0) (eC (.int 2))) (eC (.int 1))))
  (sSeq (sSetM [] 2 (e2 modD (eA intFD (aCons (e2 mulAD (e2 addD (eIx (eVar 0) (eC (.int 1))) (e2 mulAD (eC (.int 48271)) (eIx (eVar 0) (eC (.int 2))))) (e2 addD (eC (.int 39373)) (eIx (eVar 0) (eC (.int 2))))) (aNil))) (eC (.int 2147483647))))
  (sSeq (sSetM [] 3 (e2 addD (e2 modD (eA intFD (aCons (eVar 2) (aNil))) (eC (.int 40009))) (eC (.int 7))))
  (sSeq (sSetM [] 4 (e2 modD (eA intFD (aCons (e2 mulAD (e2 addD (e2 addD (eVar 2) (eIx (eVar 0) (eC (.int 2)))) (e2 fdivD (eIx (eVar 0) (eC (.int 1))) (eC (.int 1000003)))) (eVar 3)) (aNil))) (eC (.int 2147483629))))
  (sRet (e2 modD (eA intFD (aCons (e2 fdivD (e2 modD (eA intFD (aCons (e2 addD (e2 mulAD (eVar 4) (eC (.int 48271))) (eVar 2)) (aNil))) (eC (.int 2147483587))) (eC (.int 64))) (aNil))) (eVar 1)))))))
def f__law_take : Ff := mkF 2 6 b__law_take
def b__law_cells : Sf := sSeq (sSetO [] 2 (eOr (eA listAD (aCons (eSl slD (eVar 0) (pNo) (pSo (eVar 1))) (aNil))) (eA gLst (aCons (eC (.int 0)) (aNil)))))
  (sSeq (sFor [2] (setT [3, 4]) (iArgs enumD (aCons (eSl slD (eVar 0) (pSo (eVar 1)) (pSo (eC (.int 63)))) (aNil)))
  (sSeq (sSetM [2] 5 (e2 modD (eA intFD (aCons (eVar 3) (aNil))) (eVar 1)))
  (sPut 2 (eVar 5) (e2 addD (eIx (eVar 2) (eVar 5)) (e2 mulAD (eVar 4) (e2 addD (eVar 3) (eC (.int 2))))))))
  (sRet (eVar 2)))
def f__law_cells : Ff := mkF 2 6 b__law_cells
def b__law_of : Sf := sRet (eIx (eVar 1) (eCall f__law_take (aCons (eVar 0) (aCons (eA lenD (aCons (eVar 1) (aNil))) (aNil)))))
def f__law_of : Ff := mkF 2 2 b__law_of
def b__law_same (self : Ff) : Sf := sSeq (sIf (tOf (e1 (isiD ["list", "tuple"]) (eVar 1)))
  (sSeq (sIf (tOrr (tOf (e2 neD (e1 (isiD ["list"]) (eVar 0)) (e1 (isiD ["list"]) (eVar 1)))) (tOf (e2 neD (e1 (isiD ["tuple"]) (eVar 0)) (e1 (isiD ["tuple"]) (eVar 1)))))
  (sRet (eC (.bool false)))
  (sNil))
  (sRet (eAn (e2 eqD (eA lenD (aCons (eVar 0) (aNil))) (eA lenD (aCons (eVar 1) (aNil)))) (eA allFD (aCons (eLc [2, 3] (setT [2, 3]) (iArgs zipD (aCons (eVar 0) (aCons (eVar 1) (aNil)))) (tYesF) (eCall self (aCons (eVar 2) (aCons (eVar 3) (aNil))))) (aNil))))))
  (sNil))
  (sSeq (sIf (tOrr (tOf (e2 isND (eVar 1) (eC .none))) (tOf (e1 (isiD ["bool", "str"]) (eVar 1))))
  (sRet (eAn (e2 eqD (eVar 0) (eVar 1)) (eAn (e2 eqD (e1 (isiD ["bool"]) (eVar 0)) (e1 (isiD ["bool"]) (eVar 1))) (e2 eqD (e2 isND (eVar 0) (eC .none)) (e2 isND (eVar 1) (eC .none))))))
  (sNil))
  (sRet (eAn (e1 (isiD ["int"]) (eVar 0)) (eAn (eNt (e1 (isiD ["bool"]) (eVar 0))) (e2 eqD (eVar 0) (eVar 1))))))
def r__law_same : Nat → Ff
  | 0 => fun _ => fail
  | n + 1 => mkF 2 4 (b__law_same (r__law_same n))
abbrev f__law_same : Ff := r__law_same 8
def b__law_reduced : Sf := sSeq (sSetM [] 1 (eC (.str (Str.ofString ""))))
  (sSeq (sFor [] (setN 2) (iOf itemsD (eVar 0))
  (sSetM [] 1 (eIf (tOf (e2 eqD (eSl slD (eVar 1) (pSo (e1 negD (eC (.int 1)))) (pNo)) (eVar 2))) (eSl slD (eVar 1) (pNo) (pSo (e1 negD (eC (.int 1))))) (e2 addD (eVar 1) (eVar 2)))))
  (sRet (eVar 1)))
def f__law_reduced : Ff := mkF 1 3 b__law_reduced
def b__law_row : Sf := sSeq (sSetM [] 3 (eC (.str (Str.ofString ""))))
  (sSeq (sFor [] (setN 4) (iArgs rangeD (aCons (eCall f__law_take (aCons (eVar 0) (aCons (e2 addD (eVar 2) (eC (.int 1))) (aNil)))) (aNil)))
  (sSeq (sSetM [] 5 (eLc [6] (setN 6) (iOf itemsD (eSl slD (eC (.str (Str.ofString "abcdefgh"))) (pNo) (pSo (eVar 1)))) (tOf (e2 neD (eVar 6) (eSl slD (eVar 3) (pSo (e1 negD (eC (.int 1)))) (pNo)))) (eVar 6)))
  (sSetM [] 3 (e2 addD (eVar 3) (eCall f__law_of (aCons (eVar 0) (aCons (eVar 5) (aNil))))))))
  (sRet (eVar 3)))
def f__law_row : Ff := mkF 3 7 b__law_row
def b__law_way : Sf := sSeq (sSetM [] 3 (eCall f__law_row (aCons (eVar 0) (aCons (eVar 1) (aCons (eVar 2) (aNil))))))
  (sRet (eIf (tOf (e2 neD (eVar 3) (eC (.str (Str.ofString ""))))) (eVar 3) (eCall f__law_of (aCons (eVar 0) (aCons (eSl slD (eC (.str (Str.ofString "abcdefgh"))) (pNo) (pSo (eVar 1))) (aNil))))))
def f__law_way : Ff := mkF 3 4 b__law_way
def b__law_pal : Sf := sRet (e2 addD (eVar 0) (e1 revD (eSl slD (eVar 0) (pNo) (pSo (e1 negD (eC (.int 1)))))))
def f__law_pal : Ff := mkF 1 1 b__law_pal
def b__law_seen : Sf := sSeq (sSetM [] 2 (eCall f__law_reduced (aCons (e2 addD (e2 addD (eCall f__law_pal (aCons (eVar 1) (aNil))) (eCall f__law_pal (aCons (eVar 0) (aNil)))) (eCall f__law_pal (aCons (eVar 1) (aNil)))) (aNil))))
  (sRet (eSl slD (eVar 2) (pNo) (pSo (e2 addD (e2 fdivD (eA lenD (aCons (eVar 2) (aNil))) (eC (.int 2))) (eC (.int 1))))))
def f__law_seen : Ff := mkF 2 3 b__law_seen
def b__law_lot : Sf := sSeq (sSetM [] 4 (eLc [5] (setN 5) (iArgs rangeD (aCons (eCall f__law_take (aCons (eVar 0) (aCons (e2 addD (eVar 2) (eC (.int 1))) (aNil)))) (aNil))) (tYesF) (eCall f__law_way (aCons (eVar 0) (aCons (eVar 1) (aCons (eVar 3) (aNil)))))))
  (sRet (eA tupFD (aCons (eA sortSetFD (aCons (eVar 4) aNil)) (aNil))))
def f__law_lot : Ff := mkF 4 6 b__law_lot
def b__law_closed : Sf := sSeq (sSetO [] 2 (eA sortSetFD (aCons (eVar 0) aNil)))
  (sSeq (sSetOV 3 (eA listAD (aCons (eVar 2) (aNil))))
  (sSeq (whileF (tOf (e2 neD (eVar 3) (eA gLst (aNil))))
  (sSeq (sPopT 3 (setN 4))
  (sForF (setN 5) (eA listAD (aCons (eVar 2) (aNil)))
  (sFor [3, 2] (setN 6) (iOf itemsD (eA gTup (aCons (eCall f__law_seen (aCons (eVar 4) (aCons (eVar 5) (aNil)))) (aCons (eCall f__law_seen (aCons (eVar 5) (aCons (eVar 4) (aNil)))) (aNil)))))
  (sIf (tAn (tOf (e2 leD (eA lenD (aCons (eVar 6) (aNil))) (eVar 1))) (tOf (e2 ninD (eVar 6) (eVar 2))))
  (sSeq (sApp [3, 2] false 2 (eVar 6))
  (sApp [3, 2] false 3 (eVar 6)))
  (sNil))))) 100000)
  (sRet (eA sortFD (aCons (eVar 2) (aNil))))))
def f__law_closed : Ff := mkF 2 7 b__law_closed
def b__law_first : Sf := sSeq (sSetO [] 1 (eA gLst (aNil)))
  (sSeq (sFor [1] (setN 2) (iOf itemsD (eVar 0))
  (sIf (tOf (e2 eqD (eLc [3] (setN 3) (iOf itemsD (eVar 0)) (tAn (tOf (e2 neD (eVar 3) (eVar 2))) (tOf (e2 eqD (eSl slD (eVar 2) (pNo) (pSo (eA lenD (aCons (eVar 3) (aNil))))) (eVar 3)))) (eVar 3)) (eA gLst (aNil))))
  (sApp [1] false 1 (eVar 2))
  (sNil)))
  (sRet (eA tupFD (aCons (eVar 1) (aNil)))))
def f__law_first : Ff := mkF 1 4 b__law_first
def b__law_size : Sf := sRet (eCall f__law_of (aCons (eVar 0) (aCons (eA gLst (aCons (eA gTup (aCons (eC (.int 2)) (aCons (eC (.int 5)) (aNil)))) (aCons (eA gTup (aCons (eC (.int 2)) (aCons (eC (.int 6)) (aNil)))) (aCons (eA gTup (aCons (eC (.int 3)) (aCons (eC (.int 3)) (aNil)))) (aCons (eA gTup (aCons (eC (.int 3)) (aCons (eC (.int 4)) (aNil)))) (aCons (eA gTup (aCons (eC (.int 4)) (aCons (eC (.int 2)) (aNil)))) (aNil))))))) (aNil))))
def f__law_size : Ff := mkF 1 1 b__law_size
def b__law_rows_right : Sf := sSeq (sSetM [] 1 (eLc [4] (setN 4) (iOf itemsD (eVar 0)) (tYesF) (eA gTup (aCons (eA gTup (aCons (eVar 4) (aNil))) (aCons (eCall f__law_pal (aCons (eVar 4) (aNil))) (aNil))))))
  (sSeq (sFor [] (setN 2) (iArgs rangeD (aCons (eC (.int 3)) (aNil)))
  (sSeq (sIf (tOf (e2 neD (eLc [5, 6] (setT [5, 6]) (iOf itemsD (eVar 1)) (tOf (e2 eqD (eVar 6) (eC (.str (Str.ofString ""))))) (eVar 6)) (eA gLst (aNil))))
  (sRet (eC (.bool false)))
  (sNil))
  (sSeq (sSetM [] 3 (eA gLst (aNil)))
  (sSeq (sFor [] (setT [5, 6]) (iOf itemsD (eVar 1))
  (sSeq (sSetM [] 7 (eLc [4] (setN 4) (iOf itemsD (eVar 0)) (tOf (e2 neD (eVar 4) (eIx (eVar 5) (e1 negD (eC (.int 1)))))) (eVar 4)))
  (sSetM [] 3 (e2 addD (eVar 3) (eLc [4] (setN 4) (iOf itemsD (eVar 7)) (tYesF) (eA gTup (aCons (e2 addD (eVar 5) (eA gTup (aCons (eVar 4) (aNil)))) (aCons (eCall f__law_reduced (aCons (e2 addD (eCall f__law_pal (aCons (eVar 4) (aNil))) (eVar 6)) (aNil))) (aNil)))))))))
  (sSetM [] 1 (eVar 3))))))
  (sRet (e2 eqD (eLc [5, 6] (setT [5, 6]) (iOf itemsD (eVar 1)) (tOf (e2 eqD (eVar 6) (eC (.str (Str.ofString ""))))) (eVar 6)) (eA gLst (aNil)))))
def f__law_rows_right : Ff := mkF 1 8 b__law_rows_right
def b__law_case_right : Sf := sSeq (sSetM [] 2 (eA tupFD (aCons (eLc [5] (setN 5) (iOf itemsD (eVar 0)) (tOf (e2 inD (eVar 5) (eCall f__law_closed (aCons (eLc [6] (setN 6) (iOf itemsD (eVar 0)) (tOf (e2 neD (eVar 6) (eVar 5))) (eVar 6)) (aCons (eVar 1) (aNil)))))) (eVar 5)) (aNil))))
  (sSeq (sSetM [] 3 (e2 eqD (eA lenD (aCons (eCall f__law_first (aCons (eCall f__law_closed (aCons (eVar 0) (aCons (eVar 1) (aNil)))) (aNil))) (aNil))) (eA lenD (aCons (eVar 0) (aNil)))))
  (sSeq (sSetM [] 4 (eA gLst (aCons (eCall f_needless (aCons (eVar 0) (aNil))) (aCons (eCallK [0] f_needless (aCons (e2 addD (eA listAD (aCons (e1 revD (eVar 0)) (aNil))) (eA listAD (aCons (eSl slD (eVar 0) (pNo) (pSo (eC (.int 1)))) (aNil)))) (aNil))) (aNil)))))
  (sSeq (sSetM [] 4 (e2 addD (eVar 4) (eA gLst (aCons (eCall f_are_free (aCons (eVar 0) (aNil))) (aCons (eCallK [0] f_are_free (aCons (e2 addD (eA listAD (aCons (eVar 0) (aNil))) (eA listAD (aCons (eSl slD (eVar 0) (pSo (e1 negD (eC (.int 1)))) (pNo)) (aNil)))) (aNil))) (aNil))))))
  (sRet (eAn (eCall f__law_same (aCons (eVar 4) (aCons (eA gLst (aCons (eVar 2) (aCons (eVar 2) (aCons (eVar 3) (aCons (eVar 3) (aNil)))))) (aNil)))) (eOr (eNt (eVar 3)) (eCall f__law_rows_right (aCons (eVar 0) (aNil)))))))))
def f__law_case_right : Ff := mkF 2 7 b__law_case_right
def b__law_by_hand_right : Sf := sSeq (sSetM [] 0 (eA gLst (aCons (eCall f_needless (aCons (eA gTup (aCons (eC (.str (Str.ofString "ab"))) (aCons (eC (.str (Str.ofString "b"))) (aCons (eC (.str (Str.ofString "bab"))) (aNil))))) (aNil))) (aCons (eCall f_needless (aCons (eA gTup (aCons (eC (.str (Str.ofString "ab"))) (aCons (eC (.str (Str.ofString "b"))) (aNil)))) (aNil))) (aCons (eCall f_needless (aCons (eA gTup (aNil)) (aNil))) (aCons (eCall f_needless (aCons (eA gTup (aCons (eC (.str (Str.ofString "a"))) (aNil))) (aNil))) (aCons (eCall f_needless (aCons (eA gLst (aCons (eC (.str (Str.ofString "a"))) (aCons (eC (.str (Str.ofString "a"))) (aNil)))) (aNil))) (aNil))))))))
  (sSeq (sSetM [] 1 (eA gLst (aCons (eA gTup (aCons (eC (.str (Str.ofString "ab"))) (aCons (eC (.str (Str.ofString "bab"))) (aNil)))) (aCons (eA gTup (aNil)) (aCons (eA gTup (aNil)) (aCons (eA gTup (aNil)) (aCons (eA gTup (aNil)) (aNil))))))))
  (sSeq (sSetM [] 0 (e2 addD (eVar 0) (eA gLst (aCons (eCall f_are_free (aCons (eA gTup (aCons (eC (.str (Str.ofString "ab"))) (aCons (eC (.str (Str.ofString "b"))) (aNil)))) (aNil))) (aCons (eCall f_are_free (aCons (eA gTup (aCons (eC (.str (Str.ofString "a"))) (aCons (eC (.str (Str.ofString "aba"))) (aNil)))) (aNil))) (aCons (eCall f_are_free (aCons (eA gTup (aCons (eC (.str (Str.ofString "ab"))) (aCons (eC (.str (Str.ofString "b"))) (aCons (eC (.str (Str.ofString "bab"))) (aNil))))) (aNil))) (aCons (eCall f_are_free (aCons (eA gTup (aNil)) (aNil))) (aNil))))))))
  (sSeq (sSetM [] 1 (e2 addD (eVar 1) (eA gLst (aCons (eC (.bool true)) (aCons (eC (.bool true)) (aCons (eC (.bool false)) (aCons (eC (.bool true)) (aNil))))))))
  (sSeq (sSetM [] 0 (e2 addD (eVar 0) (eA gLst (aCons (eCall f_are_free (aCons (eA gTup (aCons (eC (.str (Str.ofString "b"))) (aCons (eC (.str (Str.ofString "b"))) (aNil)))) (aNil))) (aCons (eCall f_are_free (aCons (eA gTup (aCons (eC (.str (Str.ofString "a"))) (aCons (eC (.str (Str.ofString "b"))) (aCons (eC (.str (Str.ofString "ab"))) (aNil))))) (aNil))) (aCons (eCall f_needless (aCons (eA gTup (aCons (eC (.str (Str.ofString "b"))) (aCons (eC (.str (Str.ofString "a"))) (aCons (eC (.str (Str.ofString "ab"))) (aNil))))) (aNil))) (aNil)))))))
  (sSeq (sSetM [] 0 (e2 addD (eVar 0) (eA gLst (aCons (eCall f_needless (aCons (eA gTup (aCons (eC (.str (Str.ofString "a"))) (aCons (eC (.str (Str.ofString "abcba"))) (aCons (eC (.str (Str.ofString "bc"))) (aNil))))) (aNil))) (aNil)))))
  (sSeq (sSetM [] 1 (e2 addD (eVar 1) (eA gLst (aCons (eC (.bool true)) (aCons (eC (.bool false)) (aCons (eA gTup (aCons (eC (.str (Str.ofString "ab"))) (aCons (eC (.str (Str.ofString "b"))) (aNil)))) (aCons (eA gTup (aCons (eC (.str (Str.ofString "abcba"))) (aNil))) (aNil))))))))
  (sSeq (sSetM [] 0 (e2 addD (eVar 0) (eA gLst (aCons (eCall f_needless (aCons (eA gTup (aCons (eC (.str (Str.ofString "bc"))) (aCons (eC (.str (Str.ofString "bcb"))) (aCons (eC (.str (Str.ofString "b"))) (aCons (eC (.str (Str.ofString "c"))) (aNil)))))) (aNil))) (aCons (eCall f_are_free (aCons (eA gTup (aCons (eC (.str (Str.ofString "bc"))) (aCons (eC (.str (Str.ofString "bcb"))) (aNil)))) (aNil))) (aCons (eCall f_needless (aCons (eA gTup (aCons (eC (.str (Str.ofString "bc"))) (aCons (eC (.str (Str.ofString "bcb"))) (aNil)))) (aNil))) (aNil)))))))
  (sSeq (sSetM [] 1 (e2 addD (eVar 1) (eA gLst (aCons (eA gTup (aCons (eC (.str (Str.ofString "b"))) (aCons (eC (.str (Str.ofString "bc"))) (aCons (eC (.str (Str.ofString "bcb"))) (aCons (eC (.str (Str.ofString "c"))) (aNil)))))) (aCons (eC (.bool true)) (aCons (eA gTup (aNil)) (aNil)))))))
  (sSeq (sSetM [] 0 (e2 addD (eVar 0) (eA gLst (aCons (eCall f_needless (aCons (eA gTup (aCons (e2 mulAD (eC (.str (Str.ofString "ab"))) (eC (.int 100))) (aCons (eC (.str (Str.ofString "a"))) (aCons (eC (.str (Str.ofString "b"))) (aNil))))) (aNil))) (aCons (eCall f_are_free (aCons (eA gTup (aCons (e2 mulAD (eC (.str (Str.ofString "ab"))) (eC (.int 100))) (aCons (eC (.str (Str.ofString "a"))) (aCons (eC (.str (Str.ofString "b"))) (aNil))))) (aNil))) (aNil))))))
  (sSeq (sSetM [] 0 (e2 addD (eVar 0) (eA gLst (aCons (eCall f_are_free (aCons (eA gTup (aCons (e2 mulAD (eC (.str (Str.ofString "ab"))) (eC (.int 100))) (aCons (e2 addD (e2 mulAD (eC (.str (Str.ofString "ab"))) (eC (.int 99))) (eC (.str (Str.ofString "a")))) (aNil)))) (aNil))) (aNil)))))
  (sSeq (sSetM [] 1 (e2 addD (eVar 1) (eA gLst (aCons (eA gTup (aCons (e2 mulAD (eC (.str (Str.ofString "ab"))) (eC (.int 100))) (aNil))) (aCons (eC (.bool false)) (aCons (eC (.bool true)) (aNil)))))))
  (sSeq (sSetM [] 0 (e2 addD (eVar 0) (eA gLst (aCons (eCall f_are_free (aCons (eA tupAD (aCons (eC (.str (Str.ofString "abcdefgh"))) (aNil))) (aNil))) (aCons (eCall f_are_free (aCons (e2 addD (eA tupAD (aCons (eC (.str (Str.ofString "abcdefgh"))) (aNil))) (eA gTup (aCons (eC (.str (Str.ofString "ab"))) (aNil)))) (aNil))) (aNil))))))
  (sRet (eCall f__law_same (aCons (eVar 0) (aCons (e2 addD (eVar 1) (eA gLst (aCons (eC (.bool true)) (aCons (eC (.bool false)) (aNil))))) (aNil)))))))))))))))))
def f__law_by_hand_right : Ff := mkF 0 2 b__law_by_hand_right
def b__law_right : Sf := sSeq (sFor [] (setN 1) (iArgs rangeD (aCons (eC (.int 5)) (aNil)))
  (sSeq (sAsg [] (setT [3, 4]) (eCall f__law_size (aCons (eVar 0) (aNil))))
  (sSeq (sSetM [] 2 (eCall f__law_lot (aCons (eVar 0) (aCons (eVar 3) (aCons (eC (.int 4)) (aCons (eVar 4) (aNil)))))))
  (sSeq (sIf (tAn (tOf (e2 neD (eVar 2) (eA gTup (aNil)))) (tOf (e2 eqD (eCall f__law_take (aCons (eVar 0) (aCons (eC (.int 2)) (aNil)))) (eC (.int 0)))))
  (sSetM [] 2 (eA tupFD (aCons (eA sortSetFD (aCons (e2 addD (eVar 2) (eA gTup (aCons (eCall f__law_of (aCons (eVar 0) (aCons (eCall f__law_closed (aCons (eVar 2) (aCons (eVar 4) (aNil)))) (aNil)))) (aNil)))) aNil)) (aNil))))
  (sNil))
  (sIf (tNt (tOf (eCall f__law_case_right (aCons (eVar 2) (aCons (eVar 4) (aNil))))))
  (sRet (eC (.bool false)))
  (sNil))))))
  (sRet (eC (.bool true)))
def f__law_right : Ff := mkF 1 5 b__law_right
def b_law : Sf := sSeq (sIf (tNt (tOf (eCall f__law_by_hand_right aNil)))
  (sRet (eC (.bool false)))
  (sNil))
  (sSeq (sSetM [] 1 (eCall f__law_cells (aCons (eVar 0) (aCons (eC (.int 3)) (aNil)))))
  (sRet (eA allFD (aCons (eLc [2] (setN 2) (iArgs rangeD (aCons (eA lenD (aCons (eVar 1) (aNil))) (aNil))) (tYesF) (eBox f__law_right (eCall f__law_box (aCons (eVar 1) (aCons (eVar 2) (aNil)))))) (aNil)))))
def f_law : Ff := mkF 1 3 b_law
def LawTrue : Prop := ∀ ns : List Int, ns.length ≤ 63 → (∀ z ∈ ns, Builtin.Int.intBits z ≤ 1048576) → isTrueF (f_law [rolD (ns.map .int)] none) = true
end K43
end

section
set_option Elab.async false
set_option linter.all false
set_option maxRecDepth 100000
namespace K43
open PySem L2 MD

theorem same_eq : ∀ n, r__law_same n = sameR n
  | 0 => rfl
  | n + 1 => by
    show mkF 2 4 (b__law_same (r__law_same n)) = mkF 2 4 (sameB (sameR n))
    rw [same_eq n]
    rfl
theorem same_yes {d : D} (bx : Bx) (h : Pl 8 d) : f__law_same [d, d] bx = some (.bool true, bx) := by
  rw [show f__law_same = sameR 8 from same_eq 8]
  exact same_ok 8 d bx h
def handB (nl : Ff) (af : Ff) (sm : Ff) : Sf := sSeq (sSetM [] 0 (eA gLst (aCons (eCall nl (aCons (eA gTup (aCons (eC (.str (Str.ofString "ab"))) (aCons (eC (.str (Str.ofString "b"))) (aCons (eC (.str (Str.ofString "bab"))) (aNil))))) (aNil))) (aCons (eCall nl (aCons (eA gTup (aCons (eC (.str (Str.ofString "ab"))) (aCons (eC (.str (Str.ofString "b"))) (aNil)))) (aNil))) (aCons (eCall nl (aCons (eA gTup (aNil)) (aNil))) (aCons (eCall nl (aCons (eA gTup (aCons (eC (.str (Str.ofString "a"))) (aNil))) (aNil))) (aCons (eCall nl (aCons (eA gLst (aCons (eC (.str (Str.ofString "a"))) (aCons (eC (.str (Str.ofString "a"))) (aNil)))) (aNil))) (aNil))))))))
  (sSeq (sSetM [] 1 (eA gLst (aCons (eA gTup (aCons (eC (.str (Str.ofString "ab"))) (aCons (eC (.str (Str.ofString "bab"))) (aNil)))) (aCons (eA gTup (aNil)) (aCons (eA gTup (aNil)) (aCons (eA gTup (aNil)) (aCons (eA gTup (aNil)) (aNil))))))))
  (sSeq (sSetM [] 0 (e2 addD (eVar 0) (eA gLst (aCons (eCall af (aCons (eA gTup (aCons (eC (.str (Str.ofString "ab"))) (aCons (eC (.str (Str.ofString "b"))) (aNil)))) (aNil))) (aCons (eCall af (aCons (eA gTup (aCons (eC (.str (Str.ofString "a"))) (aCons (eC (.str (Str.ofString "aba"))) (aNil)))) (aNil))) (aCons (eCall af (aCons (eA gTup (aCons (eC (.str (Str.ofString "ab"))) (aCons (eC (.str (Str.ofString "b"))) (aCons (eC (.str (Str.ofString "bab"))) (aNil))))) (aNil))) (aCons (eCall af (aCons (eA gTup (aNil)) (aNil))) (aNil))))))))
  (sSeq (sSetM [] 1 (e2 addD (eVar 1) (eA gLst (aCons (eC (.bool true)) (aCons (eC (.bool true)) (aCons (eC (.bool false)) (aCons (eC (.bool true)) (aNil))))))))
  (sSeq (sSetM [] 0 (e2 addD (eVar 0) (eA gLst (aCons (eCall af (aCons (eA gTup (aCons (eC (.str (Str.ofString "b"))) (aCons (eC (.str (Str.ofString "b"))) (aNil)))) (aNil))) (aCons (eCall af (aCons (eA gTup (aCons (eC (.str (Str.ofString "a"))) (aCons (eC (.str (Str.ofString "b"))) (aCons (eC (.str (Str.ofString "ab"))) (aNil))))) (aNil))) (aCons (eCall nl (aCons (eA gTup (aCons (eC (.str (Str.ofString "b"))) (aCons (eC (.str (Str.ofString "a"))) (aCons (eC (.str (Str.ofString "ab"))) (aNil))))) (aNil))) (aNil)))))))
  (sSeq (sSetM [] 0 (e2 addD (eVar 0) (eA gLst (aCons (eCall nl (aCons (eA gTup (aCons (eC (.str (Str.ofString "a"))) (aCons (eC (.str (Str.ofString "abcba"))) (aCons (eC (.str (Str.ofString "bc"))) (aNil))))) (aNil))) (aNil)))))
  (sSeq (sSetM [] 1 (e2 addD (eVar 1) (eA gLst (aCons (eC (.bool true)) (aCons (eC (.bool false)) (aCons (eA gTup (aCons (eC (.str (Str.ofString "ab"))) (aCons (eC (.str (Str.ofString "b"))) (aNil)))) (aCons (eA gTup (aCons (eC (.str (Str.ofString "abcba"))) (aNil))) (aNil))))))))
  (sSeq (sSetM [] 0 (e2 addD (eVar 0) (eA gLst (aCons (eCall nl (aCons (eA gTup (aCons (eC (.str (Str.ofString "bc"))) (aCons (eC (.str (Str.ofString "bcb"))) (aCons (eC (.str (Str.ofString "b"))) (aCons (eC (.str (Str.ofString "c"))) (aNil)))))) (aNil))) (aCons (eCall af (aCons (eA gTup (aCons (eC (.str (Str.ofString "bc"))) (aCons (eC (.str (Str.ofString "bcb"))) (aNil)))) (aNil))) (aCons (eCall nl (aCons (eA gTup (aCons (eC (.str (Str.ofString "bc"))) (aCons (eC (.str (Str.ofString "bcb"))) (aNil)))) (aNil))) (aNil)))))))
  (sSeq (sSetM [] 1 (e2 addD (eVar 1) (eA gLst (aCons (eA gTup (aCons (eC (.str (Str.ofString "b"))) (aCons (eC (.str (Str.ofString "bc"))) (aCons (eC (.str (Str.ofString "bcb"))) (aCons (eC (.str (Str.ofString "c"))) (aNil)))))) (aCons (eC (.bool true)) (aCons (eA gTup (aNil)) (aNil)))))))
  (sSeq (sSetM [] 0 (e2 addD (eVar 0) (eA gLst (aCons (eCall nl (aCons (eA gTup (aCons (e2 mulAD (eC (.str (Str.ofString "ab"))) (eC (.int 100))) (aCons (eC (.str (Str.ofString "a"))) (aCons (eC (.str (Str.ofString "b"))) (aNil))))) (aNil))) (aCons (eCall af (aCons (eA gTup (aCons (e2 mulAD (eC (.str (Str.ofString "ab"))) (eC (.int 100))) (aCons (eC (.str (Str.ofString "a"))) (aCons (eC (.str (Str.ofString "b"))) (aNil))))) (aNil))) (aNil))))))
  (sSeq (sSetM [] 0 (e2 addD (eVar 0) (eA gLst (aCons (eCall af (aCons (eA gTup (aCons (e2 mulAD (eC (.str (Str.ofString "ab"))) (eC (.int 100))) (aCons (e2 addD (e2 mulAD (eC (.str (Str.ofString "ab"))) (eC (.int 99))) (eC (.str (Str.ofString "a")))) (aNil)))) (aNil))) (aNil)))))
  (sSeq (sSetM [] 1 (e2 addD (eVar 1) (eA gLst (aCons (eA gTup (aCons (e2 mulAD (eC (.str (Str.ofString "ab"))) (eC (.int 100))) (aNil))) (aCons (eC (.bool false)) (aCons (eC (.bool true)) (aNil)))))))
  (sSeq (sSetM [] 0 (e2 addD (eVar 0) (eA gLst (aCons (eCall af (aCons (eA tupAD (aCons (eC (.str (Str.ofString "abcdefgh"))) (aNil))) (aNil))) (aCons (eCall af (aCons (e2 addD (eA tupAD (aCons (eC (.str (Str.ofString "abcdefgh"))) (aNil))) (eA gTup (aCons (eC (.str (Str.ofString "ab"))) (aNil)))) (aNil))) (aNil))))))
  (sRet (eCall sm (aCons (eVar 0) (aCons (e2 addD (eVar 1) (eA gLst (aCons (eC (.bool true)) (aCons (eC (.bool false)) (aNil))))) (aNil)))))))))))))))))
/-! ### the program -/
def isOf (mk tb : Ff) : Ff := mkF 2 2 (sRet (eCall tb (aCons (eCall mk (aCons (eVar 0) (aNil))) (aCons (eVar 1) (aNil)))))
def nlOf (is : Ff) (ss : List D → Option D) : Ff := mkF 1 3 (sSeq (sSetM [] 1 (eA ss (aCons (eVar 0) aNil)))
  (sRet (eA tupFD (aCons (eLc [2] (setN 2) (iOf itemsD (eVar 1)) (tOf (eCall is (aCons (eCall f_all_but (aCons (eVar 1) (aCons (eVar 2) (aNil)))) (aCons (eVar 2) (aNil))))) (eVar 2)) (aNil)))))
def afOf (mk : Ff) : Ff := mkF 1 1 (sRet (e2 eqD (eA lenD (aCons (eCall mk (aCons (eVar 0) (aNil))) (aNil))) (eA lenSetFD (aCons (eVar 0) aNil))))
theorem hand : isTN (f__law_by_hand_right [] none) = true := by
  have e : f__law_by_hand_right = mkF 0 2 (handB (nlOf (isOf makersF (tbOf dfF)) sortSetFD) (afOf makersF) (sameR 8)) := by
    rw [← same_eq 8]
    rfl
  rw [e, ← fastMakersQ_eq, ← fastDfQ_eq, ← fastSame_eq, ← fastSet_eq]
  decide +kernel
def butL (A : List (List Nat)) (w : List Nat) : List (List Nat) := A.filter fun d => !decide (d = w)
theorem but_ok {x : D} {A : List (List Nat)} {w : List Nat} {bx : Bx} (hx : Seqs x A) (hn : A.length ≤ 1000) : f_all_but [x, .str (S w)] bx = some (.list (txts (butL A w)), bx) := by
  refine fun_ok (run_F rfl (run_rt' (p_lc (p_of (p_var rfl) hx.items) (by rw [txts_len]; omega) ?_) ⟨rfl, rfl⟩))
  have h := comp_pure (set := setN 2) (tt := tOf (e2 neD (eVar 2) (eVar 1))) (el := eVar 2) (env0 := maskE [2] [some x, some (.str (S w)), none]) (bx := bx) (onT fun d => !decide (d = w)) id (ds := txts A) ?_
  · have e := h
    rw [List.map_id, txts_filter _ _ (onT_S _)] at e
    exact e
  · intro y hy
    obtain ⟨d, hd, rfl⟩ := List.mem_map.mp hy
    refine ⟨_, rfl, ?_, fun _ => p_var rfl⟩
    rw [onT_S]
    exact p_tOf (p_e2 (p_var rfl) (p_var rfl) neD_str) rfl
theorem but_bag {many lg k : Nat} {A : List (List Nat)} (h : Bag many lg k A) (w : List Nat) : Bag many lg k (butL A w) :=
  h.sub (fun z hz => (List.mem_filter.mp hz).1) (Nat.le_trans (List.length_filter_le _ _) h.no)
open Classical in
noncomputable def ndB (A : List (List Nat)) (w : List Nat) : Bool := decide (Cl (butL A w) w)
open Classical in
theorem ndB_iff {A : List (List Nat)} {w : List Nat} : ndB A w = true ↔ Cl (butL A w) w := by
  unfold ndB
  exact decide_eq_true_iff
theorem nil_ne : neD (.list []) (.list []) = some (.bool false) := neD_txts (a := []) (b := []) (fun l h => (List.not_mem_nil h).elim) (fun l h => (List.not_mem_nil h).elim)
theorem nil_eq : eqD (.list []) (.list []) = some (.bool true) := eqD_txts (a := []) (b := []) (fun l h => (List.not_mem_nil h).elim) (fun l h => (List.not_mem_nil h).elim)
noncomputable def ndL (A : List (List Nat)) : List (List Nat) := A.filter (ndB A)
section
variable {many lg k : Nat} {A : List (List Nat)}
theorem is_ok {w : List Nat} {bx : Bx} (h : Bag many lg k A) (hk : k ≤ 1000) (hl : lg ≤ 6) (hw : w ∈ A) : isOf makersF (tbOf dfF) [.list (txts (butL A w)), .str (S w)] bx = some (.bool (ndB A w), bx) := by
  have b := but_bag h w
  obtain ⟨M, e, hM⟩ := makers_bag (bx := bx) (sq_l (butL A w)) b hk hl
  have lM : ∀ m ∈ M, m.length ≤ 10000 := fun m hm => Nat.le_trans (hM.le lg b.le m hm).1 (by omega)
  have t := tb_ok (bx := bx) (sq_t M) hM.wy hM.free (h.wy w hw) (Nat.le_trans (h.le w hw) (by omega)) lM
  have q : inFam M w = ndB A w := by
    rw [Bool.eq_iff_iff, ndB_iff]
    exact inFam_iff hM (h.wy w hw)
  rw [q] at t
  exact fun_ok (run_F rfl (run_rt' (p_call (p_cons (p_call (p_cons (p_var rfl) p_nil) e) (p_cons (p_var rfl) p_nil)) t) ⟨rfl, rfl⟩))
theorem nl_ok {x : D} {V : List (List Nat)} {bx : Bx} (hx : Seqs x V) (hV : ∀ z, z ∈ V ↔ z ∈ A) (nV : V.length ≤ 4000) (aA : Asc A) (h : Bag many lg k A) (hk : k ≤ 1000) (hl : lg ≤ 6) : nlOf (isOf makersF (tbOf dfF)) sortSetFD [x] bx = some (.tuple (txts (ndL A)), bx) := by
  have nA := h.no
  have eS : sortN V = A := asc_ext (sortN_asc V) aA fun z => sortN_mem.trans (hV z)
  have s := sortSet_txts hx nV
  rw [eS] at s
  refine fun_ok (run_F rfl (run_seq (run_setM' (p_A1 (p_var rfl) s) (run_rt' (p_A1 (p_lc (ys := txts (ndL A)) (p_of (p_var rfl) (itemsD_lst _)) (by rw [txts_len]; omega) ?_) rfl) ⟨rfl, rfl⟩))))
  have hh := comp_pure (set := setN 2) (tt := tOf (eCall (isOf makersF (tbOf dfF)) (aCons (eCall f_all_but (aCons (eVar 1) (aCons (eVar 2) (aNil)))) (aCons (eVar 2) (aNil))))) (el := eVar 2) (env0 := maskE [2] [some x, some (.list (txts A)), none]) (bx := bx) (onT (ndB A)) id (ds := txts A) ?_
  · have e := hh
    rw [List.map_id, txts_filter _ _ (onT_S _)] at e
    exact e
  · intro y hy
    obtain ⟨w, hw, rfl⟩ := List.mem_map.mp hy
    refine ⟨_, rfl, ?_, fun _ => p_var rfl⟩
    rw [onT_S]
    exact p_tOf (p_call (p_cons (p_call (p_cons (p_var rfl) (p_cons (p_var rfl) p_nil)) (but_ok (sq_l A) (by omega))) (p_cons (p_var rfl) p_nil)) (is_ok h hk hl hw)) rfl
theorem lenSet_txts {x : D} {V : List (List Nat)} (hx : Seqs x V) (nV : V.length ≤ 4000) : lenSetFD [x] = some (.int (sortN V).length) := by
  have e : (sortN V).length = (listT (V.map S)).length := by
    unfold sortN sortT
    rw [List.length_map, (List.mergeSort_perm _ _).length_eq]
  have k : (strsD (txts V)).bind (fun xs => if xs.length ≤ 4000 then some (PyData.int (listT xs).length) else none) = some (.int (sortN V).length) := by
    rw [show strsD (txts V) = some (V.map S) from strsD_map V, e]
    show (if (V.map S).length ≤ 4000 then _ else _) = _
    rw [if_pos (by rw [List.length_map]; exact nV)]
  rcases hx with rfl | rfl <;> exact k
theorem af_ok {x : D} {V M : List (List Nat)} {bx : Bx} (hx : Seqs x V) (hV : ∀ z, z ∈ V ↔ z ∈ A) (nV : V.length ≤ 1000) (aA : Asc A) (h : Bag many lg k A) (hl : lg ≤ 6) (hM : Mk M A) : afOf makersF [x] bx = some (.bool (decide (M.length = A.length)), bx) := by
  have eS : sortN V = A := asc_ext (sortN_asc V) aA fun z => sortN_mem.trans (hV z)
  have bV : Bag many lg V.length V := h.sub (fun z hz => (hV z).mp hz) (Nat.le_refl _)
  have e := makers_bagM (bx := bx) hx bV nV hl hM fun w => Cl.congr hV w
  have s := lenSet_txts hx (by omega)
  rw [eS] at s
  have lt : lenD [.tuple (txts M)] = some (.int M.length) := by rw [lenD_tup, txts_len]
  refine fun_ok (run_F rfl (run_rt' (p_e2 (p_A1 (p_call (p_cons (p_var rfl) p_nil) e) lt) (p_A1 (p_var rfl) s) (show eqD (.int M.length) (.int A.length) = some (.bool (decide ((M.length : Int) = (A.length : Int)))) from rfl)) ⟨?_, rfl⟩))
  congr 1
  exact decide_eq_decide.mpr (by omega)
end
/-! ### rows of doors -/
structure GRow (A : List (List Nat)) (t : Nat) (r : List (List Nat)) : Prop where
  len : r.length = t + 1
  mem : ∀ x ∈ r, x ∈ A
  no : noAdj (r.map fun x => A.idxOf x) = true
def rowD (r : List (List Nat)) : D := .tuple [.tuple (txts r), .str (S (redL (motL r)))]
theorem ix_of {A : List (List Nat)} {x : List Nat} (h : x ∈ A) : ∃ hj : A.idxOf x < A.length, A[A.idxOf x] = x := ⟨List.idxOf_lt_length_of_mem h, List.getElem_idxOf _⟩
theorem ix_inj {A : List (List Nat)} {x y : List Nat} (hx : x ∈ A) (hy : y ∈ A) (e : A.idxOf x = A.idxOf y) : x = y := by
  obtain ⟨h1, e1⟩ := ix_of hx
  obtain ⟨h2, e2⟩ := ix_of hy
  rw [← e1, ← e2]
  simp only [e]
theorem mot_ev {A : List (List Nat)} : ∀ {r : List (List Nat)}, (∀ x ∈ r, x ∈ A) → motL r = evI A ((r.map fun x => A.idxOf x).reverse)
  | [], _ => rfl
  | w :: r, h => by
    have ih := mot_ev (r := r) fun x hx => h x (List.mem_cons_of_mem _ hx)
    obtain ⟨h1, e1⟩ := ix_of (h w List.mem_cons_self)
    show motL r ++ palL w = _
    rw [ih, List.map_cons, List.reverse_cons]
    unfold evI
    rw [List.flatMap_append]
    congr 1
    show palL w = gen A (A.idxOf w) ++ []
    unfold gen
    rw [List.append_nil]
    congr 1
    simp [List.getD, h1, e1]
theorem grow_ne {A r : List (List Nat)} {t : Nat} (hF : Free A) (h : GRow A t r) : redL (motL r) ≠ [] := by
  intro z
  have e : Eqv (evI A ((r.map fun x => A.idxOf x).reverse)) [] := by
    rw [← mot_ev h.mem]
    exact z
  have k := hF _ (fun i hi => by
    rw [List.mem_reverse, List.mem_map] at hi
    obtain ⟨x, hx, rfl⟩ := hi
    exact (ix_of (h.mem x hx)).1) e
  rw [redL_row (noAdj_rev h.no), List.reverse_eq_nil_iff, List.map_eq_nil_iff] at k
  have := h.len
  rw [k] at this
  cases this
theorem grow_more {A r : List (List Nat)} {t : Nat} {x : List Nat} (h : GRow A t r) (hx : x ∈ A) (hn : r.getLast? ≠ some x) : GRow A (t + 1) (r ++ [x]) := by
  refine ⟨by rw [List.length_append, h.len]; rfl, fun y hy => ?_, ?_⟩
  · rcases List.mem_append.mp hy with hy | hy
    · exact h.mem y hy
    · have : y = x := by simpa using hy
      rw [this]; exact hx
  · rw [List.map_append, List.map_singleton]
    refine noAdj_snoc h.no fun z => hn ?_
    rw [List.getLast?_map] at z
    obtain ⟨y, hy, e⟩ := Option.map_eq_some_iff.mp z
    rw [hy, ix_inj (h.mem y (List.mem_of_getLast? hy)) hx e]
theorem mot_len {n : Nat} : ∀ {r : List (List Nat)}, (∀ x ∈ r, x.length ≤ n) → (motL r).length ≤ 2 * n * r.length
  | [], _ => Nat.zero_le _
  | w :: r, h => by
    have ih := mot_len (r := r) fun x hx => h x (List.mem_cons_of_mem _ hx)
    have h1 := h w List.mem_cons_self
    have h2 := pal_le w
    show (motL r ++ palL w).length ≤ _
    rw [List.length_append, List.length_cons, Nat.mul_add, Nat.mul_one]
    omega
/-- no row leads "" back -/
theorem empty_ok {E : List (List (List Nat))} {env : Ev} {bx : Bx} {A : List (List Nat)} {t : Nat} (hF : Free A) (hE : ∀ r ∈ E, GRow A t r) (nE : E.length ≤ 10000) (h1 : env[1]? = some (some (.list (E.map rowD)))) (hl : env.length = 8) :
    Pu (eLc [5, 6] (setT [5, 6]) (iOf itemsD (eVar 1)) (tOf (e2 eqD (eVar 6) (eC (.str (Str.ofString ""))))) (eVar 6)) env bx (.list []) := by
  rw [emp]
  refine p_lc (p_of (p_var h1) (itemsD_lst _)) (by rw [List.length_map]; omega) ?_
  have h := comp_pure (set := setT [5, 6]) (tt := tOf (e2 eqD (eVar 6) (eC (.str (S []))))) (el := eVar 6) (env0 := maskE [5, 6] env) (bx := bx) (fun _ => false) id (ds := E.map rowD) ?_
  · rw [h, List.filter_eq_nil_iff.mpr (fun _ _ => by decide)]
    rfl
  · intro d hd
    obtain ⟨r, hr, rfl⟩ := List.mem_map.mp hd
    have ne := grow_ne hF (hE r hr)
    match env, hl with
    | [a0, a1, a2, a3, a4, a5, a6, a7], _ =>
      refine ⟨_, rfl, ?_, fun z => by cases z⟩
      refine p_tOf (p_e2 (p_var rfl) p_c eqD_str) ?_
      rw [decide_eq_false ne]
      try rfl
theorem filter_last {A : List (List Nat)} {x : List Nat} : butL A x = A.filter fun d => !decide (d = x) := rfl
theorem rows_ok {A : List (List Nat)} {bx : Bx} (hF : Free A) (hA : AllWy A) (nA : A.length ≤ 5) (lA : ∀ w ∈ A, w.length ≤ 6) : f__law_rows_right [.tuple (txts A)] bx = some (.bool true, bx) := by
  have lrow : ∀ {t : Nat} {r : List (List Nat)}, GRow A t r → t ≤ 4 → (redL (motL r)).length ≤ 100 := fun {t r} h ht => by
    have l1 := redL_le (motL r)
    have l2 := mot_len (n := 6) (r := r) fun x hx => lA x (h.mem x hx)
    rw [h.len] at l2
    omega
  refine fun_ok (run_F rfl (run_seq (run_setM' (d := .list ((A.map fun w => [w]).map rowD)) (p_lc (p_of (p_var rfl) (itemsD_tup _)) (by rw [txts_len]; omega) ?_) ?_)))
  · have h := comp_pure (set := setN 4) (tt := tYesF) (el := eA gTup (aCons (eA gTup (aCons (eVar 4) (aNil))) (aCons (eCall lpalF (aCons (eVar 4) (aNil))) (aNil)))) (env0 := maskE [4] [some (.tuple (txts A)), none, none, none, none, none, none, none]) (bx := bx) (fun _ => true)
      (fun d => match d with | .str x => rowD [unT x] | d => d) (ds := txts A) ?_
    · have e := h
      rw [List.filter_eq_self.mpr fun _ _ => rfl] at e
      refine e.trans ?_
      unfold txts
      rw [List.map_map, List.map_map]
      congr 2
    · intro y hy
      obtain ⟨w, hw, rfl⟩ := List.mem_map.mp hy
      refine ⟨_, rfl, rfl, fun _ => ?_⟩
      have l := lA w hw
      have e : rowD [unT (S w)] = .tuple [.tuple [.str (S w)], .str (S (palL w))] := by
        rw [unT_S]
        unfold rowD
        have : redL (motL [w]) = palL w := redL_row (noAdj_pal (hA w hw).ad)
        rw [this]
        rfl
      show _ = some (rowD [unT (S w)], bx)
      rw [e]
      exact p_A (p_cons (p_A (p_cons (p_var rfl) p_nil) (gTup_ok (show (1 : Nat) ≤ 1000000 by decide))) (p_cons (p_call (p_cons (p_var rfl) p_nil) (lpal_ok (by omega))) p_nil)) (g2t _ _)
  refine run_seq (run_for (Run.of (p_args (p_cons p_c p_nil) (rangeD1 (n := 3) (by decide) (by decide))) ?_))
  refine run_forL' (fun i env b => b = bx ∧ ∃ (E : List (List (List Nat))) (d2 d3 d4 d5 d6 d7 : Option D), env = [some (.tuple (txts A)), some (.list (E.map rowD)), d2, d3, d4, d5, d6, d7] ∧ (∀ r ∈ E, GRow A i r) ∧ E.length ≤ 5 ^ (i + 1)) ⟨rfl, A.map fun w => [w], none, none, none, none, none, none, rfl, fun r hr => ?_, by rw [List.length_map]; omega⟩ ?_ ?_
  · obtain ⟨w, hw, rfl⟩ := List.mem_map.mp hr
    exact ⟨rfl, fun x hx => by
      have : x = w := by simpa using hx
      rw [this]; exact hw, rfl⟩
  · rintro i d env b hd ⟨rfl, E, d2, d3, d4, d5, d6, d7, rfl, hE, nE⟩
    obtain ⟨rfl, hi⟩ := rangeItems_get hd
    have hi : i < 3 := hi
    have nE3 : E.length ≤ 1000 := Nat.le_trans nE (Nat.le_trans (Nat.pow_le_pow_right (by decide) (show i + 1 ≤ 4 by omega)) (by decide))
    refine ⟨_, rfl, ?_⟩
    refine run_seq (run_sif' (p_e2 (empty_ok (E := E) hF hE (by omega) rfl rfl) (p_lst (ds := []) p_nil (show (0 : Nat) ≤ 1000000 by decide)) nil_ne) rfl ?_)
    rw [if_neg (by decide)]
    refine run_snil (run_seq (run_setM' (p_lst (ds := []) p_nil (show (0 : Nat) ≤ 1000000 by decide)) ?_))
    refine run_seq (Run.mid (R := fun fl c => c = b ∧ ∃ (F : List (List (List Nat))) (d4 d5 d6 d7 : Option D), fl = .nx [some (.tuple (txts A)), some (.list (E.map rowD)), some (.int (0 + (i : Nat))), some (.list (F.map rowD)), d4, d5, d6, d7] ∧ (∀ r ∈ F, GRow A (i + 1) r) ∧ F.length ≤ 5 * E.length) (run_for (Run.of (p_of (p_var rfl) (itemsD_lst _)) ?_)) ?_)
    · refine run_forL' (fun j env c => c = b ∧ ∃ (F : List (List (List Nat))) (d4 d5 d6 d7 : Option D), env = [some (.tuple (txts A)), some (.list (E.map rowD)), some (.int (0 + (i : Nat))), some (.list (F.map rowD)), d4, d5, d6, d7] ∧ (∀ r ∈ F, GRow A (i + 1) r) ∧ F.length ≤ 5 * j) ⟨rfl, [], d4, d5, d6, d7, rfl, fun r h => (List.not_mem_nil h).elim, Nat.zero_le _⟩ ?_ ?_
      · rintro j d env c hd ⟨rfl, F, d4, d5, d6, d7, rfl, hF', nF⟩
        rw [List.getElem?_map] at hd
        obtain ⟨r, hr, rfl⟩ := Option.map_eq_some_iff.mp hd
        have hj : j < E.length := (List.getElem?_eq_some_iff.mp hr).1
        have gr := hE r (List.mem_of_getElem? hr)
        have lr := lrow gr (by omega)
        refine ⟨_, rfl, ?_⟩
        have rne : r ≠ [] := fun z => by have := gr.len; rw [z] at this; cases this
        obtain ⟨r0, x, rfl⟩ : ∃ r0 x, r = r0 ++ [x] := ⟨r.dropLast, r.getLast rne, (List.dropLast_concat_getLast rne).symm⟩
        have il : ixD (.tuple (txts (r0 ++ [x]))) (.int (-1)) = some (.str (S x)) := by
          show atI (txts (r0 ++ [x])) (-1) = _
          rw [atI_neg1, ← txts_app]
          exact List.getLast?_concat
        -- the doors that may follow
        have comp : ∀ Ev0 : Ev, Ev0 = [some (.tuple (txts A)), some (.list (E.map rowD)), some (.int (0 + (i : Nat))), some (.list (F.map rowD)), d4, some (.tuple (txts (r0 ++ [x]))), some (.str (S (redL (motL (r0 ++ [x]))))), d7] →
            Pu (eLc [4] (setN 4) (iOf itemsD (eVar 0)) (tOf (e2 neD (eVar 4) (eIx (eVar 5) (e1 negD (eC (.int 1)))))) (eVar 4)) Ev0 c (.list (txts (butL A x))) := by
          rintro _ rfl
          refine p_lc (p_of (p_var rfl) (itemsD_tup _)) (by rw [txts_len]; omega) ?_
          have h := comp_pure (set := setN 4) (tt := tOf (e2 neD (eVar 4) (eIx (eVar 5) (e1 negD (eC (.int 1)))))) (el := eVar 4) (env0 := maskE [4] [some (.tuple (txts A)), some (.list (E.map rowD)), some (.int (0 + (i : Nat))), some (.list (F.map rowD)), d4, some (.tuple (txts (r0 ++ [x]))), some (.str (S (redL (motL (r0 ++ [x]))))), d7]) (bx := c) (onT fun d => !decide (d = x)) id (ds := txts A) ?_
          · rw [h, List.map_id, txts_filter _ _ (onT_S _)]
            rfl
          · intro y hy
            obtain ⟨w, hw, rfl⟩ := List.mem_map.mp hy
            refine ⟨_, rfl, ?_, fun _ => p_var rfl⟩
            rw [onT_S]
            exact p_tOf (p_e2 (p_var rfl) (p_ix (p_var rfl) (p_e1 p_c rfl) (ixM_ix il)) neD_str) rfl
        refine run_seq (run_setM' (comp _ rfl) ?_)
        have bl : (butL A x).length ≤ 5 := Nat.le_trans (List.length_filter_le _ _) nA
        refine run_setM' (d := .list ((F ++ (butL A x).map fun w => r0 ++ [x] ++ [w]).map rowD)) (p_e2 (p_var rfl) (p_lc (ys := ((butL A x).map fun w => r0 ++ [x] ++ [w]).map rowD) (p_of (p_var rfl) (itemsD_lst _)) (by rw [txts_len]; omega) ?_) ?_) ⟨rfl, _, _, _, _, _, rfl, fun r hr => ?_, by simp only [List.length_append, List.length_map]; omega⟩
        · have h := comp_pure (set := setN 4) (tt := tYesF) (el := eA gTup (aCons (e2 addD (eVar 5) (eA gTup (aCons (eVar 4) (aNil)))) (aCons (eCall lredF (aCons (e2 addD (eCall lpalF (aCons (eVar 4) (aNil))) (eVar 6)) (aNil))) (aNil)))) (env0 := maskE [4] [some (.tuple (txts A)), some (.list (E.map rowD)), some (.int (0 + (i : Nat))), some (.list (F.map rowD)), d4, some (.tuple (txts (r0 ++ [x]))), some (.str (S (redL (motL (r0 ++ [x]))))), some (.list (txts (butL A x)))]) (bx := c) (fun _ => true)
            (fun d => match d with | .str y => rowD (r0 ++ [x] ++ [unT y]) | d => d) (ds := txts (butL A x)) ?_
          · have e := h
            rw [List.filter_eq_self.mpr fun _ _ => rfl] at e
            refine e.trans ?_
            unfold txts
            rw [List.map_map, List.map_map]
            congr 2
          · intro y hy
            obtain ⟨w, hw, rfl⟩ := List.mem_map.mp hy
            have wA : w ∈ A := (List.mem_filter.mp hw).1
            have lw := lA w wA
            have lp := pal_le w
            refine ⟨_, rfl, rfl, fun _ => ?_⟩
            show _ = some (rowD (r0 ++ [x] ++ [unT (S w)]), c)
            rw [unT_S]
            have e1 : addD (.tuple (txts (r0 ++ [x]))) (.tuple [.str (S w)]) = some (.tuple (txts (r0 ++ [x] ++ [w]))) := add_t (vs := [w]) (by have := gr.len; simp at this ⊢; omega)
            have e2 : redL (palL w ++ redL (motL (r0 ++ [x]))) = redL (motL (r0 ++ [x] ++ [w])) := by
              rw [red_right, mot_app (r0 ++ [x]) [w]]
              rfl
            have k := p_call (bx := c) (F := lredF) (p_cons (p_addS (p_call (p_cons (p_var (i := 4) (env := (maskE [4] [some (.tuple (txts A)), some (.list (E.map rowD)), some (.int (0 + (i : Nat))), some (.list (F.map rowD)), d4, some (.tuple (txts (r0 ++ [x]))), some (.str (S (redL (motL (r0 ++ [x]))))), some (.list (txts (butL A x)))]).set 4 (some (.str (S w)))) rfl) p_nil) (lpal_ok (by omega))) (p_var (i := 6) rfl) (by omega)) p_nil) (lred_ok (by rw [List.length_append]; omega))
            rw [e2] at k
            exact p_A (p_cons (p_e2 (p_var rfl) (p_A (p_cons (p_var rfl) p_nil) (gTup_ok (show (1 : Nat) ≤ 1000000 by decide))) e1) (p_cons k p_nil)) (g2t _ _)
        · rw [addD_list (by simp only [List.length_map]; omega), List.map_append]
        · rcases List.mem_append.mp hr with hr | hr
          · exact hF' r hr
          · obtain ⟨w, hw, rfl⟩ := List.mem_map.mp hr
            obtain ⟨w1, w2⟩ := List.mem_filter.mp hw
            refine grow_more gr w1 fun z => ?_
            rw [List.getLast?_concat] at z
            cases z
            simp at w2
      · rintro env c ⟨rfl, F, d4, d5, d6, d7, rfl, hF', nF⟩
        rw [List.length_map] at nF
        exact ⟨rfl, F, d4, d5, d6, d7, rfl, hF', nF⟩
    rintro fl c ⟨rfl, F, d4, d5, d6, d7, rfl, hF', nF⟩
    refine run_setM' (p_var rfl) ⟨rfl, F, _, _, _, _, _, _, rfl, hF', ?_⟩
    rw [Nat.pow_succ]
    omega
  · rintro env b ⟨rfl, E, d2, d3, d4, d5, d6, d7, rfl, hE, nE⟩
    rw [rangeItems_len] at hE nE
    have nE3 : E.length ≤ 1000 := Nat.le_trans nE (by decide)
    exact run_rt' (p_e2 (empty_ok (E := E) hF hE (by omega) rfl rfl) (p_lst (ds := []) p_nil (show (0 : Nat) ≤ 1000000 by decide)) nil_eq) ⟨rfl, rfl⟩
theorem first2 (a b c d : D) : addD (.list [a, b]) (.list [c, d]) = some (.list [a, b, c, d]) := addD_list (show (4 : Nat) ≤ 1000000 by decide)
theorem cut_last1 {A : List (List Nat)} : cutL (txts A) (some (-1)) none = txts (A.drop (A.length - 1)) := by
  rw [cut_last, txts_len, txts_drop]
theorem case_ok {A : List (List Nat)} {many lg : Nat} {bx : Bx} (hA : Lot many lg 5 A) (hs : (many, lg) ∈ sizes) : f__law_case_right [.tuple (txts A), .int lg] bx = some (.bool true, bx) := by
  obtain ⟨s1, s2, s3, s4, s5⟩ := sizes_ok _ hs
  have s4 : lg ≤ 6 := s4
  have nA := hA.no
  have oA : Okl A := fun w hw c hc => L8_ok c (mem_L8 ((hA.row w hw).le c hc))
  obtain ⟨C, e1, a1, h1, n1, l1, o1⟩ := closed_bag (bx := bx) (sq_t A) hA.bag (by decide) hs
  obtain ⟨M, k1, m1⟩ := makers_bag (bx := bx) (sq_t A) hA.bag (by decide) s4
  have nM := m1.len
  have eF := first_ok (bx := bx) (sq_l C) o1 (fun w hw => Nat.le_trans (l1 w hw) (by decide)) (by omega)
  rw [due_is m1 hA.le a1 h1] at eF
  -- the needless ones, by the law
  have due : Pu (eLc [5] (setN 5) (iOf itemsD (eVar 0)) (tOf (e2 inD (eVar 5) (eCall closedF (aCons (eLc [6] (setN 6) (iOf itemsD (eVar 0)) (tOf (e2 neD (eVar 6) (eVar 5))) (eVar 6)) (aCons (eVar 1) (aNil)))))) (eVar 5)) (maskE [] [some (.tuple (txts A)), some (.int lg), none, none, none, none, none]) bx (.list (txts (ndL A))) := by
    refine p_lc (p_of (p_var rfl) (itemsD_tup _)) (by rw [txts_len]; omega) ?_
    have h := comp_pure (set := setN 5) (tt := tOf (e2 inD (eVar 5) (eCall closedF (aCons (eLc [6] (setN 6) (iOf itemsD (eVar 0)) (tOf (e2 neD (eVar 6) (eVar 5))) (eVar 6)) (aCons (eVar 1) (aNil)))))) (el := eVar 5) (env0 := maskE [5] [some (.tuple (txts A)), some (.int lg), none, none, none, none, none]) (bx := bx) (onT (ndB A)) id (ds := txts A) ?_
    · have e := h
      rw [List.map_id, txts_filter _ _ (onT_S _)] at e
      exact e
    · intro y hy
      obtain ⟨w, hw, rfl⟩ := List.mem_map.mp hy
      refine ⟨_, rfl, ?_, fun _ => p_var rfl⟩
      rw [onT_S]
      have b := but_bag hA.bag w
      obtain ⟨D', e2', a2, h2, n2, l2, o2⟩ := closed_bag (bx := bx) (sq_l (butL A w)) b (by decide) hs
      obtain ⟨MB, _, mB⟩ := makers_bag (bx := bx) (sq_l (butL A w)) b (by decide) s4
      have key : decide (w ∈ D') = ndB A w := by
        rw [Bool.eq_iff_iff, ndB_iff, decide_eq_true_iff, h2]
        exact clL_iff mB b.le (hA.wy w hw) (hA.le w hw)
      have inner : Pu (eLc [6] (setN 6) (iOf itemsD (eVar 0)) (tOf (e2 neD (eVar 6) (eVar 5))) (eVar 6)) ((maskE [5] [some (.tuple (txts A)), some (.int lg), none, none, none, none, none]).set 5 (some (.str (S w)))) bx (.list (txts (butL A w))) := by
        refine p_lc (p_of (p_var rfl) (itemsD_tup _)) (by rw [txts_len]; omega) ?_
        have h := comp_pure (set := setN 6) (tt := tOf (e2 neD (eVar 6) (eVar 5))) (el := eVar 6) (env0 := maskE [6] [some (.tuple (txts A)), some (.int lg), none, none, none, some (.str (S w)), none]) (bx := bx) (onT fun d => !decide (d = w)) id (ds := txts A) ?_
        · have e := h
          rw [List.map_id, txts_filter _ _ (onT_S _)] at e
          exact e
        · intro y hy
          obtain ⟨d, hd, rfl⟩ := List.mem_map.mp hy
          refine ⟨_, rfl, ?_, fun _ => p_var rfl⟩
          rw [onT_S]
          exact p_tOf (p_e2 (p_var rfl) (p_var rfl) neD_str) rfl
      have t := p_e2 (bx := bx) (p_var (i := 5) (env := (maskE [5] [some (.tuple (txts A)), some (.int lg), none, none, none, none, none]).set 5 (some (.str (S w)))) rfl) (p_call (p_cons inner (p_cons (p_var (i := 1) rfl) p_nil)) e2') (inD_txts (a := w) (sq_l D'))
      rw [key] at t
      exact p_tOf t rfl
  refine fun_ok (run_F rfl (run_seq (run_setM' (p_A1 due (show tupFD [.list (txts (ndL A))] = some (.tuple (txts (ndL A))) from rfl)) ?_)))
  have lt : lenD [.tuple (txts M)] = some (.int M.length) := by rw [lenD_tup, txts_len]
  have lt2 : lenD [.tuple (txts A)] = some (.int A.length) := by rw [lenD_tup, txts_len]
  refine run_seq (run_setM' (p_e2 (p_A1 (p_call (p_cons (p_call (p_cons (p_var rfl) (p_cons (p_var rfl) p_nil)) e1) p_nil) eF) lt) (p_A1 (p_var rfl) lt2) (show eqD (.int M.length) (.int A.length) = some (.bool (decide ((M.length : Int) = (A.length : Int)))) from rfl)) ?_)
  have ed : decide ((M.length : Int) = (A.length : Int)) = decide (M.length = A.length) := decide_eq_decide.mpr (by omega)
  rw [ed]
  have tkA : slD (.tuple (txts A)) none (some 1) = some (.tuple (txts (A.take 1))) := by
    show some (PyData.tuple (cutL (txts A) none (some ((1 : Nat) : Int)))) = _
    rw [cut_to, txts_take]
  have drA : slD (.tuple (txts A)) (some (-1)) none = some (.tuple (txts (A.drop (A.length - 1)))) := by
    show some (PyData.tuple (cutL (txts A) (some (-1)) none)) = _
    rw [cut_last1]
  have t1 : (A.take 1).length ≤ 1 := by rw [List.length_take]; omega
  have t2 : (A.drop (A.length - 1)).length ≤ 1 := by rw [List.length_drop]; omega
  have V1 : ∀ z, z ∈ A.reverse ++ A.take 1 ↔ z ∈ A := fun z => by
    rw [List.mem_append, List.mem_reverse]
    exact ⟨fun h => h.elim id List.mem_of_mem_take, .inl⟩
  have V2 : ∀ z, z ∈ A ++ A.drop (A.length - 1) ↔ z ∈ A := fun z => by
    rw [List.mem_append]
    exact ⟨fun h => h.elim id List.mem_of_mem_drop, .inl⟩
  have g1 := nl_ok (bx := bx) (sq_t A) (fun z => Iff.rfl) (by omega) hA.asc hA.bag (by decide) s4
  have g2 : nlOf (isOf makersF (tbOf dfF)) sortSetFD (pick [0] [.list (txts (A.reverse ++ A.take 1))]) bx = some (.tuple (txts (ndL A)), bx) := nl_ok (sq_l _) V1 (by rw [List.length_append, List.length_reverse]; omega) hA.asc hA.bag (by decide) s4
  have f1 := af_ok (bx := bx) (sq_t A) (fun z => Iff.rfl) (by omega) hA.asc hA.bag s4 m1
  have f2 : afOf makersF (pick [0] [.list (txts (A ++ A.drop (A.length - 1)))]) bx = some (.bool (decide (M.length = A.length)), bx) := af_ok (sq_l _) V2 (by rw [List.length_append]; omega) hA.asc hA.bag s4 m1
  refine run_seq (run_setM' (p_A (p_cons (p_call (p_cons (p_var rfl) p_nil) g1) (p_cons (p_callK (p_cons (p_e2 (p_A1 (p_e1 (p_var rfl) (rev_t A)) (list_t _)) (p_A1 (p_sl (p_var rfl) rfl (p_so p_c) tkA) (list_t _)) (add_l (by rw [List.length_reverse]; omega))) p_nil) g2) p_nil)) gl_n) ?_)
  refine run_seq (run_setM' (p_e2 (p_var rfl) (p_A (p_cons (p_call (p_cons (p_var rfl) p_nil) f1) (p_cons (p_callK (p_cons (p_e2 (p_A1 (p_var rfl) (list_t _)) (p_A1 (p_sl (p_var rfl) (p_so (p_e1 p_c rfl)) rfl drA) (list_t _)) (add_l (by omega))) p_nil) f2) p_nil)) gl_n) (first2 _ _ _ _)) ?_)
  have nd : (ndL A).length ≤ 5 := Nat.le_trans (List.length_filter_le _ _) nA
  refine run_rt (run_eAn (Pu.run (p_call (p_cons (p_var rfl) (p_cons (p_A (p_cons (p_var rfl) (p_cons (p_var rfl) (p_cons (p_var rfl) (p_cons (p_var rfl) p_nil)))) gl_n) p_nil)) (same_yes _ (same_pl (show (4 : Nat) ≤ 1000000 by decide) ?_))) ⟨true, rfl, ?_⟩))
  · intro d hd
    simp only [List.mem_cons, List.not_mem_nil, or_false] at hd
    rcases hd with rfl | rfl | rfl | rfl
    · exact pl_tup (by omega)
    · exact pl_tup (by omega)
    · exact .bool _
    · exact .bool _
  rw [if_pos rfl]
  have nt : ∀ b : Bool, Pu (eNt (eVar 3)) [some (.tuple (txts A)), some (.int lg), some (.tuple (txts (ndL A))), some (.bool b), some (.list [.tuple (txts (ndL A)), .tuple (txts (ndL A)), .bool b, .bool b]), none, none] bx (.bool (!b)) := fun b => by cases b <;> rfl
  refine run_eOr (Pu.run (nt _) ⟨_, rfl, ?_⟩)
  by_cases c : M.length = A.length
  · rw [decide_eq_true c, if_neg (by decide)]
    have F : Free A := by
      obtain ⟨V, v1, v2, v3, v4, v5, v6⟩ := makers_exist (tot A) A (Nat.le_refl _) hA.wy
      have e := m1.one v1 v2 v3 v4
      subst e
      exact v6 c
    exact Pu.run (p_call (p_cons (p_var rfl) p_nil) (rows_ok F hA.wy nA fun w hw => Nat.le_trans (hA.le w hw) s4)) ⟨rfl, rfl⟩
  · rw [decide_eq_false c, if_pos (by decide)]
    exact ⟨rfl, rfl⟩
theorem right_ok (bx : Bx) (g : Good 10000 bx) : Run (f__law_right [boxD]) bx fun d _ => d = .bool true := by
  refine run_F rfl (run_seq (run_for (Run.of (p_args (p_cons p_c p_nil) (rangeD1 (n := 5) (by decide) (by decide))) ?_)))
  refine run_forL' (fun i env b => Good (10000 - 1000 * i) b ∧ ∃ d1 d2 d3 d4, env = [some boxD, d1, d2, d3, d4]) ⟨g, _, _, _, _, rfl⟩ ?_ ?_
  · rintro i d env b hd ⟨gb, d1, d2, d3, d4, rfl⟩
    obtain ⟨rfl, hi⟩ := rangeItems_get hd
    have hi5 : i < 5 := hi
    refine ⟨_, rfl, ?_⟩
    obtain ⟨m, hm⟩ : ∃ m, 10000 - 1000 * i = m + 1000 ∧ m = 10000 - 1000 * (i + 1) := ⟨_, by omega, rfl⟩
    rw [hm.1] at gb
    refine run_seq (run_bnd (run_call' (p_cons (p_var rfl) p_nil) ((size_ok (m := m + 999) gb).mono fun d b ⟨many, lg, e, hs, gb⟩ => ?_)))
    subst e
    obtain ⟨s1, s2, s3, s4, s5⟩ := sizes_ok _ hs
    have s4 : lg ≤ 6 := s4
    have s1 : 2 ≤ many := s1
    refine run_bnd (run_opt rfl (run_ret ?_))
    refine run_seq (run_setM (run_call' (p_cons (p_var rfl) (p_cons (p_var rfl) (p_cons p_c (p_cons (p_var rfl) p_nil)))) ?_))
    refine (lot_ok (m := m + 900) (k := 4) s1 (by omega) s3 (by decide) (gb.mono (by omega))).mono fun d b ⟨A, e, hA, gb⟩ => ?_
    subst e
    have oA : Okl A := fun w hw c hc => L8_ok c (mem_L8 ((hA.row w hw).le c hc))
    have nA := hA.no
    refine run_seq (Run.mid (R := fun fl b => ∃ B, Lot many lg 5 B ∧ Good m b ∧ fl = .nx [some boxD, some (.int (0 + (i : Nat))), some (.tuple (txts B)), some (.int many), some (.int lg)]) ?_ ?_)
    · have leave : Run (sNil [some boxD, some (.int (0 + (i : Nat))), some (.tuple (txts A)), some (.int many), some (.int lg)]) b fun fl b => ∃ B, Lot many lg 5 B ∧ Good m b ∧ fl = .nx [some boxD, some (.int (0 + (i : Nat))), some (.tuple (txts B)), some (.int many), some (.int lg)] :=
        run_snil ⟨A, ⟨hA.row, hA.ne, hA.le, by omega, hA.asc⟩, gb.mono (by omega), rfl⟩
      refine run_sif (run_tAn (Run.of (p_tOf (p_e2 (p_var rfl) (p_tup (ds := txts []) p_nil (show (0 : Nat) ≤ 1000000 by decide)) (neD_tup (b := []) oA fun l h => (List.not_mem_nil h).elim)) rfl) ?_))
      by_cases cA : A = []
      · rw [decide_eq_true cA, if_neg (by decide), if_neg (by decide)]
        exact leave
      · rw [decide_eq_false cA, if_pos (by decide)]
        refine run_tOf (run_e2 ?_)
        refine run_take (m := m + 700) (n := 2) rfl (by decide) (by decide) (gb.mono (by omega)) p_c fun r b hr gb => ?_
        refine Pu.run p_c ⟨_, rfl, _, rfl, ?_⟩
        by_cases c : ((r : Nat) : Int) = 0
        · rw [if_pos (decide_eq_true c)]
          obtain ⟨C, eC, aC, hC, nC, lC, oC⟩ := closed_bag (bx := b) (sq_t A) hA.bag (by decide) hs
          have neC : C ≠ [] := fun z => by
            obtain ⟨w, hw⟩ := List.exists_mem_of_ne_nil A cA
            have := (hC w).mpr (.base hw)
            rw [z] at this
            cases this
          have nz : txts C ≠ [] := fun z => neC (by simpa [txts] using z)
          refine run_setM (run_A (run_cons (run_A (run_cons (run_e2 (Pu.run (p_var rfl) (run_A (run_cons (run_call' (p_cons (p_var rfl) (p_cons (p_call (p_cons (p_var rfl) (p_cons (p_var rfl) p_nil)) eC) p_nil)) ?_)))))))))
          refine (of_list (m := m) nz (by rw [txts_len]; omega) (gb.mono (by omega))).mono fun d b ⟨hd, gb⟩ => ?_
          obtain ⟨w, hw, rfl⟩ := List.mem_map.mp hd
          have hcw := (hC w).mp hw
          have bB : Bag many lg 5 (A ++ [w]) := ⟨fun z hz => ?_, fun z hz => ?_, fun z hz => ?_, by simp; omega⟩
          · refine run_nil ⟨_, gTup_ok (show (1 : Nat) ≤ 1000000 by decide), _, add_t (vs := [w]) (by simp; omega), run_nil ⟨_, sortSet_txts (sq_t _) (by simp; omega), run_nil ⟨_, rfl, sortN (A ++ [w]), bB.sort, gb, rfl⟩⟩⟩
          · rcases List.mem_append.mp hz with hz | hz
            · exact hA.row z hz
            · have : z = w := by simpa using hz
              rw [this]
              exact ⟨(hcw.cl.wy hA.wy).ad, hA.letters hcw.cl⟩
          · rcases List.mem_append.mp hz with hz | hz
            · exact hA.ne z hz
            · have : z = w := by simpa using hz
              rw [this]
              exact (hcw.cl.wy hA.wy).ne
          · rcases List.mem_append.mp hz with hz | hz
            · exact hA.le z hz
            · have : z = w := by simpa using hz
              rw [this]
              exact hcw.short hA.le
        · rw [if_neg (by simpa using c)]
          exact run_snil ⟨A, ⟨hA.row, hA.ne, hA.le, by omega, hA.asc⟩, gb.mono (by omega), rfl⟩
    rintro fl b ⟨B, hB, gb, rfl⟩
    refine run_sif (run_tNt (run_tOf (Pu.run (p_call (p_cons (p_var rfl) (p_cons (p_var rfl) p_nil)) (case_ok hB hs)) ⟨_, rfl, ?_⟩)))
    rw [if_neg (by decide)]
    exact run_snil ⟨gb.mono (by omega), _, _, _, _, rfl⟩
  · rintro env b ⟨gb, d1, d2, d3, d4, rfl⟩
    exact run_rt' p_c rfl
theorem law_true : LawTrue := law_shape2 (off := 45043) (by decide) (by decide) (byhand := f__law_by_hand_right) (right := f__law_right) hand (m := 10000) (by decide) right_ok
end K43
end

section
set_option Elab.async false
set_option linter.all false
set_option maxRecDepth 100000
set_option maxHeartbeats 4000000
namespace K43
open PySem L2 MD
def top (i : Nat) : Stmt := PySem.Challenge.pw_mirrordoors_k43_needless_doors_and_free.main.body.getD i (.Pass ⟨0, 0, 0, 0⟩)
structure Txt (mg : Str → Option Value) : Prop where
  b_abs : mg "abs" = none
  b_all : mg "all" = none
  b_bool : mg "bool" = none
  b_enumerate : mg "enumerate" = none
  b_int : mg "int" = none
  b_isinstance : mg "isinstance" = none
  b_len : mg "len" = none
  b_list : mg "list" = none
  b_max : mg "max" = none
  b_min : mg "min" = none
  b_range : mg "range" = none
  b_set : mg "set" = none
  b_sorted : mg "sorted" = none
  b_str : mg "str" = none
  b_tuple : mg "tuple" = none
  b_zip : mg "zip" = none
section
variable {P : Program} {w : World} {K : PySem.W.Frag} {mg : Str → Option Value} {base : Heap}
abbrev st_common : Stmt := top 1
abbrev N_common : List Str := ["one", "other", "low", "high", "middle"]
abbrev P_common : List Str := ["one", "other"]
theorem sc_common : FnScope N_common P_common (defScope st_common) := ⟨rfl, rfl, rfl, by decide +kernel, rfl, by decide +kernel, by decide +kernel⟩
theorem ok_common {f : Addr} {fd : FuncData} (F : Fun K "common" "common" st_common f fd) (T : Txt mg) : FnOk P w K mg base CX0 1 f fd P_common (spOf K false f_common) := by
  show FnOk P w K mg base CX0 1 f fd P_common (spOf K false (mkF 2 5 (sSeq (sPar [] [2, 3] (aCons (eC (.int 0)) (aCons (eA min2D (aCons (eA lenD (aCons (eVar 0) (aNil))) (aCons (eA lenD (aCons (eVar 1) (aNil))) (aNil)))) (aNil))))
  (sSeq (whileF (tOf (e2 ltD (eVar 2) (eVar 3)))
  (sSeq (sSetM [] 4 (e2 fdivD (e2 addD (e2 addD (eVar 2) (eVar 3)) (eC (.int 1))) (eC (.int 2))))
  (sIf (tOf (e2 eqD (eSl slD (eVar 0) (pSo (eVar 2)) (pSo (eVar 4))) (eSl slD (eVar 1) (pSo (eVar 2)) (pSo (eVar 4)))))
  (sSetM [] 2 (eVar 4))
  (sSetM [] 3 (e2 subD (eVar 4) (eC (.int 1)))))) 100000)
  (sRet (eVar 2))))))
  exact def_ok rfl rfl F sc_common fun cdv A outer s H E hr => sss_cons (ss_par2 (own := []) (i := 2) (j := 3) (sa_cons (se_int) (sa_cons (se_callB (call_min2 rfl) min2D_sem (sa_cons (se_callB call_len lenD_sem (sa_cons (se_var 0) (sa_nil)) T.b_len) (sa_cons (se_callB call_len lenD_sem (sa_cons (se_var 1) (sa_nil)) T.b_len) (sa_nil))) T.b_min) (sa_nil))) (fun _ pa => ps_par rfl sc_common.nd rfl rfl (by decide) rfl rfl pa (by rfl)))
        (sss_cons (ss_while (own := []) 100000 PassesOwn.never (st_cmp op_lt ltD_sem (se_var 2) (se_var 3) (hg := hgLt))
        (sss_cons (ss_setM (own := []) (sas_set (i := 4) sc_common.nd (se_op op_fdivW fdivD_sem (se_op op_addAll addD_sem (se_op op_addAll addD_sem (se_var 2) (se_var 3)) (se_int)) (se_int))))
        (sss_one (ss_if (st_cmp (op_eqAll hr) eqD_sem (se_sl (se_var 0) (so_so (se_var 2)) (so_so (se_var 4))) (se_sl (se_var 1) (so_so (se_var 2)) (so_so (se_var 4))) (hg := hgEq))
        (sss_one (ss_setM (own := []) (sas_set (i := 2) sc_common.nd (se_var 4))))
        (sss_one (ss_setM (own := []) (sas_set (i := 3) sc_common.nd (se_op op_sub subD_sem (se_var 4) (se_int)))))))))
        (sss_one (ss_ret (own' := []) (se_var 2))))
abbrev st_back : Stmt := top 3
abbrev N_back : List Str := ["row"]
abbrev P_back : List Str := ["row"]
theorem sc_back : FnScope N_back P_back (defScope st_back) := ⟨rfl, rfl, rfl, by decide +kernel, rfl, by decide +kernel, by decide +kernel⟩
theorem ok_back {f : Addr} {fd : FuncData} (F : Fun K "back" "back" st_back f fd) (T : Txt mg) : FnOk P w K mg base CX0 1 f fd P_back (spOf K false f_back) := by
  show FnOk P w K mg base CX0 1 f fd P_back (spOf K false (mkF 1 1 (sRet (e1 revD (eVar 0)))))
  exact def_ok rfl rfl F sc_back fun cdv A outer s H E hr => sss_one (ss_ret (own' := []) (se_revS (se_var 0)))
abbrev st_joined : Stmt := top 2
abbrev N_joined : List Str := ["one", "other", "gone"]
abbrev P_joined : List Str := ["one", "other"]
theorem sc_joined : FnScope N_joined P_joined (defScope st_joined) := ⟨rfl, rfl, rfl, by decide +kernel, rfl, by decide +kernel, by decide +kernel⟩
theorem ok_joined {f : Addr} {fd : FuncData} (F : Fun K "joined" "joined" st_joined f fd) (T : Txt mg)
    {a_common : Addr} {fd_common : FuncData} (C_common : Cal P w K mg base 1 "common" P_common false f_common a_common fd_common)
    {a_back : Addr} {fd_back : FuncData} (C_back : Cal P w K mg base 1 "back" P_back false f_back a_back fd_back) : FnOk P w K mg base CX0 2 f fd P_joined (spOf K false f_joined) := by
  show FnOk P w K mg base CX0 2 f fd P_joined (spOf K false (mkF 2 3 (sSeq (sSetM [] 2 (eCall f_common (aCons (eCall f_back (aCons (eVar 0) (aNil))) (aCons (eVar 1) (aNil)))))
  (sRet (e2 addD (eSl slD (eVar 0) (pNo) (pSo (e2 subD (eA lenD (aCons (eVar 0) (aNil))) (eVar 2)))) (eSl slD (eVar 1) (pSo (eVar 2)) (pNo)))))))
  exact def_ok rfl rfl F sc_joined fun cdv A outer s H E hr => sss_cons (ss_setM (own := []) (sas_set (i := 2) sc_joined.nd (se_call C_common.ok (hr.mono (by omega)) C_common.mg C_common.kp C_common.bn (sa_cons (se_call C_back.ok (hr.mono (by omega)) C_back.mg C_back.kp C_back.bn (sa_cons (se_var 0) (sa_nil))) (sa_cons (se_var 1) (sa_nil))))))
        (sss_one (ss_ret (own' := []) (se_op op_addAll addD_sem (se_sl (se_var 0) (so_no) (so_so (se_op op_sub subD_sem (se_callB call_len lenD_sem (sa_cons (se_var 0) (sa_nil)) T.b_len) (se_var 2)))) (se_sl (se_var 1) (so_so (se_var 2)) (so_no)))))
abbrev st_rooms_of : Stmt := top 4
abbrev N_rooms_of : List Str := ["way"]
abbrev P_rooms_of : List Str := ["way"]
theorem sc_rooms_of : FnScope N_rooms_of P_rooms_of (defScope st_rooms_of) := ⟨rfl, rfl, rfl, by decide +kernel, rfl, by decide +kernel, by decide +kernel⟩
theorem ok_rooms_of {f : Addr} {fd : FuncData} (F : Fun K "rooms_of" "rooms_of" st_rooms_of f fd) (T : Txt mg) : FnOk P w K mg base CX0 1 f fd P_rooms_of (spOf K false f_rooms_of) := by
  show FnOk P w K mg base CX0 1 f fd P_rooms_of (spOf K false (mkF 1 1 (sRet (eA gTup (aCons (eSl slD (eVar 0) (pNo) (pSo (e1 negD (eC (.int 1))))) (aCons (eVar 0) (aNil)))))))
  exact def_ok rfl rfl F sc_rooms_of fun cdv A outer s H E hr => sss_one (ss_ret (own' := []) (se_tup (sa_cons (se_sl (se_var 0) (so_no) (so_so (se_un un_neg negD_sem (se_int)))) (sa_cons (se_var 0) (sa_nil)))))
abbrev st_palindrome : Stmt := top 5
abbrev N_palindrome : List Str := ["way"]
abbrev P_palindrome : List Str := ["way"]
theorem sc_palindrome : FnScope N_palindrome P_palindrome (defScope st_palindrome) := ⟨rfl, rfl, rfl, by decide +kernel, rfl, by decide +kernel, by decide +kernel⟩
theorem ok_palindrome {f : Addr} {fd : FuncData} (F : Fun K "palindrome" "palindrome" st_palindrome f fd) (T : Txt mg)
    {a_back : Addr} {fd_back : FuncData} (C_back : Cal P w K mg base 1 "back" P_back false f_back a_back fd_back) : FnOk P w K mg base CX0 2 f fd P_palindrome (spOf K false f_palindrome) := by
  show FnOk P w K mg base CX0 2 f fd P_palindrome (spOf K false (mkF 1 1 (sRet (e2 addD (eVar 0) (eCall f_back (aCons (eSl slD (eVar 0) (pNo) (pSo (e1 negD (eC (.int 1))))) (aNil)))))))
  exact def_ok rfl rfl F sc_palindrome fun cdv A outer s H E hr => sss_one (ss_ret (own' := []) (se_op op_addAll addD_sem (se_var 0) (se_call C_back.ok (hr.mono (by omega)) C_back.mg C_back.kp C_back.bn (sa_cons (se_sl (se_var 0) (so_no) (so_so (se_un un_neg negD_sem (se_int)))) (sa_nil)))))
abbrev st_turned : Stmt := top 6
abbrev N_turned : List Str := ["way", "room"]
abbrev P_turned : List Str := ["way", "room"]
theorem sc_turned : FnScope N_turned P_turned (defScope st_turned) := ⟨rfl, rfl, rfl, by decide +kernel, rfl, by decide +kernel, by decide +kernel⟩
theorem ok_turned {f : Addr} {fd : FuncData} (F : Fun K "turned" "turned" st_turned f fd) (T : Txt mg)
    {a_joined : Addr} {fd_joined : FuncData} (C_joined : Cal P w K mg base 2 "joined" P_joined false f_joined a_joined fd_joined)
    {a_palindrome : Addr} {fd_palindrome : FuncData} (C_palindrome : Cal P w K mg base 2 "palindrome" P_palindrome false f_palindrome a_palindrome fd_palindrome) : FnOk P w K mg base CX0 3 f fd P_turned (spOf K false f_turned) := by
  show FnOk P w K mg base CX0 3 f fd P_turned (spOf K false (mkF 2 2 (sRet (eCall f_joined (aCons (eCall f_palindrome (aCons (eVar 0) (aNil))) (aCons (eVar 1) (aNil)))))))
  exact def_ok rfl rfl F sc_turned fun cdv A outer s H E hr => sss_one (ss_ret (own' := []) (se_call C_joined.ok (hr.mono (by omega)) C_joined.mg C_joined.kp C_joined.bn (sa_cons (se_call C_palindrome.ok (hr.mono (by omega)) C_palindrome.mg C_palindrome.kp C_palindrome.bn (sa_cons (se_var 0) (sa_nil))) (sa_cons (se_var 1) (sa_nil)))))
abbrev st_farther : Stmt := top 9
abbrev N_farther : List Str := ["one", "other"]
abbrev P_farther : List Str := ["one", "other"]
theorem sc_farther : FnScope N_farther P_farther (defScope st_farther) := ⟨rfl, rfl, rfl, by decide +kernel, rfl, by decide +kernel, by decide +kernel⟩
theorem ok_farther {f : Addr} {fd : FuncData} (F : Fun K "farther" "farther" st_farther f fd) (T : Txt mg) : FnOk P w K mg base CX0 1 f fd P_farther (spOf K false f_farther) := by
  show FnOk P w K mg base CX0 1 f fd P_farther (spOf K false (mkF 2 2 (sRet (eA maxLenD (aCons (eVar 0) (aCons (eVar 1) (aNil)))))))
  exact def_ok rfl rfl F sc_farther fun cdv A outer s H E hr => sss_one (ss_ret (own' := []) (se_maxLen (sa_cons (se_var 0) (sa_cons (se_var 1) (sa_nil))) T.b_max T.b_len))
abbrev st_seen_in : Stmt := top 8
abbrev N_seen_in : List Str := ["one", "other", "near", "far"]
abbrev P_seen_in : List Str := ["one", "other"]
theorem sc_seen_in : FnScope N_seen_in P_seen_in (defScope st_seen_in) := ⟨rfl, rfl, rfl, by decide +kernel, rfl, by decide +kernel, by decide +kernel⟩
theorem ok_seen_in {f : Addr} {fd : FuncData} (F : Fun K "seen_in" "seen_in" st_seen_in f fd) (T : Txt mg)
    {a_rooms_of : Addr} {fd_rooms_of : FuncData} (C_rooms_of : Cal P w K mg base 1 "rooms_of" P_rooms_of false f_rooms_of a_rooms_of fd_rooms_of)
    {a_farther : Addr} {fd_farther : FuncData} (C_farther : Cal P w K mg base 1 "farther" P_farther false f_farther a_farther fd_farther)
    {a_turned : Addr} {fd_turned : FuncData} (C_turned : Cal P w K mg base 3 "turned" P_turned false f_turned a_turned fd_turned) : FnOk P w K mg base CX0 4 f fd P_seen_in (spOf K false f_seen_in) := by
  show FnOk P w K mg base CX0 4 f fd P_seen_in (spOf K false (mkF 2 4 (sSeq (sAsg [] (setT [2, 3]) (eCall f_rooms_of (aCons (eVar 0) (aNil))))
  (sRet (eCall f_farther (aCons (eCall f_turned (aCons (eVar 1) (aCons (eVar 2) (aNil)))) (aCons (eCall f_turned (aCons (eVar 1) (aCons (eVar 3) (aNil)))) (aNil))))))))
  exact def_ok rfl rfl F sc_seen_in fun cdv A outer s H E hr => sss_cons (ss_asg (own := []) (se_call C_rooms_of.ok (hr.mono (by omega)) C_rooms_of.mg C_rooms_of.kp C_rooms_of.bn (sa_cons (se_var 0) (sa_nil))) (sg_tup rfl (sgs_cons (i := 2) (sgs_cons (i := 3) (sgs_nil) sc_seen_in.nd) sc_seen_in.nd)))
        (sss_one (ss_ret (own' := []) (se_call C_farther.ok (hr.mono (by omega)) C_farther.mg C_farther.kp C_farther.bn (sa_cons (se_call C_turned.ok (hr.mono (by omega)) C_turned.mg C_turned.kp C_turned.bn (sa_cons (se_var 1) (sa_cons (se_var 2) (sa_nil)))) (sa_cons (se_call C_turned.ok (hr.mono (by omega)) C_turned.mg C_turned.kp C_turned.bn (sa_cons (se_var 1) (sa_cons (se_var 3) (sa_nil)))) (sa_nil))))))
abbrev st_first_begun : Stmt := top 12
abbrev N_first_begun : List Str := ["ways", "place"]
abbrev P_first_begun : List Str := ["ways"]
theorem sc_first_begun : FnScope N_first_begun P_first_begun (defScope st_first_begun) := ⟨rfl, rfl, rfl, by decide +kernel, rfl, by decide +kernel, by decide +kernel⟩
theorem ok_first_begun {f : Addr} {fd : FuncData} (F : Fun K "first_begun" "first_begun" st_first_begun f fd) (T : Txt mg) : FnOk P w K mg base CX0 1 f fd P_first_begun (spOf K false f_first_begun) := by
  show FnOk P w K mg base CX0 1 f fd P_first_begun (spOf K false (mkF 1 2 (sSeq (sFor [] (setN 1) (iArgs rangeD (aCons (eC (.int 1)) (aCons (eA lenD (aCons (eVar 0) (aNil))) (aNil))))
  (sIf (tOf (e2 startsD (eIx (eVar 0) (eVar 1)) (eIx (eVar 0) (e2 subD (eVar 1) (eC (.int 1))))))
  (sRet (eVar 1))
  (sNil)))
  (sRet (eC .none)))))
  exact def_ok rfl rfl F sc_first_begun fun cdv A outer s H E hr => sss_cons (ss_for (own := []) PassesOwn.never rfl (si_range2 (sa_cons (se_int) (sa_cons (se_callB call_len lenD_sem (sa_cons (se_var 0) (sa_nil)) T.b_len) (sa_nil))) T.b_range) (sg_name (i := 1) sc_first_begun.nd)
        (sss_one (ss_if (st_of (se_starts (se_ix (se_var 0) (se_var 1)) (se_ix (se_var 0) (se_op op_sub subD_sem (se_var 1) (se_int)))))
        (sss_one (ss_ret (own' := []) (se_var 1)))
        (sss_nil))))
        (sss_one (ss_ret (own' := []) (se_non)))
abbrev st_makers : Stmt := top 11
abbrev N_makers : List Str := ["ways", "made", "place", "shorter"]
abbrev P_makers : List Str := ["ways"]
theorem sc_makers : FnScope N_makers P_makers (defScope st_makers) := ⟨rfl, rfl, rfl, by decide +kernel, rfl, by decide +kernel, by decide +kernel⟩
theorem ok_makers {f : Addr} {fd : FuncData} (F : Fun K "makers" "makers" st_makers f fd) (T : Txt mg)
    {a_first_begun : Addr} {fd_first_begun : FuncData} (C_first_begun : Cal P w K mg base 1 "first_begun" P_first_begun false f_first_begun a_first_begun fd_first_begun)
    {a_seen_in : Addr} {fd_seen_in : FuncData} (C_seen_in : Cal P w K mg base 4 "seen_in" P_seen_in false f_seen_in a_seen_in fd_seen_in) : FnOk P w K mg base CX0 5 f fd P_makers (spOf K false f_makers) := by
  show FnOk P w K mg base CX0 5 f fd P_makers (spOf K false (mkF 1 4 (sSeq (sSetM [] 1 (eA sortSetFD (aCons (eVar 0) aNil)))
  (sSeq (sSetM [] 2 (eCall f_first_begun (aCons (eVar 1) (aNil))))
  (sSeq (whileF (tOf (e2 notND (eVar 2) (eC .none)))
  (sSeq (sSetM [] 3 (eCall f_seen_in (aCons (eIx (eVar 1) (eVar 2)) (aCons (eIx (eVar 1) (e2 subD (eVar 2) (eC (.int 1)))) (aNil)))))
  (sSeq (sSetM [] 1 (eA sortSetFD (aCons (e2 addD (e2 addD (eSl slD (eVar 1) (pNo) (pSo (eVar 2))) (eA gLst (aCons (eVar 3) (aNil)))) (eSl slD (eVar 1) (pSo (e2 addD (eVar 2) (eC (.int 1)))) (pNo))) aNil)))
  (sSetM [] 2 (eCall f_first_begun (aCons (eVar 1) (aNil)))))) 100000)
  (sRet (eA tupFD (aCons (eVar 1) (aNil)))))))))
  exact def_ok rfl rfl F sc_makers fun cdv A outer s H E hr => sss_cons (ss_setM (own := []) (sas_set (i := 1) sc_makers.nd (se_sortSet (se_var 0) hr T.b_sorted T.b_set)))
        (sss_cons (ss_setM (own := []) (sas_set (i := 2) sc_makers.nd (se_call C_first_begun.ok (hr.mono (by omega)) C_first_begun.mg C_first_begun.kp C_first_begun.bn (sa_cons (se_var 1) (sa_nil)))))
        (sss_cons (ss_while (own := []) 100000 PassesOwn.never (st_cmp op_notN notND_sem (se_var 2) (se_non) (hg := hgNis))
        (sss_cons (ss_setM (own := []) (sas_set (i := 3) sc_makers.nd (se_call C_seen_in.ok (hr.mono (by omega)) C_seen_in.mg C_seen_in.kp C_seen_in.bn (sa_cons (se_ix (se_var 1) (se_var 2)) (sa_cons (se_ix (se_var 1) (se_op op_sub subD_sem (se_var 2) (se_int))) (sa_nil))))))
        (sss_cons (ss_setM (own := []) (sas_set (i := 1) sc_makers.nd (se_sortSet (se_op op_addAll addD_sem (se_op op_addAll addD_sem (se_sl (se_var 1) (so_no) (so_so (se_var 2))) (se_lst (sa_cons (se_var 3) (sa_nil)))) (se_sl (se_var 1) (so_so (se_op op_addAll addD_sem (se_var 2) (se_int))) (so_no))) hr T.b_sorted T.b_set)))
        (sss_one (ss_setM (own := []) (sas_set (i := 2) sc_makers.nd (se_call C_first_begun.ok (hr.mono (by omega)) C_first_begun.mg C_first_begun.kp C_first_begun.bn (sa_cons (se_var 1) (sa_nil)))))))))
        (sss_one (ss_ret (own' := []) (se_callTy call_tuple_of tupFD_sem (sa_cons (se_var 1) (sa_nil)) T.b_tuple)))))
abbrev st_maker_ahead : Stmt := top 16
abbrev N_maker_ahead : List Str := ["made", "row", "maker"]
abbrev P_maker_ahead : List Str := ["made", "row"]
theorem sc_maker_ahead : FnScope N_maker_ahead P_maker_ahead (defScope st_maker_ahead) := ⟨rfl, rfl, rfl, by decide +kernel, rfl, by decide +kernel, by decide +kernel⟩
theorem ok_maker_ahead {f : Addr} {fd : FuncData} (F : Fun K "maker_ahead" "maker_ahead" st_maker_ahead f fd) (T : Txt mg) : FnOk P w K mg base CX0 1 f fd P_maker_ahead (spOf K false f_maker_ahead) := by
  show FnOk P w K mg base CX0 1 f fd P_maker_ahead (spOf K false (mkF 2 3 (sSeq (sFor [] (setN 2) (iOf itemsD (eVar 0))
  (sIf (tOf (e2 startsD (eVar 1) (eVar 2)))
  (sRet (eVar 2))
  (sNil)))
  (sRet (eC .none)))))
  exact def_ok rfl rfl F sc_maker_ahead fun cdv A outer s H E hr => sss_cons (ss_for (own := []) PassesOwn.never rfl (si_of (se_var 0)) (sg_name (i := 2) sc_maker_ahead.nd)
        (sss_one (ss_if (st_of (se_starts (se_var 1) (se_var 2)))
        (sss_one (ss_ret (own' := []) (se_var 2)))
        (sss_nil))))
        (sss_one (ss_ret (own' := []) (se_non)))
abbrev st_door_folded : Stmt := top 15
abbrev N_door_folded : List Str := ["made", "way", "folds", "maker"]
abbrev P_door_folded : List Str := ["made", "way"]
theorem sc_door_folded : FnScope N_door_folded P_door_folded (defScope st_door_folded) := ⟨rfl, rfl, rfl, by decide +kernel, rfl, by decide +kernel, by decide +kernel⟩
theorem ok_door_folded {f : Addr} {fd : FuncData} (F : Fun K "door_folded" "door_folded" st_door_folded f fd) (T : Txt mg)
    {a_maker_ahead : Addr} {fd_maker_ahead : FuncData} (C_maker_ahead : Cal P w K mg base 1 "maker_ahead" P_maker_ahead false f_maker_ahead a_maker_ahead fd_maker_ahead)
    {a_seen_in : Addr} {fd_seen_in : FuncData} (C_seen_in : Cal P w K mg base 4 "seen_in" P_seen_in false f_seen_in a_seen_in fd_seen_in) : FnOk P w K mg base CX0 5 f fd P_door_folded (spOf K false f_door_folded) := by
  show FnOk P w K mg base CX0 5 f fd P_door_folded (spOf K false (mkF 2 4 (sSeq (sSetO [] 2 (eA gLst (aNil)))
  (sSeq (sSetM [2] 3 (eCall f_maker_ahead (aCons (eVar 0) (aCons (eVar 1) (aNil)))))
  (sSeq (whileF (tAn (tOf (e2 notND (eVar 3) (eC .none))) (tOf (e2 neD (eVar 3) (eVar 1))))
  (sSeq (sApp [2] false 2 (eVar 3))
  (sSeq (sSetM [2] 1 (eCall f_seen_in (aCons (eVar 1) (aCons (eVar 3) (aNil)))))
  (sSetM [2] 3 (eCall f_maker_ahead (aCons (eVar 0) (aCons (eVar 1) (aNil))))))) 100000)
  (sRet (eA gTup (aCons (eVar 1) (aCons (eA tupFD (aCons (eVar 2) (aNil))) (aNil))))))))))
  exact def_ok rfl rfl F sc_door_folded fun cdv A outer s H E hr => sss_cons (ss_setO (own := []) (sas_set (i := 2) sc_door_folded.nd (se_lst (sa_nil))))
        (sss_cons (ss_setM (own := [2]) (sas_set (i := 3) sc_door_folded.nd (se_call C_maker_ahead.ok (hr.mono (by omega)) C_maker_ahead.mg C_maker_ahead.kp C_maker_ahead.bn (sa_cons (se_var 0) (sa_cons (se_var 1) (sa_nil))))))
        (sss_cons (ss_while (own := [2]) 100000 PassesOwn.never (SW.st (sw_and (st_cmp op_notN notND_sem (se_var 3) (se_non) (hg := hgNis)) (sw_and1 (st_cmp (op_neAll hr) neD_sem (se_var 3) (se_var 1) (hg := hgNe)))))
        (sss_cons (ss_appM (i := 2) (own := [2]) (se_var 3) (by decide) (fun _ pa => ps_expr (pe_bm PySem.F.plainAttrs_list PySem.F.slot_list_append PySem.F.type_list_append mt_append (pv 2) pa)))
        (sss_cons (ss_setM (own := [2]) (sas_set (i := 1) sc_door_folded.nd (se_call C_seen_in.ok (hr.mono (by omega)) C_seen_in.mg C_seen_in.kp C_seen_in.bn (sa_cons (se_var 1) (sa_cons (se_var 3) (sa_nil))))))
        (sss_one (ss_setM (own := [2]) (sas_set (i := 3) sc_door_folded.nd (se_call C_maker_ahead.ok (hr.mono (by omega)) C_maker_ahead.mg C_maker_ahead.kp C_maker_ahead.bn (sa_cons (se_var 0) (sa_cons (se_var 1) (sa_nil))))))))))
        (sss_one (ss_ret (own' := [2]) (se_tup (sa_cons (se_var 1) (sa_cons (se_callTy call_tuple_of tupFD_sem (sa_cons (se_var 2) (sa_nil)) T.b_tuple) (sa_nil))))))))
abbrev st_told_by : Stmt := top 14
abbrev N_told_by : List Str := ["made", "way"]
abbrev P_told_by : List Str := ["made", "way"]
theorem sc_told_by : FnScope N_told_by P_told_by (defScope st_told_by) := ⟨rfl, rfl, rfl, by decide +kernel, rfl, by decide +kernel, by decide +kernel⟩
theorem ok_told_by {f : Addr} {fd : FuncData} (F : Fun K "told_by" "told_by" st_told_by f fd) (T : Txt mg)
    {a_door_folded : Addr} {fd_door_folded : FuncData} (C_door_folded : Cal P w K mg base 5 "door_folded" P_door_folded false f_door_folded a_door_folded fd_door_folded) : FnOk P w K mg base CX0 6 f fd P_told_by (spOf K false f_told_by) := by
  show FnOk P w K mg base CX0 6 f fd P_told_by (spOf K false (mkF 2 2 (sRet (e2 inD (eIx (eCall f_door_folded (aCons (eVar 0) (aCons (eVar 1) (aNil)))) (eC (.int 0))) (eVar 0)))))
  exact def_ok rfl rfl F sc_told_by fun cdv A outer s H E hr => sss_one (ss_ret (own' := []) (se_cmp op_inAll inD_sem (se_ix (se_call C_door_folded.ok (hr.mono (by omega)) C_door_folded.mg C_door_folded.kp C_door_folded.bn (sa_cons (se_var 0) (sa_cons (se_var 1) (sa_nil)))) (se_int)) (se_var 0)))
abbrev st_is_of : Stmt := top 13
abbrev N_is_of : List Str := ["ways", "way"]
abbrev P_is_of : List Str := ["ways", "way"]
theorem sc_is_of : FnScope N_is_of P_is_of (defScope st_is_of) := ⟨rfl, rfl, rfl, by decide +kernel, rfl, by decide +kernel, by decide +kernel⟩
theorem ok_is_of {f : Addr} {fd : FuncData} (F : Fun K "is_of" "is_of" st_is_of f fd) (T : Txt mg)
    {a_told_by : Addr} {fd_told_by : FuncData} (C_told_by : Cal P w K mg base 6 "told_by" P_told_by false f_told_by a_told_by fd_told_by)
    {a_makers : Addr} {fd_makers : FuncData} (C_makers : Cal P w K mg base 5 "makers" P_makers false f_makers a_makers fd_makers) : FnOk P w K mg base CX0 7 f fd P_is_of (spOf K false f_is_of) := by
  show FnOk P w K mg base CX0 7 f fd P_is_of (spOf K false (mkF 2 2 (sRet (eCall f_told_by (aCons (eCall f_makers (aCons (eVar 0) (aNil))) (aCons (eVar 1) (aNil)))))))
  exact def_ok rfl rfl F sc_is_of fun cdv A outer s H E hr => sss_one (ss_ret (own' := []) (se_call C_told_by.ok (hr.mono (by omega)) C_told_by.mg C_told_by.kp C_told_by.bn (sa_cons (se_call C_makers.ok (hr.mono (by omega)) C_makers.mg C_makers.kp C_makers.bn (sa_cons (se_var 0) (sa_nil))) (sa_cons (se_var 1) (sa_nil)))))
abbrev st_all_but : Stmt := top 18
abbrev N_all_but : List Str := ["ways", "way", "other"]
abbrev P_all_but : List Str := ["ways", "way"]
theorem sc_all_but : FnScope N_all_but P_all_but (defScope st_all_but) := ⟨rfl, rfl, rfl, by decide +kernel, rfl, by decide +kernel, by decide +kernel⟩
theorem ok_all_but {f : Addr} {fd : FuncData} (F : Fun K "all_but" "all_but" st_all_but f fd) (T : Txt mg) : FnOk P w K mg base CX0 1 f fd P_all_but (spOf K false f_all_but) := by
  show FnOk P w K mg base CX0 1 f fd P_all_but (spOf K false (mkF 2 3 (sRet (eLc [2] (setN 2) (iOf itemsD (eVar 0)) (tOf (e2 neD (eVar 2) (eVar 1))) (eVar 2)))))
  exact def_ok rfl rfl F sc_all_but fun cdv A outer s H E hr => sss_one (ss_ret (own' := []) (se_lc (own := [("other", 2)]) rfl sc_all_but.nd (si_of (se_var 0)) (blkOk_by (own := [("other", 2)]) (N := N_all_but) (sc := defScope st_all_but) (by decide +kernel)) (fun _ _ _ _ _ => sg_name (i := 2) sc_all_but.nd) ttT (fun _ _ _ _ _ => pts_one (ST.pt (st_cmp (op_neAll hr) neD_sem (se_var 2) (se_var 1) (hg := hgNe)))) (fun _ _ _ _ _ => se_var 2)))
abbrev st_needless : Stmt := top 17
abbrev N_needless : List Str := ["ways", "once", "way"]
abbrev P_needless : List Str := ["ways"]
theorem sc_needless : FnScope N_needless P_needless (defScope st_needless) := ⟨rfl, rfl, rfl, by decide +kernel, rfl, by decide +kernel, by decide +kernel⟩
theorem ok_needless {f : Addr} {fd : FuncData} (F : Fun K "needless" "needless" st_needless f fd) (T : Txt mg)
    {a_is_of : Addr} {fd_is_of : FuncData} (C_is_of : Cal P w K mg base 7 "is_of" P_is_of false f_is_of a_is_of fd_is_of)
    {a_all_but : Addr} {fd_all_but : FuncData} (C_all_but : Cal P w K mg base 1 "all_but" P_all_but false f_all_but a_all_but fd_all_but) : FnOk P w K mg base CX0 8 f fd P_needless (spOf K false f_needless) := by
  show FnOk P w K mg base CX0 8 f fd P_needless (spOf K false (mkF 1 3 (sSeq (sSetM [] 1 (eA sortSetFD (aCons (eVar 0) aNil)))
  (sRet (eA tupFD (aCons (eLc [2] (setN 2) (iOf itemsD (eVar 1)) (tOf (eCall f_is_of (aCons (eCall f_all_but (aCons (eVar 1) (aCons (eVar 2) (aNil)))) (aCons (eVar 2) (aNil))))) (eVar 2)) (aNil)))))))
  exact def_ok rfl rfl F sc_needless fun cdv A outer s H E hr => sss_cons (ss_setM (own := []) (sas_set (i := 1) sc_needless.nd (se_sortSet (se_var 0) hr T.b_sorted T.b_set)))
        (sss_one (ss_ret (own' := []) (se_callTy call_tuple_of tupFD_sem (sa_cons (se_lc (own := [("way", 2)]) rfl sc_needless.nd (si_of (se_var 1)) (blkOk_by (own := [("way", 2)]) (N := N_needless) (sc := defScope st_needless) (by decide +kernel)) (fun _ _ _ _ _ => sg_name (i := 2) sc_needless.nd) ttT (fun _ _ _ _ _ => pts_one (ST.pt (st_of (se_call C_is_of.ok (hr.mono (by omega)) C_is_of.mg C_is_of.kp C_is_of.bn (sa_cons (se_call C_all_but.ok (hr.mono (by omega)) C_all_but.mg C_all_but.kp C_all_but.bn (sa_cons (se_var 1) (sa_cons (se_var 2) (sa_nil)))) (sa_cons (se_var 2) (sa_nil))))))) (fun _ _ _ _ _ => se_var 2)) (sa_nil)) T.b_tuple)))
abbrev st_are_free : Stmt := top 19
abbrev N_are_free : List Str := ["ways"]
abbrev P_are_free : List Str := ["ways"]
theorem sc_are_free : FnScope N_are_free P_are_free (defScope st_are_free) := ⟨rfl, rfl, rfl, by decide +kernel, rfl, by decide +kernel, by decide +kernel⟩
theorem ok_are_free {f : Addr} {fd : FuncData} (F : Fun K "are_free" "are_free" st_are_free f fd) (T : Txt mg)
    {a_makers : Addr} {fd_makers : FuncData} (C_makers : Cal P w K mg base 5 "makers" P_makers false f_makers a_makers fd_makers) : FnOk P w K mg base CX0 6 f fd P_are_free (spOf K false f_are_free) := by
  show FnOk P w K mg base CX0 6 f fd P_are_free (spOf K false (mkF 1 1 (sRet (e2 eqD (eA lenD (aCons (eCall f_makers (aCons (eVar 0) (aNil))) (aNil))) (eA lenSetFD (aCons (eVar 0) aNil))))))
  exact def_ok rfl rfl F sc_are_free fun cdv A outer s H E hr => sss_one (ss_ret (own' := []) (se_cmp (op_eqAll hr) eqD_sem (se_callB call_len lenD_sem (sa_cons (se_call C_makers.ok (hr.mono (by omega)) C_makers.mg C_makers.kp C_makers.bn (sa_cons (se_var 0) (sa_nil))) (sa_nil)) T.b_len) (se_lenSet (se_var 0) T.b_len T.b_set)))
abbrev st__law_box : Stmt := top 21
abbrev N__law_box : List Str := ["_law_script", "_law_k", "_law_cell"]
abbrev P__law_box : List Str := ["_law_script", "_law_k"]
theorem sc__law_box : FnScope N__law_box P__law_box (defScope st__law_box) := ⟨rfl, rfl, rfl, by decide +kernel, rfl, by decide +kernel, by decide +kernel⟩
theorem ok__law_box {f : Addr} {fd : FuncData} (F : Fun K "_law_box" "_law_box" st__law_box f fd) (T : Txt mg) : FnOk P w K mg base CX0 1 f fd P__law_box (spOf K true f__law_box) := by
  show FnOk P w K mg base CX0 1 f fd P__law_box (spOf K true (mkF 2 3 (sSeq (sSetM [] 2 (eIf (tOf (e2 ltD (eVar 1) (eA lenD (aCons (eVar 0) (aNil))))) (eIx (eVar 0) (eVar 1)) (eC (.int 0)))) (sRet (eA gLst (aCons (e2 mulAD (eA absD (aCons (eVar 2) (aNil))) (eA intFD (aCons (e2 geD (eA absD (aCons (eVar 2) (aNil))) (e2 powD (eC (.int 10)) (eC (.int 18)))) (aNil)))) (aCons (e2 addD (e2 addD (e2 modD (eA intFD (aCons (eVar 2) (aNil))) (eC (.int 2305843009213693951))) (e2 mulAD (eC (.int 39373)) (eVar 1))) (eC (.int 45043))) (aCons (eC (.int 0)) (aNil)))))))))
  exact def_okF rfl rfl F sc__law_box rfl nort_setM fun cdv A outer s H E hr => ⟨ss_setM (own := []) (sas_set (i := 2) sc__law_box.nd (se_if (st_cmp op_lt ltD_sem (se_var 1) (se_callB call_len lenD_sem (sa_cons (se_var 0) (sa_nil)) T.b_len) (hg := hgLt)) (SE.weak (se_ix (se_var 0) (se_var 1))) (SE.weak (se_int)))), se_lst (sa_cons (se_op op_mulAD mulAD_sem (se_callB call_abs absD_sem (sa_cons (se_var 2) (sa_nil)) T.b_abs) (se_callTy call_int1 intFD_sem (sa_cons (se_cmp op_ge geD_sem (se_callB call_abs absD_sem (sa_cons (se_var 2) (sa_nil)) T.b_abs) (se_op op_pow powD_sem (se_int) (se_int))) (sa_nil)) T.b_int)) (sa_cons (se_op op_addAll addD_sem (se_op op_addAll addD_sem (se_op op_mod modD_sem (se_callTy call_int1 intFD_sem (sa_cons (se_var 2) (sa_nil)) T.b_int) (se_int)) (se_op op_mulAD mulAD_sem (se_int) (se_var 1))) (se_int)) (sa_cons (se_int) (sa_nil))))⟩
abbrev st__law_take : Stmt := top 22
abbrev N__law_take : List Str := ["_law_box_here", "_law_below", "_law_once_so", "_law_far", "_law_twice", "_law_drawn"]
abbrev P__law_take : List Str := ["_law_box_here", "_law_below"]
theorem sc__law_take : FnScope N__law_take P__law_take (defScope st__law_take) := ⟨rfl, rfl, rfl, by decide +kernel, rfl, by decide +kernel, by decide +kernel⟩
theorem ok__law_take {f : Addr} {fd : FuncData} (F : Fun K "_law_take" "_law_take" st__law_take f fd) (T : Txt mg) : FnOk P w K mg base CX0 1 f fd P__law_take (spOf K false f__law_take) := by
  show FnOk P w K mg base CX0 1 f fd P__law_take (spOf K false (mkF 2 6 (sSeq (sIf (tOf (e2 gtD (eIx (eVar 0) (eC (.int 0))) (eC (.int 0))))
  (sSeq (sSetM [] 5 (e2 modD (eA intFD (aCons (eIx (eVar 0) (eC (.int 0))) (aNil))) (eVar 1)))
  (sSeq (sPutB 0 (eC (.int 0)) (e2 fdivD (eIx (eVar 0) (eC (.int 0))) (eVar 1)))
  (sRet (eVar 5))))
  (sNil))
  (sSeq (sPutB 0 (eC (.int 2)) (e2 addD (eIx (eVar 0) (eC (.int 2))) (eC (.int 1))))
  (sSeq (sSetM [] 2 (e2 modD (eA intFD (aCons (e2 mulAD (e2 addD (eIx (eVar 0) (eC (.int 1))) (e2 mulAD (eC (.int 48271)) (eIx (eVar 0) (eC (.int 2))))) (e2 addD (eC (.int 39373)) (eIx (eVar 0) (eC (.int 2))))) (aNil))) (eC (.int 2147483647))))
  (sSeq (sSetM [] 3 (e2 addD (e2 modD (eA intFD (aCons (eVar 2) (aNil))) (eC (.int 40009))) (eC (.int 7))))
  (sSeq (sSetM [] 4 (e2 modD (eA intFD (aCons (e2 mulAD (e2 addD (e2 addD (eVar 2) (eIx (eVar 0) (eC (.int 2)))) (e2 fdivD (eIx (eVar 0) (eC (.int 1))) (eC (.int 1000003)))) (eVar 3)) (aNil))) (eC (.int 2147483629))))
  (sRet (e2 modD (eA intFD (aCons (e2 fdivD (e2 modD (eA intFD (aCons (e2 addD (e2 mulAD (eVar 4) (eC (.int 48271))) (eVar 2)) (aNil))) (eC (.int 2147483587))) (eC (.int 64))) (aNil))) (eVar 1))))))))))
  exact def_ok rfl rfl F sc__law_take fun cdv A outer s H E hr => sss_cons (ss_if (st_cmp op_gt gtD_sem (se_ix (se_var 0) (se_int)) (se_int) (hg := hgGt))
        (sss_cons (ss_setM (own := []) (sas_set (i := 5) sc__law_take.nd (se_op op_mod modD_sem (se_callTy call_int1 intFD_sem (sa_cons (se_ix (se_var 0) (se_int)) (sa_nil)) T.b_int) (se_var 1))))
        (sss_cons (ss_putB (i := 0) (se_op op_fdivW fdivD_sem (se_ix (se_var 0) (se_int)) (se_var 1)) (se_int) (by decide) (fun _ _ pa pi => ps_asg pa (pg_sub (pv 0) pi set_list)))
        (sss_one (ss_ret (own' := []) (se_var 5)))))
        (sss_nil))
        (sss_cons (ss_putB (i := 0) (se_op op_addAll addD_sem (se_ix (se_var 0) (se_int)) (se_int)) (se_int) (by decide) (fun _ _ pa pi => ps_asg pa (pg_sub (pv 0) pi set_list)))
        (sss_cons (ss_setM (own := []) (sas_set (i := 2) sc__law_take.nd (se_op op_mod modD_sem (se_callTy call_int1 intFD_sem (sa_cons (se_op op_mulAD mulAD_sem (se_op op_addAll addD_sem (se_ix (se_var 0) (se_int)) (se_op op_mulAD mulAD_sem (se_int) (se_ix (se_var 0) (se_int)))) (se_op op_addAll addD_sem (se_int) (se_ix (se_var 0) (se_int)))) (sa_nil)) T.b_int) (se_int))))
        (sss_cons (ss_setM (own := []) (sas_set (i := 3) sc__law_take.nd (se_op op_addAll addD_sem (se_op op_mod modD_sem (se_callTy call_int1 intFD_sem (sa_cons (se_var 2) (sa_nil)) T.b_int) (se_int)) (se_int))))
        (sss_cons (ss_setM (own := []) (sas_set (i := 4) sc__law_take.nd (se_op op_mod modD_sem (se_callTy call_int1 intFD_sem (sa_cons (se_op op_mulAD mulAD_sem (se_op op_addAll addD_sem (se_op op_addAll addD_sem (se_var 2) (se_ix (se_var 0) (se_int))) (se_op op_fdivW fdivD_sem (se_ix (se_var 0) (se_int)) (se_int))) (se_var 3)) (sa_nil)) T.b_int) (se_int))))
        (sss_one (ss_ret (own' := []) (se_op op_mod modD_sem (se_callTy call_int1 intFD_sem (sa_cons (se_op op_fdivW fdivD_sem (se_op op_mod modD_sem (se_callTy call_int1 intFD_sem (sa_cons (se_op op_addAll addD_sem (se_op op_mulAD mulAD_sem (se_var 4) (se_int)) (se_var 2)) (sa_nil)) T.b_int) (se_int)) (se_int)) (sa_nil)) T.b_int) (se_var 1))))))))
abbrev st__law_cells : Stmt := top 23
abbrev N__law_cells : List Str := ["_law_script", "_law_most_so", "_law_cells_here", "_law_k", "_law_cell", "_law_at_so"]
abbrev P__law_cells : List Str := ["_law_script", "_law_most_so"]
theorem sc__law_cells : FnScope N__law_cells P__law_cells (defScope st__law_cells) := ⟨rfl, rfl, rfl, by decide +kernel, rfl, by decide +kernel, by decide +kernel⟩
theorem ok__law_cells {f : Addr} {fd : FuncData} (F : Fun K "_law_cells" "_law_cells" st__law_cells f fd) (T : Txt mg) : FnOk P w K mg base CX0 1 f fd P__law_cells (spOf K false f__law_cells) := by
  show FnOk P w K mg base CX0 1 f fd P__law_cells (spOf K false (mkF 2 6 (sSeq (sSetO [] 2 (eOr (eA listAD (aCons (eSl slD (eVar 0) (pNo) (pSo (eVar 1))) (aNil))) (eA gLst (aCons (eC (.int 0)) (aNil)))))
  (sSeq (sFor [2] (setT [3, 4]) (iArgs enumD (aCons (eSl slD (eVar 0) (pSo (eVar 1)) (pSo (eC (.int 63)))) (aNil)))
  (sSeq (sSetM [2] 5 (e2 modD (eA intFD (aCons (eVar 3) (aNil))) (eVar 1)))
  (sPut 2 (eVar 5) (e2 addD (eIx (eVar 2) (eVar 5)) (e2 mulAD (eVar 4) (e2 addD (eVar 3) (eC (.int 2))))))))
  (sRet (eVar 2))))))
  exact def_ok rfl rfl F sc__law_cells fun cdv A outer s H E hr => sss_cons (ss_setO (own := []) (sas_set (i := 2) sc__law_cells.nd (se_orL (se_callTy call_listAll (listAD_sem rfl) (sa_cons (se_sl (se_var 0) (so_no) (so_so (se_var 1))) (sa_nil)) T.b_list) (se_lst (sa_cons (se_int) (sa_nil))))))
        (sss_cons (ss_for (own := [2]) PassesOwn.never rfl (si_enum (sa_cons (se_sl (se_var 0) (so_so (se_var 1)) (so_so (se_int))) (sa_nil)) T.b_enumerate) (sg_tup rfl (sgs_cons (i := 3) (sgs_cons (i := 4) (sgs_nil) sc__law_cells.nd) sc__law_cells.nd))
        (sss_cons (ss_setM (own := [2]) (sas_set (i := 5) sc__law_cells.nd (se_op op_mod modD_sem (se_callTy call_int1 intFD_sem (sa_cons (se_var 3) (sa_nil)) T.b_int) (se_var 1))))
        (sss_one (ss_put (i := 2) (se_op op_addAll addD_sem (se_ix (se_var 2) (se_var 5)) (se_op op_mulAD mulAD_sem (se_var 4) (se_op op_addAll addD_sem (se_var 3) (se_int)))) (se_var 5) (by decide) (fun _ _ pa pi => ps_asg pa (pg_sub (pv 2) pi set_list))))))
        (sss_one (ss_ret (own' := [2]) (se_var 2))))
abbrev st__law_of : Stmt := top 24
abbrev N__law_of : List Str := ["_law_box_here", "_law_some"]
abbrev P__law_of : List Str := ["_law_box_here", "_law_some"]
theorem sc__law_of : FnScope N__law_of P__law_of (defScope st__law_of) := ⟨rfl, rfl, rfl, by decide +kernel, rfl, by decide +kernel, by decide +kernel⟩
theorem ok__law_of {f : Addr} {fd : FuncData} (F : Fun K "_law_of" "_law_of" st__law_of f fd) (T : Txt mg)
    {a__law_take : Addr} {fd__law_take : FuncData} (C__law_take : Cal P w K mg base 1 "_law_take" P__law_take false f__law_take a__law_take fd__law_take) : FnOk P w K mg base CX0 2 f fd P__law_of (spOf K false f__law_of) := by
  show FnOk P w K mg base CX0 2 f fd P__law_of (spOf K false (mkF 2 2 (sRet (eIx (eVar 1) (eCall f__law_take (aCons (eVar 0) (aCons (eA lenD (aCons (eVar 1) (aNil))) (aNil))))))))
  exact def_ok rfl rfl F sc__law_of fun cdv A outer s H E hr => sss_one (ss_ret (own' := []) (se_ix (se_var 1) (se_call C__law_take.ok (hr.mono (by omega)) C__law_take.mg C__law_take.kp C__law_take.bn (sa_cons (se_var 0) (sa_cons (se_callB call_len lenD_sem (sa_cons (se_var 1) (sa_nil)) T.b_len) (sa_nil))))))
abbrev st__law_same : Stmt := top 25
abbrev N__law_same : List Str := ["_law_got", "_law_due", "_law_mine", "_law_its"]
abbrev P__law_same : List Str := ["_law_got", "_law_due"]
theorem sc__law_same : FnScope N__law_same P__law_same (defScope st__law_same) := ⟨rfl, rfl, rfl, by decide +kernel, rfl, by decide +kernel, by decide +kernel⟩
theorem ok__law_same {f : Addr} {fd : FuncData} (F : Fun K "_law_same" "_law_same" st__law_same f fd) (T : Txt mg) (hm : mg "_law_same" = some (.ref f)) (hk : PySem.W.keepIn K (.ref f) = true) (hb : Binds K fd P__law_same []) :
    ∀ n : Nat, FnOk P w K mg base CX0 (0 + n + 1) f fd P__law_same (spOf K false (r__law_same n)) := by
  intro n
  induction n with
  | zero => exact ok_fail
  | succ n ih =>
    have C__law_same : Cal P w K mg base (0 + n + 1) "_law_same" P__law_same false (r__law_same n) f fd := ⟨ih, hm, hk, hb⟩
    show FnOk P w K mg base CX0 (0 + (n + 1) + 1) f fd P__law_same (spOf K false (mkF 2 4 (b__law_same (r__law_same n))))
    exact def_ok rfl rfl F sc__law_same fun cdv A outer s H E hr => sss_cons (ss_if (st_of (se_isi2 (c := "list") (c' := "tuple") (se_var 1) T.b_isinstance T.b_list T.b_tuple))
            (sss_cons (ss_if (SW.st (sw_or (st_cmp (op_neAll hr) neD_sem (se_isi (c := "list") (se_var 0) T.b_isinstance T.b_list) (se_isi (c := "list") (se_var 1) T.b_isinstance T.b_list) (hg := hgNe)) (sw_or1 (st_cmp (op_neAll hr) neD_sem (se_isi (c := "tuple") (se_var 0) T.b_isinstance T.b_tuple) (se_isi (c := "tuple") (se_var 1) T.b_isinstance T.b_tuple) (hg := hgNe)))))
            (sss_one (ss_ret (own' := []) (se_bl)))
            (sss_nil))
            (sss_one (ss_ret (own' := []) (se_and (se_cmp (op_eqAll hr) eqD_sem (se_callB call_len lenD_sem (sa_cons (se_var 0) (sa_nil)) T.b_len) (se_callB call_len lenD_sem (sa_cons (se_var 1) (sa_nil)) T.b_len)) (se_one (se_callB (cr_all rfl) allFD_sem (sa_cons (se_lc (own := [("_law_mine", 2), ("_law_its", 3)]) rfl sc__law_same.nd (si_zip (sa_cons (se_var 0) (sa_cons (se_var 1) (sa_nil))) T.b_zip) (blkOk_by (own := [("_law_mine", 2), ("_law_its", 3)]) (N := N__law_same) (sc := defScope st__law_same) (by decide +kernel)) (fun _ _ _ _ _ => sg_tup rfl (sgs_cons (i := 2) (sgs_cons (i := 3) (sgs_nil) sc__law_same.nd) sc__law_same.nd)) ttYes (fun _ _ _ _ _ => pts_nil) (fun _ _ _ _ _ => se_call C__law_same.ok (hr.mono (by omega)) C__law_same.mg C__law_same.kp C__law_same.bn (sa_cons (se_var 2) (sa_cons (se_var 3) (sa_nil))))) (sa_nil)) T.b_all))))))
            (sss_nil))
            (sss_cons (ss_if (SW.st (sw_or (st_cmp op_isN isND_sem (se_var 1) (se_non) (hg := hgIs)) (sw_or1 (st_of (se_isi2 (c := "bool") (c' := "str") (se_var 1) T.b_isinstance T.b_bool T.b_str)))))
            (sss_one (ss_ret (own' := []) (se_and (se_cmp (op_eqAll hr) eqD_sem (se_var 0) (se_var 1)) (se_and (se_cmp (op_eqAll hr) eqD_sem (se_isi (c := "bool") (se_var 0) T.b_isinstance T.b_bool) (se_isi (c := "bool") (se_var 1) T.b_isinstance T.b_bool)) (se_one (se_cmp (op_eqAll hr) eqD_sem (se_cmp op_isN isND_sem (se_var 0) (se_non)) (se_cmp op_isN isND_sem (se_var 1) (se_non))))))))
            (sss_nil))
            (sss_one (ss_ret (own' := []) (se_and (se_isi (c := "int") (se_var 0) T.b_isinstance T.b_int) (se_and (se_not (se_isi (c := "bool") (se_var 0) T.b_isinstance T.b_bool)) (se_one (se_cmp (op_eqAll hr) eqD_sem (se_var 0) (se_var 1))))))))
abbrev st__law_reduced : Stmt := top 26
abbrev N__law_reduced : List Str := ["_law_word_so", "_law_found", "_law_own"]
abbrev P__law_reduced : List Str := ["_law_word_so"]
theorem sc__law_reduced : FnScope N__law_reduced P__law_reduced (defScope st__law_reduced) := ⟨rfl, rfl, rfl, by decide +kernel, rfl, by decide +kernel, by decide +kernel⟩
theorem ok__law_reduced {f : Addr} {fd : FuncData} (F : Fun K "_law_reduced" "_law_reduced" st__law_reduced f fd) (T : Txt mg) : FnOk P w K mg base CX0 1 f fd P__law_reduced (spOf K false f__law_reduced) := by
  show FnOk P w K mg base CX0 1 f fd P__law_reduced (spOf K false (mkF 1 3 (sSeq (sSetM [] 1 (eC (.str (Str.ofString ""))))
  (sSeq (sFor [] (setN 2) (iOf itemsD (eVar 0))
  (sSetM [] 1 (eIf (tOf (e2 eqD (eSl slD (eVar 1) (pSo (e1 negD (eC (.int 1)))) (pNo)) (eVar 2))) (eSl slD (eVar 1) (pNo) (pSo (e1 negD (eC (.int 1))))) (e2 addD (eVar 1) (eVar 2)))))
  (sRet (eVar 1))))))
  exact def_ok rfl rfl F sc__law_reduced fun cdv A outer s H E hr => sss_cons (ss_setM (own := []) (sas_set (i := 1) sc__law_reduced.nd (se_str)))
        (sss_cons (ss_for (own := []) PassesOwn.never rfl (si_of (se_var 0)) (sg_name (i := 2) sc__law_reduced.nd)
        (sss_one (ss_setM (own := []) (sas_set (i := 1) sc__law_reduced.nd (se_if (st_cmp (op_eqAll hr) eqD_sem (se_sl (se_var 1) (so_so (se_un un_neg negD_sem (se_int))) (so_no)) (se_var 2) (hg := hgEq)) (SE.weak (se_sl (se_var 1) (so_no) (so_so (se_un un_neg negD_sem (se_int))))) (SE.weak (se_op op_addAll addD_sem (se_var 1) (se_var 2))))))))
        (sss_one (ss_ret (own' := []) (se_var 1))))
abbrev st__law_row : Stmt := top 27
abbrev N__law_row : List Str := ["_law_box_here", "_law_many", "_law_longest", "_law_found", "_law_turn", "_law_rest_so", "_law_own"]
abbrev P__law_row : List Str := ["_law_box_here", "_law_many", "_law_longest"]
theorem sc__law_row : FnScope N__law_row P__law_row (defScope st__law_row) := ⟨rfl, rfl, rfl, by decide +kernel, rfl, by decide +kernel, by decide +kernel⟩
theorem ok__law_row {f : Addr} {fd : FuncData} (F : Fun K "_law_row" "_law_row" st__law_row f fd) (T : Txt mg)
    {a__law_take : Addr} {fd__law_take : FuncData} (C__law_take : Cal P w K mg base 1 "_law_take" P__law_take false f__law_take a__law_take fd__law_take)
    {a__law_of : Addr} {fd__law_of : FuncData} (C__law_of : Cal P w K mg base 2 "_law_of" P__law_of false f__law_of a__law_of fd__law_of) : FnOk P w K mg base CX0 3 f fd P__law_row (spOf K false f__law_row) := by
  show FnOk P w K mg base CX0 3 f fd P__law_row (spOf K false (mkF 3 7 (sSeq (sSetM [] 3 (eC (.str (Str.ofString ""))))
  (sSeq (sFor [] (setN 4) (iArgs rangeD (aCons (eCall f__law_take (aCons (eVar 0) (aCons (e2 addD (eVar 2) (eC (.int 1))) (aNil)))) (aNil)))
  (sSeq (sSetM [] 5 (eLc [6] (setN 6) (iOf itemsD (eSl slD (eC (.str (Str.ofString "abcdefgh"))) (pNo) (pSo (eVar 1)))) (tOf (e2 neD (eVar 6) (eSl slD (eVar 3) (pSo (e1 negD (eC (.int 1)))) (pNo)))) (eVar 6)))
  (sSetM [] 3 (e2 addD (eVar 3) (eCall f__law_of (aCons (eVar 0) (aCons (eVar 5) (aNil))))))))
  (sRet (eVar 3))))))
  exact def_ok rfl rfl F sc__law_row fun cdv A outer s H E hr => sss_cons (ss_setM (own := []) (sas_set (i := 3) sc__law_row.nd (se_str)))
        (sss_cons (ss_for (own := []) PassesOwn.never rfl (si_range1 (sa_cons (se_call C__law_take.ok (hr.mono (by omega)) C__law_take.mg C__law_take.kp C__law_take.bn (sa_cons (se_var 0) (sa_cons (se_op op_addAll addD_sem (se_var 2) (se_int)) (sa_nil)))) (sa_nil)) T.b_range) (sg_name (i := 4) sc__law_row.nd)
        (sss_cons (ss_setM (own := []) (sas_lc (i := 5) (own := [("_law_own", 6)]) rfl sc__law_row.nd (si_of (se_sl (se_str) (so_no) (so_so (se_var 1)))) (blkOk_by (own := [("_law_own", 6)]) (N := N__law_row) (sc := defScope st__law_row) (by decide +kernel)) (fun _ _ _ _ _ => sg_name (i := 6) sc__law_row.nd) ttT (fun _ _ _ _ _ => pts_one (ST.pt (st_cmp (op_neAll hr) neD_sem (se_var 6) (se_sl (se_var 3) (so_so (se_un un_neg negD_sem (se_int))) (so_no)) (hg := hgNe)))) (fun _ _ _ _ _ => se_var 6) (sw_true rfl rfl rfl (by decide +kernel))))
        (sss_one (ss_setM (own := []) (sas_set (i := 3) sc__law_row.nd (se_op op_addAll addD_sem (se_var 3) (se_call C__law_of.ok (hr.mono (by omega)) C__law_of.mg C__law_of.kp C__law_of.bn (sa_cons (se_var 0) (sa_cons (se_var 5) (sa_nil))))))))))
        (sss_one (ss_ret (own' := []) (se_var 3))))
abbrev st__law_way : Stmt := top 28
abbrev N__law_way : List Str := ["_law_box_here", "_law_many", "_law_longest", "_law_found"]
abbrev P__law_way : List Str := ["_law_box_here", "_law_many", "_law_longest"]
theorem sc__law_way : FnScope N__law_way P__law_way (defScope st__law_way) := ⟨rfl, rfl, rfl, by decide +kernel, rfl, by decide +kernel, by decide +kernel⟩
theorem ok__law_way {f : Addr} {fd : FuncData} (F : Fun K "_law_way" "_law_way" st__law_way f fd) (T : Txt mg)
    {a__law_row : Addr} {fd__law_row : FuncData} (C__law_row : Cal P w K mg base 3 "_law_row" P__law_row false f__law_row a__law_row fd__law_row)
    {a__law_of : Addr} {fd__law_of : FuncData} (C__law_of : Cal P w K mg base 2 "_law_of" P__law_of false f__law_of a__law_of fd__law_of) : FnOk P w K mg base CX0 4 f fd P__law_way (spOf K false f__law_way) := by
  show FnOk P w K mg base CX0 4 f fd P__law_way (spOf K false (mkF 3 4 (sSeq (sSetM [] 3 (eCall f__law_row (aCons (eVar 0) (aCons (eVar 1) (aCons (eVar 2) (aNil))))))
  (sRet (eIf (tOf (e2 neD (eVar 3) (eC (.str (Str.ofString ""))))) (eVar 3) (eCall f__law_of (aCons (eVar 0) (aCons (eSl slD (eC (.str (Str.ofString "abcdefgh"))) (pNo) (pSo (eVar 1))) (aNil)))))))))
  exact def_ok rfl rfl F sc__law_way fun cdv A outer s H E hr => sss_cons (ss_setM (own := []) (sas_set (i := 3) sc__law_way.nd (se_call C__law_row.ok (hr.mono (by omega)) C__law_row.mg C__law_row.kp C__law_row.bn (sa_cons (se_var 0) (sa_cons (se_var 1) (sa_cons (se_var 2) (sa_nil)))))))
        (sss_one (ss_ret (own' := []) (se_if (st_cmp (op_neAll hr) neD_sem (se_var 3) (se_str) (hg := hgNe)) (SE.weak (se_var 3)) (SE.weak (se_call C__law_of.ok (hr.mono (by omega)) C__law_of.mg C__law_of.kp C__law_of.bn (sa_cons (se_var 0) (sa_cons (se_sl (se_str) (so_no) (so_so (se_var 1))) (sa_nil))))))))
abbrev st__law_pal : Stmt := top 29
abbrev N__law_pal : List Str := ["_law_way_so"]
abbrev P__law_pal : List Str := ["_law_way_so"]
theorem sc__law_pal : FnScope N__law_pal P__law_pal (defScope st__law_pal) := ⟨rfl, rfl, rfl, by decide +kernel, rfl, by decide +kernel, by decide +kernel⟩
theorem ok__law_pal {f : Addr} {fd : FuncData} (F : Fun K "_law_pal" "_law_pal" st__law_pal f fd) (T : Txt mg) : FnOk P w K mg base CX0 1 f fd P__law_pal (spOf K false f__law_pal) := by
  show FnOk P w K mg base CX0 1 f fd P__law_pal (spOf K false (mkF 1 1 (sRet (e2 addD (eVar 0) (e1 revD (eSl slD (eVar 0) (pNo) (pSo (e1 negD (eC (.int 1))))))))))
  exact def_ok rfl rfl F sc__law_pal fun cdv A outer s H E hr => sss_one (ss_ret (own' := []) (se_op op_addAll addD_sem (se_var 0) (se_revS (se_sl (se_var 0) (so_no) (so_so (se_un un_neg negD_sem (se_int)))))))
abbrev st__law_seen : Stmt := top 30
abbrev N__law_seen : List Str := ["_law_one_so", "_law_other_so", "_law_long_so"]
abbrev P__law_seen : List Str := ["_law_one_so", "_law_other_so"]
theorem sc__law_seen : FnScope N__law_seen P__law_seen (defScope st__law_seen) := ⟨rfl, rfl, rfl, by decide +kernel, rfl, by decide +kernel, by decide +kernel⟩
theorem ok__law_seen {f : Addr} {fd : FuncData} (F : Fun K "_law_seen" "_law_seen" st__law_seen f fd) (T : Txt mg)
    {a__law_reduced : Addr} {fd__law_reduced : FuncData} (C__law_reduced : Cal P w K mg base 1 "_law_reduced" P__law_reduced false f__law_reduced a__law_reduced fd__law_reduced)
    {a__law_pal : Addr} {fd__law_pal : FuncData} (C__law_pal : Cal P w K mg base 1 "_law_pal" P__law_pal false f__law_pal a__law_pal fd__law_pal) : FnOk P w K mg base CX0 2 f fd P__law_seen (spOf K false f__law_seen) := by
  show FnOk P w K mg base CX0 2 f fd P__law_seen (spOf K false (mkF 2 3 (sSeq (sSetM [] 2 (eCall f__law_reduced (aCons (e2 addD (e2 addD (eCall f__law_pal (aCons (eVar 1) (aNil))) (eCall f__law_pal (aCons (eVar 0) (aNil)))) (eCall f__law_pal (aCons (eVar 1) (aNil)))) (aNil))))
  (sRet (eSl slD (eVar 2) (pNo) (pSo (e2 addD (e2 fdivD (eA lenD (aCons (eVar 2) (aNil))) (eC (.int 2))) (eC (.int 1)))))))))
  exact def_ok rfl rfl F sc__law_seen fun cdv A outer s H E hr => sss_cons (ss_setM (own := []) (sas_set (i := 2) sc__law_seen.nd (se_call C__law_reduced.ok (hr.mono (by omega)) C__law_reduced.mg C__law_reduced.kp C__law_reduced.bn (sa_cons (se_op op_addAll addD_sem (se_op op_addAll addD_sem (se_call C__law_pal.ok (hr.mono (by omega)) C__law_pal.mg C__law_pal.kp C__law_pal.bn (sa_cons (se_var 1) (sa_nil))) (se_call C__law_pal.ok (hr.mono (by omega)) C__law_pal.mg C__law_pal.kp C__law_pal.bn (sa_cons (se_var 0) (sa_nil)))) (se_call C__law_pal.ok (hr.mono (by omega)) C__law_pal.mg C__law_pal.kp C__law_pal.bn (sa_cons (se_var 1) (sa_nil)))) (sa_nil)))))
        (sss_one (ss_ret (own' := []) (se_sl (se_var 2) (so_no) (so_so (se_op op_addAll addD_sem (se_op op_fdivW fdivD_sem (se_callB call_len lenD_sem (sa_cons (se_var 2) (sa_nil)) T.b_len) (se_int)) (se_int))))))
abbrev st__law_lot : Stmt := top 31
abbrev N__law_lot : List Str := ["_law_box_here", "_law_many", "_law_size_so", "_law_longest", "_law_found", "_law_turn"]
abbrev P__law_lot : List Str := ["_law_box_here", "_law_many", "_law_size_so", "_law_longest"]
theorem sc__law_lot : FnScope N__law_lot P__law_lot (defScope st__law_lot) := ⟨rfl, rfl, rfl, by decide +kernel, rfl, by decide +kernel, by decide +kernel⟩
theorem ok__law_lot {f : Addr} {fd : FuncData} (F : Fun K "_law_lot" "_law_lot" st__law_lot f fd) (T : Txt mg)
    {a__law_take : Addr} {fd__law_take : FuncData} (C__law_take : Cal P w K mg base 1 "_law_take" P__law_take false f__law_take a__law_take fd__law_take)
    {a__law_way : Addr} {fd__law_way : FuncData} (C__law_way : Cal P w K mg base 4 "_law_way" P__law_way false f__law_way a__law_way fd__law_way) : FnOk P w K mg base CX0 5 f fd P__law_lot (spOf K false f__law_lot) := by
  show FnOk P w K mg base CX0 5 f fd P__law_lot (spOf K false (mkF 4 6 (sSeq (sSetM [] 4 (eLc [5] (setN 5) (iArgs rangeD (aCons (eCall f__law_take (aCons (eVar 0) (aCons (e2 addD (eVar 2) (eC (.int 1))) (aNil)))) (aNil))) (tYesF) (eCall f__law_way (aCons (eVar 0) (aCons (eVar 1) (aCons (eVar 3) (aNil)))))))
  (sRet (eA tupFD (aCons (eA sortSetFD (aCons (eVar 4) aNil)) (aNil)))))))
  exact def_ok rfl rfl F sc__law_lot fun cdv A outer s H E hr => sss_cons (ss_setM (own := []) (sas_lc (i := 4) (own := [("_law_turn", 5)]) rfl sc__law_lot.nd (si_range1 (sa_cons (se_call C__law_take.ok (hr.mono (by omega)) C__law_take.mg C__law_take.kp C__law_take.bn (sa_cons (se_var 0) (sa_cons (se_op op_addAll addD_sem (se_var 2) (se_int)) (sa_nil)))) (sa_nil)) T.b_range) (blkOk_by (own := [("_law_turn", 5)]) (N := N__law_lot) (sc := defScope st__law_lot) (by decide +kernel)) (fun _ _ _ _ _ => sg_name (i := 5) sc__law_lot.nd) ttYes (fun _ _ _ _ _ => pts_nil) (fun _ _ _ _ _ => se_call C__law_way.ok (hr.mono (by omega)) C__law_way.mg C__law_way.kp C__law_way.bn (sa_cons (se_var 0) (sa_cons (se_var 1) (sa_cons (se_var 3) (sa_nil))))) (sw_true rfl rfl rfl (by decide +kernel))))
        (sss_one (ss_ret (own' := []) (se_callTy call_tuple_of tupFD_sem (sa_cons (se_sortSet (se_var 4) hr T.b_sorted T.b_set) (sa_nil)) T.b_tuple)))
abbrev st__law_closed : Stmt := top 32
abbrev N__law_closed : List Str := ["_law_ways_so", "_law_longest", "_law_found", "_law_edge_so", "_law_mine", "_law_its", "_law_far"]
abbrev P__law_closed : List Str := ["_law_ways_so", "_law_longest"]
theorem sc__law_closed : FnScope N__law_closed P__law_closed (defScope st__law_closed) := ⟨rfl, rfl, rfl, by decide +kernel, rfl, by decide +kernel, by decide +kernel⟩
theorem ok__law_closed {f : Addr} {fd : FuncData} (F : Fun K "_law_closed" "_law_closed" st__law_closed f fd) (T : Txt mg)
    {a__law_seen : Addr} {fd__law_seen : FuncData} (C__law_seen : Cal P w K mg base 2 "_law_seen" P__law_seen false f__law_seen a__law_seen fd__law_seen) : FnOk P w K mg base CX0 3 f fd P__law_closed (spOf K false f__law_closed) := by
  show FnOk P w K mg base CX0 3 f fd P__law_closed (spOf K false (mkF 2 7 (sSeq (sSetO [] 2 (eA sortSetFD (aCons (eVar 0) aNil)))
  (sSeq (sSetOV 3 (eA listAD (aCons (eVar 2) (aNil))))
  (sSeq (whileF (tOf (e2 neD (eVar 3) (eA gLst (aNil))))
  (sSeq (sPopT 3 (setN 4))
  (sForF (setN 5) (eA listAD (aCons (eVar 2) (aNil)))
  (sFor [3, 2] (setN 6) (iOf itemsD (eA gTup (aCons (eCall f__law_seen (aCons (eVar 4) (aCons (eVar 5) (aNil)))) (aCons (eCall f__law_seen (aCons (eVar 5) (aCons (eVar 4) (aNil)))) (aNil)))))
  (sIf (tAn (tOf (e2 leD (eA lenD (aCons (eVar 6) (aNil))) (eVar 1))) (tOf (e2 ninD (eVar 6) (eVar 2))))
  (sSeq (sApp [3, 2] false 2 (eVar 6))
  (sApp [3, 2] false 3 (eVar 6)))
  (sNil))))) 100000)
  (sRet (eA sortFD (aCons (eVar 2) (aNil)))))))))
  exact def_ok rfl rfl F sc__law_closed fun cdv A outer s H E hr => sss_cons (ss_setO (own := []) (sas_set (i := 2) sc__law_closed.nd (se_sortSet (se_var 0) hr T.b_sorted T.b_set)))
        (sss_cons (ss_setOV (own := [2]) (sas_set (i := 3) sc__law_closed.nd (se_callTy call_listAll (listAD_sem rfl) (sa_cons (se_var 2) (sa_nil)) T.b_list)))
        (sss_cons (ss_while (own := [3, 2]) 100000 PassesOwn.never (st_cmp (op_neAll hr) neD_sem (se_var 3) (se_lst (sa_nil)) (hg := hgNe))
        (sss_cons (ss_popT (i := 3) (by decide) (ps_asg (pe_bm0 PySem.F.plainAttrs_list PySem.F.slot_list_pop PySem.F.type_list_pop mt_pop (pv 3)) (SG.run (sg_name (i := 4) sc__law_closed.nd))))
        (sss_one (ss_forF (own := [3, 2]) PassesOwn.never rfl (se_callTy call_listAll (listAD_sem rfl) (sa_cons (se_var 2) (sa_nil)) T.b_list) (sg_name (i := 5) sc__law_closed.nd)
        (sss_one (ss_for (own := [3, 2]) PassesOwn.never rfl (si_of (se_tup (sa_cons (se_call C__law_seen.ok (hr.mono (by omega)) C__law_seen.mg C__law_seen.kp C__law_seen.bn (sa_cons (se_var 4) (sa_cons (se_var 5) (sa_nil)))) (sa_cons (se_call C__law_seen.ok (hr.mono (by omega)) C__law_seen.mg C__law_seen.kp C__law_seen.bn (sa_cons (se_var 5) (sa_cons (se_var 4) (sa_nil)))) (sa_nil))))) (sg_name (i := 6) sc__law_closed.nd)
        (sss_one (ss_if (SW.st (sw_and (st_cmp op_le leD_sem (se_callB call_len lenD_sem (sa_cons (se_var 6) (sa_nil)) T.b_len) (se_var 1) (hg := hgLe)) (sw_and1 (st_cmp op_ninAll ninD_sem (se_var 6) (se_var 2) (hg := hgNin)))))
        (sss_cons (ss_appM (i := 2) (own := [3, 2]) (se_var 6) (by decide) (fun _ pa => ps_expr (pe_bm PySem.F.plainAttrs_list PySem.F.slot_list_append PySem.F.type_list_append mt_append (pv 2) pa)))
        (sss_one (ss_appM (i := 3) (own := [3, 2]) (se_var 6) (by decide) (fun _ pa => ps_expr (pe_bm PySem.F.plainAttrs_list PySem.F.slot_list_append PySem.F.type_list_append mt_append (pv 3) pa)))))
        (sss_nil)))))))))
        (sss_one (ss_ret (own' := [3, 2]) (se_callB (call_sortD hr) sortFD_sem (sa_cons (se_var 2) (sa_nil)) T.b_sorted)))))
abbrev st__law_first : Stmt := top 33
abbrev N__law_first : List Str := ["_law_doors_so", "_law_found", "_law_mine", "_law_its"]
abbrev P__law_first : List Str := ["_law_doors_so"]
theorem sc__law_first : FnScope N__law_first P__law_first (defScope st__law_first) := ⟨rfl, rfl, rfl, by decide +kernel, rfl, by decide +kernel, by decide +kernel⟩
theorem ok__law_first {f : Addr} {fd : FuncData} (F : Fun K "_law_first" "_law_first" st__law_first f fd) (T : Txt mg) : FnOk P w K mg base CX0 1 f fd P__law_first (spOf K false f__law_first) := by
  show FnOk P w K mg base CX0 1 f fd P__law_first (spOf K false (mkF 1 4 (sSeq (sSetO [] 1 (eA gLst (aNil)))
  (sSeq (sFor [1] (setN 2) (iOf itemsD (eVar 0))
  (sIf (tOf (e2 eqD (eLc [3] (setN 3) (iOf itemsD (eVar 0)) (tAn (tOf (e2 neD (eVar 3) (eVar 2))) (tOf (e2 eqD (eSl slD (eVar 2) (pNo) (pSo (eA lenD (aCons (eVar 3) (aNil))))) (eVar 3)))) (eVar 3)) (eA gLst (aNil))))
  (sApp [1] false 1 (eVar 2))
  (sNil)))
  (sRet (eA tupFD (aCons (eVar 1) (aNil))))))))
  exact def_ok rfl rfl F sc__law_first fun cdv A outer s H E hr => sss_cons (ss_setO (own := []) (sas_set (i := 1) sc__law_first.nd (se_lst (sa_nil))))
        (sss_cons (ss_for (own := [1]) PassesOwn.never rfl (si_of (se_var 0)) (sg_name (i := 2) sc__law_first.nd)
        (sss_one (ss_if (st_cmp (op_eqAll hr) eqD_sem (se_lc (own := [("_law_its", 3)]) rfl sc__law_first.nd (si_of (se_var 0)) (blkOk_by (own := [("_law_its", 3)]) (N := N__law_first) (sc := defScope st__law_first) (by decide +kernel)) (fun _ _ _ _ _ => sg_name (i := 3) sc__law_first.nd) ttT (fun _ _ _ _ _ => pts_one (ST.pt (SW.st (sw_and (st_cmp (op_neAll hr) neD_sem (se_var 3) (se_var 2) (hg := hgNe)) (sw_and1 (st_cmp (op_eqAll hr) eqD_sem (se_sl (se_var 2) (so_no) (so_so (se_callB call_len lenD_sem (sa_cons (se_var 3) (sa_nil)) T.b_len))) (se_var 3) (hg := hgEq))))))) (fun _ _ _ _ _ => se_var 3)) (se_lst (sa_nil)) (hg := hgEq))
        (sss_one (ss_appM (i := 1) (own := [1]) (se_var 2) (by decide) (fun _ pa => ps_expr (pe_bm PySem.F.plainAttrs_list PySem.F.slot_list_append PySem.F.type_list_append mt_append (pv 1) pa))))
        (sss_nil))))
        (sss_one (ss_ret (own' := [1]) (se_callTy call_tuple_of tupFD_sem (sa_cons (se_var 1) (sa_nil)) T.b_tuple))))
abbrev st__law_size : Stmt := top 34
abbrev N__law_size : List Str := ["_law_box_here"]
abbrev P__law_size : List Str := ["_law_box_here"]
theorem sc__law_size : FnScope N__law_size P__law_size (defScope st__law_size) := ⟨rfl, rfl, rfl, by decide +kernel, rfl, by decide +kernel, by decide +kernel⟩
theorem ok__law_size {f : Addr} {fd : FuncData} (F : Fun K "_law_size" "_law_size" st__law_size f fd) (T : Txt mg)
    {a__law_of : Addr} {fd__law_of : FuncData} (C__law_of : Cal P w K mg base 2 "_law_of" P__law_of false f__law_of a__law_of fd__law_of) : FnOk P w K mg base CX0 3 f fd P__law_size (spOf K false f__law_size) := by
  show FnOk P w K mg base CX0 3 f fd P__law_size (spOf K false (mkF 1 1 (sRet (eCall f__law_of (aCons (eVar 0) (aCons (eA gLst (aCons (eA gTup (aCons (eC (.int 2)) (aCons (eC (.int 5)) (aNil)))) (aCons (eA gTup (aCons (eC (.int 2)) (aCons (eC (.int 6)) (aNil)))) (aCons (eA gTup (aCons (eC (.int 3)) (aCons (eC (.int 3)) (aNil)))) (aCons (eA gTup (aCons (eC (.int 3)) (aCons (eC (.int 4)) (aNil)))) (aCons (eA gTup (aCons (eC (.int 4)) (aCons (eC (.int 2)) (aNil)))) (aNil))))))) (aNil)))))))
  exact def_ok rfl rfl F sc__law_size fun cdv A outer s H E hr => sss_one (ss_ret (own' := []) (se_call C__law_of.ok (hr.mono (by omega)) C__law_of.mg C__law_of.kp C__law_of.bn (sa_cons (se_var 0) (sa_cons (se_lst (sa_cons (se_tup (sa_cons (se_int) (sa_cons (se_int) (sa_nil)))) (sa_cons (se_tup (sa_cons (se_int) (sa_cons (se_int) (sa_nil)))) (sa_cons (se_tup (sa_cons (se_int) (sa_cons (se_int) (sa_nil)))) (sa_cons (se_tup (sa_cons (se_int) (sa_cons (se_int) (sa_nil)))) (sa_cons (se_tup (sa_cons (se_int) (sa_cons (se_int) (sa_nil)))) (sa_nil))))))) (sa_nil)))))
abbrev st__law_rows_right : Stmt := top 35
abbrev N__law_rows_right : List Str := ["_law_lot_so", "_law_edge_so", "_law_turn", "_law_later", "_law_own", "_law_row_so", "_law_room", "_law_rest_so"]
abbrev P__law_rows_right : List Str := ["_law_lot_so"]
theorem sc__law_rows_right : FnScope N__law_rows_right P__law_rows_right (defScope st__law_rows_right) := ⟨rfl, rfl, rfl, by decide +kernel, rfl, by decide +kernel, by decide +kernel⟩
theorem ok__law_rows_right {f : Addr} {fd : FuncData} (F : Fun K "_law_rows_right" "_law_rows_right" st__law_rows_right f fd) (T : Txt mg)
    {a__law_pal : Addr} {fd__law_pal : FuncData} (C__law_pal : Cal P w K mg base 1 "_law_pal" P__law_pal false f__law_pal a__law_pal fd__law_pal)
    {a__law_reduced : Addr} {fd__law_reduced : FuncData} (C__law_reduced : Cal P w K mg base 1 "_law_reduced" P__law_reduced false f__law_reduced a__law_reduced fd__law_reduced) : FnOk P w K mg base CX0 2 f fd P__law_rows_right (spOf K false f__law_rows_right) := by
  show FnOk P w K mg base CX0 2 f fd P__law_rows_right (spOf K false (mkF 1 8 (sSeq (sSetM [] 1 (eLc [4] (setN 4) (iOf itemsD (eVar 0)) (tYesF) (eA gTup (aCons (eA gTup (aCons (eVar 4) (aNil))) (aCons (eCall f__law_pal (aCons (eVar 4) (aNil))) (aNil))))))
  (sSeq (sFor [] (setN 2) (iArgs rangeD (aCons (eC (.int 3)) (aNil)))
  (sSeq (sIf (tOf (e2 neD (eLc [5, 6] (setT [5, 6]) (iOf itemsD (eVar 1)) (tOf (e2 eqD (eVar 6) (eC (.str (Str.ofString ""))))) (eVar 6)) (eA gLst (aNil))))
  (sRet (eC (.bool false)))
  (sNil))
  (sSeq (sSetM [] 3 (eA gLst (aNil)))
  (sSeq (sFor [] (setT [5, 6]) (iOf itemsD (eVar 1))
  (sSeq (sSetM [] 7 (eLc [4] (setN 4) (iOf itemsD (eVar 0)) (tOf (e2 neD (eVar 4) (eIx (eVar 5) (e1 negD (eC (.int 1)))))) (eVar 4)))
  (sSetM [] 3 (e2 addD (eVar 3) (eLc [4] (setN 4) (iOf itemsD (eVar 7)) (tYesF) (eA gTup (aCons (e2 addD (eVar 5) (eA gTup (aCons (eVar 4) (aNil)))) (aCons (eCall f__law_reduced (aCons (e2 addD (eCall f__law_pal (aCons (eVar 4) (aNil))) (eVar 6)) (aNil))) (aNil)))))))))
  (sSetM [] 1 (eVar 3))))))
  (sRet (e2 eqD (eLc [5, 6] (setT [5, 6]) (iOf itemsD (eVar 1)) (tOf (e2 eqD (eVar 6) (eC (.str (Str.ofString ""))))) (eVar 6)) (eA gLst (aNil))))))))
  exact def_ok rfl rfl F sc__law_rows_right fun cdv A outer s H E hr => sss_cons (ss_setM (own := []) (sas_lc (i := 1) (own := [("_law_own", 4)]) rfl sc__law_rows_right.nd (si_of (se_var 0)) (blkOk_by (own := [("_law_own", 4)]) (N := N__law_rows_right) (sc := defScope st__law_rows_right) (by decide +kernel)) (fun _ _ _ _ _ => sg_name (i := 4) sc__law_rows_right.nd) ttYes (fun _ _ _ _ _ => pts_nil) (fun _ _ _ _ _ => se_tup (sa_cons (se_tup (sa_cons (se_var 4) (sa_nil))) (sa_cons (se_call C__law_pal.ok (hr.mono (by omega)) C__law_pal.mg C__law_pal.kp C__law_pal.bn (sa_cons (se_var 4) (sa_nil))) (sa_nil)))) (sw_true rfl rfl rfl (by decide +kernel))))
        (sss_cons (ss_for (own := []) PassesOwn.never rfl (si_range1 (sa_cons (se_int) (sa_nil)) T.b_range) (sg_name (i := 2) sc__law_rows_right.nd)
        (sss_cons (ss_if (st_cmp (op_neAll hr) neD_sem (se_lc (own := [("_law_row_so", 5), ("_law_room", 6)]) rfl sc__law_rows_right.nd (si_of (se_var 1)) (blkOk_by (own := [("_law_row_so", 5), ("_law_room", 6)]) (N := N__law_rows_right) (sc := defScope st__law_rows_right) (by decide +kernel)) (fun _ _ _ _ _ => sg_tup rfl (sgs_cons (i := 5) (sgs_cons (i := 6) (sgs_nil) sc__law_rows_right.nd) sc__law_rows_right.nd)) ttT (fun _ _ _ _ _ => pts_one (ST.pt (st_cmp (op_eqAll hr) eqD_sem (se_var 6) (se_str) (hg := hgEq)))) (fun _ _ _ _ _ => se_var 6)) (se_lst (sa_nil)) (hg := hgNe))
        (sss_one (ss_ret (own' := []) (se_bl)))
        (sss_nil))
        (sss_cons (ss_setM (own := []) (sas_set (i := 3) sc__law_rows_right.nd (se_lst (sa_nil))))
        (sss_cons (ss_for (own := []) PassesOwn.never rfl (si_of (se_var 1)) (sg_tup rfl (sgs_cons (i := 5) (sgs_cons (i := 6) (sgs_nil) sc__law_rows_right.nd) sc__law_rows_right.nd))
        (sss_cons (ss_setM (own := []) (sas_lc (i := 7) (own := [("_law_own", 4)]) rfl sc__law_rows_right.nd (si_of (se_var 0)) (blkOk_by (own := [("_law_own", 4)]) (N := N__law_rows_right) (sc := defScope st__law_rows_right) (by decide +kernel)) (fun _ _ _ _ _ => sg_name (i := 4) sc__law_rows_right.nd) ttT (fun _ _ _ _ _ => pts_one (ST.pt (st_cmp (op_neAll hr) neD_sem (se_var 4) (se_ix (se_var 5) (se_un un_neg negD_sem (se_int))) (hg := hgNe)))) (fun _ _ _ _ _ => se_var 4) (sw_true rfl rfl rfl (by decide +kernel))))
        (sss_one (ss_setM (own := []) (sas_set (i := 3) sc__law_rows_right.nd (se_op op_addAll addD_sem (se_var 3) (se_lc (own := [("_law_own", 4)]) rfl sc__law_rows_right.nd (si_of (se_var 7)) (blkOk_by (own := [("_law_own", 4)]) (N := N__law_rows_right) (sc := defScope st__law_rows_right) (by decide +kernel)) (fun _ _ _ _ _ => sg_name (i := 4) sc__law_rows_right.nd) ttYes (fun _ _ _ _ _ => pts_nil) (fun _ _ _ _ _ => se_tup (sa_cons (se_op op_addAll addD_sem (se_var 5) (se_tup (sa_cons (se_var 4) (sa_nil)))) (sa_cons (se_call C__law_reduced.ok (hr.mono (by omega)) C__law_reduced.mg C__law_reduced.kp C__law_reduced.bn (sa_cons (se_op op_addAll addD_sem (se_call C__law_pal.ok (hr.mono (by omega)) C__law_pal.mg C__law_pal.kp C__law_pal.bn (sa_cons (se_var 4) (sa_nil))) (se_var 6)) (sa_nil))) (sa_nil)))))))))))
        (sss_one (ss_setM (own := []) (sas_set (i := 1) sc__law_rows_right.nd (se_var 3))))))))
        (sss_one (ss_ret (own' := []) (se_cmp (op_eqAll hr) eqD_sem (se_lc (own := [("_law_row_so", 5), ("_law_room", 6)]) rfl sc__law_rows_right.nd (si_of (se_var 1)) (blkOk_by (own := [("_law_row_so", 5), ("_law_room", 6)]) (N := N__law_rows_right) (sc := defScope st__law_rows_right) (by decide +kernel)) (fun _ _ _ _ _ => sg_tup rfl (sgs_cons (i := 5) (sgs_cons (i := 6) (sgs_nil) sc__law_rows_right.nd) sc__law_rows_right.nd)) ttT (fun _ _ _ _ _ => pts_one (ST.pt (st_cmp (op_eqAll hr) eqD_sem (se_var 6) (se_str) (hg := hgEq)))) (fun _ _ _ _ _ => se_var 6)) (se_lst (sa_nil))))))
abbrev st__law_case_right : Stmt := top 36
abbrev N__law_case_right : List Str := ["_law_lot_so", "_law_longest", "_law_due", "_law_is_so", "_law_got", "_law_own", "_law_far"]
abbrev P__law_case_right : List Str := ["_law_lot_so", "_law_longest"]
theorem sc__law_case_right : FnScope N__law_case_right P__law_case_right (defScope st__law_case_right) := ⟨rfl, rfl, rfl, by decide +kernel, rfl, by decide +kernel, by decide +kernel⟩
theorem ok__law_case_right {f : Addr} {fd : FuncData} (F : Fun K "_law_case_right" "_law_case_right" st__law_case_right f fd) (T : Txt mg)
    {a__law_closed : Addr} {fd__law_closed : FuncData} (C__law_closed : Cal P w K mg base 3 "_law_closed" P__law_closed false f__law_closed a__law_closed fd__law_closed)
    {a__law_first : Addr} {fd__law_first : FuncData} (C__law_first : Cal P w K mg base 1 "_law_first" P__law_first false f__law_first a__law_first fd__law_first)
    {a_needless : Addr} {fd_needless : FuncData} (C_needless : Cal P w K mg base 8 "needless" P_needless false f_needless a_needless fd_needless)
    {a_are_free : Addr} {fd_are_free : FuncData} (C_are_free : Cal P w K mg base 6 "are_free" P_are_free false f_are_free a_are_free fd_are_free)
    {a__law_same : Addr} {fd__law_same : FuncData} (C__law_same : Cal P w K mg base 9 "_law_same" P__law_same false f__law_same a__law_same fd__law_same)
    {a__law_rows_right : Addr} {fd__law_rows_right : FuncData} (C__law_rows_right : Cal P w K mg base 2 "_law_rows_right" P__law_rows_right false f__law_rows_right a__law_rows_right fd__law_rows_right)
    (kb_needless_ways : KB K fd_needless P_needless ["ways"] [0])
    (kb_are_free_ways : KB K fd_are_free P_are_free ["ways"] [0]) : FnOk P w K mg base CX0 10 f fd P__law_case_right (spOf K false f__law_case_right) := by
  show FnOk P w K mg base CX0 10 f fd P__law_case_right (spOf K false (mkF 2 7 (sSeq (sSetM [] 2 (eA tupFD (aCons (eLc [5] (setN 5) (iOf itemsD (eVar 0)) (tOf (e2 inD (eVar 5) (eCall f__law_closed (aCons (eLc [6] (setN 6) (iOf itemsD (eVar 0)) (tOf (e2 neD (eVar 6) (eVar 5))) (eVar 6)) (aCons (eVar 1) (aNil)))))) (eVar 5)) (aNil))))
  (sSeq (sSetM [] 3 (e2 eqD (eA lenD (aCons (eCall f__law_first (aCons (eCall f__law_closed (aCons (eVar 0) (aCons (eVar 1) (aNil)))) (aNil))) (aNil))) (eA lenD (aCons (eVar 0) (aNil)))))
  (sSeq (sSetM [] 4 (eA gLst (aCons (eCall f_needless (aCons (eVar 0) (aNil))) (aCons (eCallK [0] f_needless (aCons (e2 addD (eA listAD (aCons (e1 revD (eVar 0)) (aNil))) (eA listAD (aCons (eSl slD (eVar 0) (pNo) (pSo (eC (.int 1)))) (aNil)))) (aNil))) (aNil)))))
  (sSeq (sSetM [] 4 (e2 addD (eVar 4) (eA gLst (aCons (eCall f_are_free (aCons (eVar 0) (aNil))) (aCons (eCallK [0] f_are_free (aCons (e2 addD (eA listAD (aCons (eVar 0) (aNil))) (eA listAD (aCons (eSl slD (eVar 0) (pSo (e1 negD (eC (.int 1)))) (pNo)) (aNil)))) (aNil))) (aNil))))))
  (sRet (eAn (eCall f__law_same (aCons (eVar 4) (aCons (eA gLst (aCons (eVar 2) (aCons (eVar 2) (aCons (eVar 3) (aCons (eVar 3) (aNil)))))) (aNil)))) (eOr (eNt (eVar 3)) (eCall f__law_rows_right (aCons (eVar 0) (aNil))))))))))))
  exact def_ok rfl rfl F sc__law_case_right fun cdv A outer s H E hr => sss_cons (ss_setM (own := []) (sas_set (i := 2) sc__law_case_right.nd (se_callTy call_tuple_of tupFD_sem (sa_cons (se_lc (own := [("_law_own", 5)]) rfl sc__law_case_right.nd (si_of (se_var 0)) (blkOk_by (own := [("_law_own", 5)]) (N := N__law_case_right) (sc := defScope st__law_case_right) (by decide +kernel)) (fun _ _ _ _ _ => sg_name (i := 5) sc__law_case_right.nd) ttT (fun _ _ _ _ _ => pts_one (ST.pt (st_cmp op_inAll inD_sem (se_var 5) (se_call C__law_closed.ok (hr.mono (by omega)) C__law_closed.mg C__law_closed.kp C__law_closed.bn (sa_cons (se_lc (own := [("_law_far", 6)]) rfl sc__law_case_right.nd (si_of (se_var 0)) (by refine blkOk_by (own := [("_law_far", 6)]) (N := N__law_case_right) ?_; first | kernel_rfl | rfl) (fun _ _ _ _ _ => sg_name (i := 6) sc__law_case_right.nd) ttT (fun _ _ _ _ _ => pts_one (ST.pt (st_cmp (op_neAll hr) neD_sem (se_var 6) (se_var 5) (hg := hgNe)))) (fun _ _ _ _ _ => se_var 6)) (sa_cons (se_var 1) (sa_nil)))) (hg := hgIn)))) (fun _ _ _ _ _ => se_var 5)) (sa_nil)) T.b_tuple)))
        (sss_cons (ss_setM (own := []) (sas_set (i := 3) sc__law_case_right.nd (se_cmp (op_eqAll hr) eqD_sem (se_callB call_len lenD_sem (sa_cons (se_call C__law_first.ok (hr.mono (by omega)) C__law_first.mg C__law_first.kp C__law_first.bn (sa_cons (se_call C__law_closed.ok (hr.mono (by omega)) C__law_closed.mg C__law_closed.kp C__law_closed.bn (sa_cons (se_var 0) (sa_cons (se_var 1) (sa_nil)))) (sa_nil))) (sa_nil)) T.b_len) (se_callB call_len lenD_sem (sa_cons (se_var 0) (sa_nil)) T.b_len))))
        (sss_cons (ss_setM (own := []) (sas_set (i := 4) sc__law_case_right.nd (se_lst (sa_cons (se_call C_needless.ok (hr.mono (by omega)) C_needless.mg C_needless.kp C_needless.bn (sa_cons (se_var 0) (sa_nil))) (sa_cons (se_callK C_needless.ok (hr.mono (by omega)) C_needless.mg C_needless.kp kb_needless_ways (sk_cons (se_op op_addAll addD_sem (se_callTy call_listAll (listAD_sem rfl) (sa_cons (se_revS (se_var 0)) (sa_nil)) T.b_list) (se_callTy call_listAll (listAD_sem rfl) (sa_cons (se_sl (se_var 0) (so_no) (so_so (se_int))) (sa_nil)) T.b_list)) (sk_nil)) ((ln_cons ln_nil))) (sa_nil))))))
        (sss_cons (ss_setM (own := []) (sas_set (i := 4) sc__law_case_right.nd (se_op op_addAll addD_sem (se_var 4) (se_lst (sa_cons (se_call C_are_free.ok (hr.mono (by omega)) C_are_free.mg C_are_free.kp C_are_free.bn (sa_cons (se_var 0) (sa_nil))) (sa_cons (se_callK C_are_free.ok (hr.mono (by omega)) C_are_free.mg C_are_free.kp kb_are_free_ways (sk_cons (se_op op_addAll addD_sem (se_callTy call_listAll (listAD_sem rfl) (sa_cons (se_var 0) (sa_nil)) T.b_list) (se_callTy call_listAll (listAD_sem rfl) (sa_cons (se_sl (se_var 0) (so_so (se_un un_neg negD_sem (se_int))) (so_no)) (sa_nil)) T.b_list)) (sk_nil)) ((ln_cons ln_nil))) (sa_nil)))))))
        (sss_one (ss_ret (own' := []) (se_and (se_call C__law_same.ok (hr.mono (by omega)) C__law_same.mg C__law_same.kp C__law_same.bn (sa_cons (se_var 4) (sa_cons (se_lst (sa_cons (se_var 2) (sa_cons (se_var 2) (sa_cons (se_var 3) (sa_cons (se_var 3) (sa_nil)))))) (sa_nil)))) (se_one (se_or (se_not (se_var 3)) (se_one (se_call C__law_rows_right.ok (hr.mono (by omega)) C__law_rows_right.mg C__law_rows_right.kp C__law_rows_right.bn (sa_cons (se_var 0) (sa_nil))))))))))))
abbrev st__law_by_hand_right : Stmt := top 37
abbrev N__law_by_hand_right : List Str := ["_law_got", "_law_due"]
abbrev P__law_by_hand_right : List Str := []
theorem sc__law_by_hand_right : FnScope N__law_by_hand_right P__law_by_hand_right (defScope st__law_by_hand_right) := ⟨rfl, rfl, rfl, by decide +kernel, rfl, by decide +kernel, by decide +kernel⟩
theorem ok__law_by_hand_right {f : Addr} {fd : FuncData} (F : Fun K "_law_by_hand_right" "_law_by_hand_right" st__law_by_hand_right f fd) (T : Txt mg)
    {a_needless : Addr} {fd_needless : FuncData} (C_needless : Cal P w K mg base 8 "needless" P_needless false f_needless a_needless fd_needless)
    {a_are_free : Addr} {fd_are_free : FuncData} (C_are_free : Cal P w K mg base 6 "are_free" P_are_free false f_are_free a_are_free fd_are_free)
    {a__law_same : Addr} {fd__law_same : FuncData} (C__law_same : Cal P w K mg base 9 "_law_same" P__law_same false f__law_same a__law_same fd__law_same) : FnOk P w K mg base CX0 10 f fd P__law_by_hand_right (spOf K false f__law_by_hand_right) := by
  show FnOk P w K mg base CX0 10 f fd P__law_by_hand_right (spOf K false (mkF 0 2 (sSeq (sSetM [] 0 (eA gLst (aCons (eCall f_needless (aCons (eA gTup (aCons (eC (.str (Str.ofString "ab"))) (aCons (eC (.str (Str.ofString "b"))) (aCons (eC (.str (Str.ofString "bab"))) (aNil))))) (aNil))) (aCons (eCall f_needless (aCons (eA gTup (aCons (eC (.str (Str.ofString "ab"))) (aCons (eC (.str (Str.ofString "b"))) (aNil)))) (aNil))) (aCons (eCall f_needless (aCons (eA gTup (aNil)) (aNil))) (aCons (eCall f_needless (aCons (eA gTup (aCons (eC (.str (Str.ofString "a"))) (aNil))) (aNil))) (aCons (eCall f_needless (aCons (eA gLst (aCons (eC (.str (Str.ofString "a"))) (aCons (eC (.str (Str.ofString "a"))) (aNil)))) (aNil))) (aNil))))))))
  (sSeq (sSetM [] 1 (eA gLst (aCons (eA gTup (aCons (eC (.str (Str.ofString "ab"))) (aCons (eC (.str (Str.ofString "bab"))) (aNil)))) (aCons (eA gTup (aNil)) (aCons (eA gTup (aNil)) (aCons (eA gTup (aNil)) (aCons (eA gTup (aNil)) (aNil))))))))
  (sSeq (sSetM [] 0 (e2 addD (eVar 0) (eA gLst (aCons (eCall f_are_free (aCons (eA gTup (aCons (eC (.str (Str.ofString "ab"))) (aCons (eC (.str (Str.ofString "b"))) (aNil)))) (aNil))) (aCons (eCall f_are_free (aCons (eA gTup (aCons (eC (.str (Str.ofString "a"))) (aCons (eC (.str (Str.ofString "aba"))) (aNil)))) (aNil))) (aCons (eCall f_are_free (aCons (eA gTup (aCons (eC (.str (Str.ofString "ab"))) (aCons (eC (.str (Str.ofString "b"))) (aCons (eC (.str (Str.ofString "bab"))) (aNil))))) (aNil))) (aCons (eCall f_are_free (aCons (eA gTup (aNil)) (aNil))) (aNil))))))))
  (sSeq (sSetM [] 1 (e2 addD (eVar 1) (eA gLst (aCons (eC (.bool true)) (aCons (eC (.bool true)) (aCons (eC (.bool false)) (aCons (eC (.bool true)) (aNil))))))))
  (sSeq (sSetM [] 0 (e2 addD (eVar 0) (eA gLst (aCons (eCall f_are_free (aCons (eA gTup (aCons (eC (.str (Str.ofString "b"))) (aCons (eC (.str (Str.ofString "b"))) (aNil)))) (aNil))) (aCons (eCall f_are_free (aCons (eA gTup (aCons (eC (.str (Str.ofString "a"))) (aCons (eC (.str (Str.ofString "b"))) (aCons (eC (.str (Str.ofString "ab"))) (aNil))))) (aNil))) (aCons (eCall f_needless (aCons (eA gTup (aCons (eC (.str (Str.ofString "b"))) (aCons (eC (.str (Str.ofString "a"))) (aCons (eC (.str (Str.ofString "ab"))) (aNil))))) (aNil))) (aNil)))))))
  (sSeq (sSetM [] 0 (e2 addD (eVar 0) (eA gLst (aCons (eCall f_needless (aCons (eA gTup (aCons (eC (.str (Str.ofString "a"))) (aCons (eC (.str (Str.ofString "abcba"))) (aCons (eC (.str (Str.ofString "bc"))) (aNil))))) (aNil))) (aNil)))))
  (sSeq (sSetM [] 1 (e2 addD (eVar 1) (eA gLst (aCons (eC (.bool true)) (aCons (eC (.bool false)) (aCons (eA gTup (aCons (eC (.str (Str.ofString "ab"))) (aCons (eC (.str (Str.ofString "b"))) (aNil)))) (aCons (eA gTup (aCons (eC (.str (Str.ofString "abcba"))) (aNil))) (aNil))))))))
  (sSeq (sSetM [] 0 (e2 addD (eVar 0) (eA gLst (aCons (eCall f_needless (aCons (eA gTup (aCons (eC (.str (Str.ofString "bc"))) (aCons (eC (.str (Str.ofString "bcb"))) (aCons (eC (.str (Str.ofString "b"))) (aCons (eC (.str (Str.ofString "c"))) (aNil)))))) (aNil))) (aCons (eCall f_are_free (aCons (eA gTup (aCons (eC (.str (Str.ofString "bc"))) (aCons (eC (.str (Str.ofString "bcb"))) (aNil)))) (aNil))) (aCons (eCall f_needless (aCons (eA gTup (aCons (eC (.str (Str.ofString "bc"))) (aCons (eC (.str (Str.ofString "bcb"))) (aNil)))) (aNil))) (aNil)))))))
  (sSeq (sSetM [] 1 (e2 addD (eVar 1) (eA gLst (aCons (eA gTup (aCons (eC (.str (Str.ofString "b"))) (aCons (eC (.str (Str.ofString "bc"))) (aCons (eC (.str (Str.ofString "bcb"))) (aCons (eC (.str (Str.ofString "c"))) (aNil)))))) (aCons (eC (.bool true)) (aCons (eA gTup (aNil)) (aNil)))))))
  (sSeq (sSetM [] 0 (e2 addD (eVar 0) (eA gLst (aCons (eCall f_needless (aCons (eA gTup (aCons (e2 mulAD (eC (.str (Str.ofString "ab"))) (eC (.int 100))) (aCons (eC (.str (Str.ofString "a"))) (aCons (eC (.str (Str.ofString "b"))) (aNil))))) (aNil))) (aCons (eCall f_are_free (aCons (eA gTup (aCons (e2 mulAD (eC (.str (Str.ofString "ab"))) (eC (.int 100))) (aCons (eC (.str (Str.ofString "a"))) (aCons (eC (.str (Str.ofString "b"))) (aNil))))) (aNil))) (aNil))))))
  (sSeq (sSetM [] 0 (e2 addD (eVar 0) (eA gLst (aCons (eCall f_are_free (aCons (eA gTup (aCons (e2 mulAD (eC (.str (Str.ofString "ab"))) (eC (.int 100))) (aCons (e2 addD (e2 mulAD (eC (.str (Str.ofString "ab"))) (eC (.int 99))) (eC (.str (Str.ofString "a")))) (aNil)))) (aNil))) (aNil)))))
  (sSeq (sSetM [] 1 (e2 addD (eVar 1) (eA gLst (aCons (eA gTup (aCons (e2 mulAD (eC (.str (Str.ofString "ab"))) (eC (.int 100))) (aNil))) (aCons (eC (.bool false)) (aCons (eC (.bool true)) (aNil)))))))
  (sSeq (sSetM [] 0 (e2 addD (eVar 0) (eA gLst (aCons (eCall f_are_free (aCons (eA tupAD (aCons (eC (.str (Str.ofString "abcdefgh"))) (aNil))) (aNil))) (aCons (eCall f_are_free (aCons (e2 addD (eA tupAD (aCons (eC (.str (Str.ofString "abcdefgh"))) (aNil))) (eA gTup (aCons (eC (.str (Str.ofString "ab"))) (aNil)))) (aNil))) (aNil))))))
  (sRet (eCall f__law_same (aCons (eVar 0) (aCons (e2 addD (eVar 1) (eA gLst (aCons (eC (.bool true)) (aCons (eC (.bool false)) (aNil))))) (aNil))))))))))))))))))))
  exact def_ok rfl rfl F sc__law_by_hand_right fun cdv A outer s H E hr => sss_cons (ss_setM (own := []) (sas_set (i := 0) sc__law_by_hand_right.nd (se_lst (sa_cons (se_call C_needless.ok (hr.mono (by omega)) C_needless.mg C_needless.kp C_needless.bn (sa_cons (se_tup (sa_cons (se_str) (sa_cons (se_str) (sa_cons (se_str) (sa_nil))))) (sa_nil))) (sa_cons (se_call C_needless.ok (hr.mono (by omega)) C_needless.mg C_needless.kp C_needless.bn (sa_cons (se_tup (sa_cons (se_str) (sa_cons (se_str) (sa_nil)))) (sa_nil))) (sa_cons (se_call C_needless.ok (hr.mono (by omega)) C_needless.mg C_needless.kp C_needless.bn (sa_cons (se_tup (sa_nil)) (sa_nil))) (sa_cons (se_call C_needless.ok (hr.mono (by omega)) C_needless.mg C_needless.kp C_needless.bn (sa_cons (se_tup (sa_cons (se_str) (sa_nil))) (sa_nil))) (sa_cons (se_call C_needless.ok (hr.mono (by omega)) C_needless.mg C_needless.kp C_needless.bn (sa_cons (se_lst (sa_cons (se_str) (sa_cons (se_str) (sa_nil)))) (sa_nil))) (sa_nil)))))))))
        (sss_cons (ss_setM (own := []) (sas_set (i := 1) sc__law_by_hand_right.nd (se_lst (sa_cons (se_tup (sa_cons (se_str) (sa_cons (se_str) (sa_nil)))) (sa_cons (se_tup (sa_nil)) (sa_cons (se_tup (sa_nil)) (sa_cons (se_tup (sa_nil)) (sa_cons (se_tup (sa_nil)) (sa_nil)))))))))
        (sss_cons (ss_setM (own := []) (sas_set (i := 0) sc__law_by_hand_right.nd (se_op op_addAll addD_sem (se_var 0) (se_lst (sa_cons (se_call C_are_free.ok (hr.mono (by omega)) C_are_free.mg C_are_free.kp C_are_free.bn (sa_cons (se_tup (sa_cons (se_str) (sa_cons (se_str) (sa_nil)))) (sa_nil))) (sa_cons (se_call C_are_free.ok (hr.mono (by omega)) C_are_free.mg C_are_free.kp C_are_free.bn (sa_cons (se_tup (sa_cons (se_str) (sa_cons (se_str) (sa_nil)))) (sa_nil))) (sa_cons (se_call C_are_free.ok (hr.mono (by omega)) C_are_free.mg C_are_free.kp C_are_free.bn (sa_cons (se_tup (sa_cons (se_str) (sa_cons (se_str) (sa_cons (se_str) (sa_nil))))) (sa_nil))) (sa_cons (se_call C_are_free.ok (hr.mono (by omega)) C_are_free.mg C_are_free.kp C_are_free.bn (sa_cons (se_tup (sa_nil)) (sa_nil))) (sa_nil)))))))))
        (sss_cons (ss_setM (own := []) (sas_set (i := 1) sc__law_by_hand_right.nd (se_op op_addAll addD_sem (se_var 1) (se_lst (sa_cons (se_bl) (sa_cons (se_bl) (sa_cons (se_bl) (sa_cons (se_bl) (sa_nil)))))))))
        (sss_cons (ss_setM (own := []) (sas_set (i := 0) sc__law_by_hand_right.nd (se_op op_addAll addD_sem (se_var 0) (se_lst (sa_cons (se_call C_are_free.ok (hr.mono (by omega)) C_are_free.mg C_are_free.kp C_are_free.bn (sa_cons (se_tup (sa_cons (se_str) (sa_cons (se_str) (sa_nil)))) (sa_nil))) (sa_cons (se_call C_are_free.ok (hr.mono (by omega)) C_are_free.mg C_are_free.kp C_are_free.bn (sa_cons (se_tup (sa_cons (se_str) (sa_cons (se_str) (sa_cons (se_str) (sa_nil))))) (sa_nil))) (sa_cons (se_call C_needless.ok (hr.mono (by omega)) C_needless.mg C_needless.kp C_needless.bn (sa_cons (se_tup (sa_cons (se_str) (sa_cons (se_str) (sa_cons (se_str) (sa_nil))))) (sa_nil))) (sa_nil))))))))
        (sss_cons (ss_setM (own := []) (sas_set (i := 0) sc__law_by_hand_right.nd (se_op op_addAll addD_sem (se_var 0) (se_lst (sa_cons (se_call C_needless.ok (hr.mono (by omega)) C_needless.mg C_needless.kp C_needless.bn (sa_cons (se_tup (sa_cons (se_str) (sa_cons (se_str) (sa_cons (se_str) (sa_nil))))) (sa_nil))) (sa_nil))))))
        (sss_cons (ss_setM (own := []) (sas_set (i := 1) sc__law_by_hand_right.nd (se_op op_addAll addD_sem (se_var 1) (se_lst (sa_cons (se_bl) (sa_cons (se_bl) (sa_cons (se_tup (sa_cons (se_str) (sa_cons (se_str) (sa_nil)))) (sa_cons (se_tup (sa_cons (se_str) (sa_nil))) (sa_nil)))))))))
        (sss_cons (ss_setM (own := []) (sas_set (i := 0) sc__law_by_hand_right.nd (se_op op_addAll addD_sem (se_var 0) (se_lst (sa_cons (se_call C_needless.ok (hr.mono (by omega)) C_needless.mg C_needless.kp C_needless.bn (sa_cons (se_tup (sa_cons (se_str) (sa_cons (se_str) (sa_cons (se_str) (sa_cons (se_str) (sa_nil)))))) (sa_nil))) (sa_cons (se_call C_are_free.ok (hr.mono (by omega)) C_are_free.mg C_are_free.kp C_are_free.bn (sa_cons (se_tup (sa_cons (se_str) (sa_cons (se_str) (sa_nil)))) (sa_nil))) (sa_cons (se_call C_needless.ok (hr.mono (by omega)) C_needless.mg C_needless.kp C_needless.bn (sa_cons (se_tup (sa_cons (se_str) (sa_cons (se_str) (sa_nil)))) (sa_nil))) (sa_nil))))))))
        (sss_cons (ss_setM (own := []) (sas_set (i := 1) sc__law_by_hand_right.nd (se_op op_addAll addD_sem (se_var 1) (se_lst (sa_cons (se_tup (sa_cons (se_str) (sa_cons (se_str) (sa_cons (se_str) (sa_cons (se_str) (sa_nil)))))) (sa_cons (se_bl) (sa_cons (se_tup (sa_nil)) (sa_nil))))))))
        (sss_cons (ss_setM (own := []) (sas_set (i := 0) sc__law_by_hand_right.nd (se_op op_addAll addD_sem (se_var 0) (se_lst (sa_cons (se_call C_needless.ok (hr.mono (by omega)) C_needless.mg C_needless.kp C_needless.bn (sa_cons (se_tup (sa_cons (se_op op_mulAD mulAD_sem (se_str) (se_int)) (sa_cons (se_str) (sa_cons (se_str) (sa_nil))))) (sa_nil))) (sa_cons (se_call C_are_free.ok (hr.mono (by omega)) C_are_free.mg C_are_free.kp C_are_free.bn (sa_cons (se_tup (sa_cons (se_op op_mulAD mulAD_sem (se_str) (se_int)) (sa_cons (se_str) (sa_cons (se_str) (sa_nil))))) (sa_nil))) (sa_nil)))))))
        (sss_cons (ss_setM (own := []) (sas_set (i := 0) sc__law_by_hand_right.nd (se_op op_addAll addD_sem (se_var 0) (se_lst (sa_cons (se_call C_are_free.ok (hr.mono (by omega)) C_are_free.mg C_are_free.kp C_are_free.bn (sa_cons (se_tup (sa_cons (se_op op_mulAD mulAD_sem (se_str) (se_int)) (sa_cons (se_op op_addAll addD_sem (se_op op_mulAD mulAD_sem (se_str) (se_int)) (se_str)) (sa_nil)))) (sa_nil))) (sa_nil))))))
        (sss_cons (ss_setM (own := []) (sas_set (i := 1) sc__law_by_hand_right.nd (se_op op_addAll addD_sem (se_var 1) (se_lst (sa_cons (se_tup (sa_cons (se_op op_mulAD mulAD_sem (se_str) (se_int)) (sa_nil))) (sa_cons (se_bl) (sa_cons (se_bl) (sa_nil))))))))
        (sss_cons (ss_setM (own := []) (sas_set (i := 0) sc__law_by_hand_right.nd (se_op op_addAll addD_sem (se_var 0) (se_lst (sa_cons (se_call C_are_free.ok (hr.mono (by omega)) C_are_free.mg C_are_free.kp C_are_free.bn (sa_cons (se_callTy call_tupleAll (tupAD_sem rfl) (sa_cons (se_str) (sa_nil)) T.b_tuple) (sa_nil))) (sa_cons (se_call C_are_free.ok (hr.mono (by omega)) C_are_free.mg C_are_free.kp C_are_free.bn (sa_cons (se_op op_addAll addD_sem (se_callTy call_tupleAll (tupAD_sem rfl) (sa_cons (se_str) (sa_nil)) T.b_tuple) (se_tup (sa_cons (se_str) (sa_nil)))) (sa_nil))) (sa_nil)))))))
        (sss_one (ss_ret (own' := []) (se_call C__law_same.ok (hr.mono (by omega)) C__law_same.mg C__law_same.kp C__law_same.bn (sa_cons (se_var 0) (sa_cons (se_op op_addAll addD_sem (se_var 1) (se_lst (sa_cons (se_bl) (sa_cons (se_bl) (sa_nil))))) (sa_nil))))))))))))))))))
abbrev st__law_right : Stmt := top 38
abbrev N__law_right : List Str := ["_law_box_here", "_law_turn", "_law_lot_so", "_law_many", "_law_longest"]
abbrev P__law_right : List Str := ["_law_box_here"]
theorem sc__law_right : FnScope N__law_right P__law_right (defScope st__law_right) := ⟨rfl, rfl, rfl, by decide +kernel, rfl, by decide +kernel, by decide +kernel⟩
theorem ok__law_right {f : Addr} {fd : FuncData} (F : Fun K "_law_right" "_law_right" st__law_right f fd) (T : Txt mg)
    {a__law_size : Addr} {fd__law_size : FuncData} (C__law_size : Cal P w K mg base 3 "_law_size" P__law_size false f__law_size a__law_size fd__law_size)
    {a__law_lot : Addr} {fd__law_lot : FuncData} (C__law_lot : Cal P w K mg base 5 "_law_lot" P__law_lot false f__law_lot a__law_lot fd__law_lot)
    {a__law_take : Addr} {fd__law_take : FuncData} (C__law_take : Cal P w K mg base 1 "_law_take" P__law_take false f__law_take a__law_take fd__law_take)
    {a__law_of : Addr} {fd__law_of : FuncData} (C__law_of : Cal P w K mg base 2 "_law_of" P__law_of false f__law_of a__law_of fd__law_of)
    {a__law_closed : Addr} {fd__law_closed : FuncData} (C__law_closed : Cal P w K mg base 3 "_law_closed" P__law_closed false f__law_closed a__law_closed fd__law_closed)
    {a__law_case_right : Addr} {fd__law_case_right : FuncData} (C__law_case_right : Cal P w K mg base 10 "_law_case_right" P__law_case_right false f__law_case_right a__law_case_right fd__law_case_right) : FnOk P w K mg base CX0 11 f fd P__law_right (spOf K false f__law_right) := by
  show FnOk P w K mg base CX0 11 f fd P__law_right (spOf K false (mkF 1 5 (sSeq (sFor [] (setN 1) (iArgs rangeD (aCons (eC (.int 5)) (aNil)))
  (sSeq (sAsg [] (setT [3, 4]) (eCall f__law_size (aCons (eVar 0) (aNil))))
  (sSeq (sSetM [] 2 (eCall f__law_lot (aCons (eVar 0) (aCons (eVar 3) (aCons (eC (.int 4)) (aCons (eVar 4) (aNil)))))))
  (sSeq (sIf (tAn (tOf (e2 neD (eVar 2) (eA gTup (aNil)))) (tOf (e2 eqD (eCall f__law_take (aCons (eVar 0) (aCons (eC (.int 2)) (aNil)))) (eC (.int 0)))))
  (sSetM [] 2 (eA tupFD (aCons (eA sortSetFD (aCons (e2 addD (eVar 2) (eA gTup (aCons (eCall f__law_of (aCons (eVar 0) (aCons (eCall f__law_closed (aCons (eVar 2) (aCons (eVar 4) (aNil)))) (aNil)))) (aNil)))) aNil)) (aNil))))
  (sNil))
  (sIf (tNt (tOf (eCall f__law_case_right (aCons (eVar 2) (aCons (eVar 4) (aNil))))))
  (sRet (eC (.bool false)))
  (sNil))))))
  (sRet (eC (.bool true))))))
  exact def_ok rfl rfl F sc__law_right fun cdv A outer s H E hr => sss_cons (ss_for (own := []) PassesOwn.never rfl (si_range1 (sa_cons (se_int) (sa_nil)) T.b_range) (sg_name (i := 1) sc__law_right.nd)
        (sss_cons (ss_asg (own := []) (se_call C__law_size.ok (hr.mono (by omega)) C__law_size.mg C__law_size.kp C__law_size.bn (sa_cons (se_var 0) (sa_nil))) (sg_tup rfl (sgs_cons (i := 3) (sgs_cons (i := 4) (sgs_nil) sc__law_right.nd) sc__law_right.nd)))
        (sss_cons (ss_setM (own := []) (sas_set (i := 2) sc__law_right.nd (se_call C__law_lot.ok (hr.mono (by omega)) C__law_lot.mg C__law_lot.kp C__law_lot.bn (sa_cons (se_var 0) (sa_cons (se_var 3) (sa_cons (se_int) (sa_cons (se_var 4) (sa_nil))))))))
        (sss_cons (ss_if (SW.st (sw_and (st_cmp (op_neAll hr) neD_sem (se_var 2) (se_tup (sa_nil)) (hg := hgNe)) (sw_and1 (st_cmp (op_eqAll hr) eqD_sem (se_call C__law_take.ok (hr.mono (by omega)) C__law_take.mg C__law_take.kp C__law_take.bn (sa_cons (se_var 0) (sa_cons (se_int) (sa_nil)))) (se_int) (hg := hgEq)))))
        (sss_one (ss_setM (own := []) (sas_set (i := 2) sc__law_right.nd (se_callTy call_tuple_of tupFD_sem (sa_cons (se_sortSet (se_op op_addAll addD_sem (se_var 2) (se_tup (sa_cons (se_call C__law_of.ok (hr.mono (by omega)) C__law_of.mg C__law_of.kp C__law_of.bn (sa_cons (se_var 0) (sa_cons (se_call C__law_closed.ok (hr.mono (by omega)) C__law_closed.mg C__law_closed.kp C__law_closed.bn (sa_cons (se_var 2) (sa_cons (se_var 4) (sa_nil)))) (sa_nil)))) (sa_nil)))) hr T.b_sorted T.b_set) (sa_nil)) T.b_tuple))))
        (sss_nil))
        (sss_one (ss_if (st_not (st_of (se_call C__law_case_right.ok (hr.mono (by omega)) C__law_case_right.mg C__law_case_right.kp C__law_case_right.bn (sa_cons (se_var 2) (sa_cons (se_var 4) (sa_nil))))))
        (sss_one (ss_ret (own' := []) (se_bl)))
        (sss_nil)))))))
        (sss_one (ss_ret (own' := []) (se_bl)))
abbrev st_law : Stmt := top 39
abbrev N_law : List Str := ["_law_script", "_law_cells_here", "_law_k"]
abbrev P_law : List Str := ["_law_script"]
theorem sc_law : FnScope N_law P_law (defScope st_law) := ⟨rfl, rfl, rfl, by decide +kernel, rfl, by decide +kernel, by decide +kernel⟩
theorem ok_law {f : Addr} {fd : FuncData} (F : Fun K "law" "law" st_law f fd) (T : Txt mg)
    {a__law_by_hand_right : Addr} {fd__law_by_hand_right : FuncData} (C__law_by_hand_right : Cal P w K mg base 10 "_law_by_hand_right" P__law_by_hand_right false f__law_by_hand_right a__law_by_hand_right fd__law_by_hand_right)
    {a__law_cells : Addr} {fd__law_cells : FuncData} (C__law_cells : Cal P w K mg base 1 "_law_cells" P__law_cells false f__law_cells a__law_cells fd__law_cells)
    {a__law_right : Addr} {fd__law_right : FuncData} (C__law_right : Cal P w K mg base 11 "_law_right" P__law_right false f__law_right a__law_right fd__law_right)
    {a__law_box : Addr} {fd__law_box : FuncData} (C__law_box : Cal P w K mg base 1 "_law_box" P__law_box true f__law_box a__law_box fd__law_box) : FnOk P w K mg base CX0 12 f fd P_law (spOf K false f_law) := by
  show FnOk P w K mg base CX0 12 f fd P_law (spOf K false (mkF 1 3 (sSeq (sIf (tNt (tOf (eCall f__law_by_hand_right aNil)))
  (sRet (eC (.bool false)))
  (sNil))
  (sSeq (sSetM [] 1 (eCall f__law_cells (aCons (eVar 0) (aCons (eC (.int 3)) (aNil)))))
  (sRet (eA allFD (aCons (eLc [2] (setN 2) (iArgs rangeD (aCons (eA lenD (aCons (eVar 1) (aNil))) (aNil))) (tYesF) (eBox f__law_right (eCall f__law_box (aCons (eVar 1) (aCons (eVar 2) (aNil)))))) (aNil))))))))
  exact def_ok rfl rfl F sc_law fun cdv A outer s H E hr => sss_cons (ss_if (st_not (st_of (se_call0 C__law_by_hand_right.ok (hr.mono (by omega)) C__law_by_hand_right.mg C__law_by_hand_right.kp C__law_by_hand_right.bn)))
        (sss_one (ss_ret (own' := []) (se_bl)))
        (sss_nil))
        (sss_cons (ss_setM (own := []) (sas_set (i := 1) sc_law.nd (se_call C__law_cells.ok (hr.mono (by omega)) C__law_cells.mg C__law_cells.kp C__law_cells.bn (sa_cons (se_var 0) (sa_cons (se_int) (sa_nil))))))
        (sss_one (ss_ret (own' := []) (se_callB (cr_all rfl) allFD_sem (sa_cons (se_lc (own := [("_law_k", 2)]) rfl sc_law.nd (si_range1 (sa_cons (se_callB call_len lenD_sem (sa_cons (se_var 1) (sa_nil)) T.b_len) (sa_nil)) T.b_range) (blkOk_by (own := [("_law_k", 2)]) (N := N_law) (sc := defScope st_law) (by decide +kernel)) (fun _ _ _ _ _ => sg_name (i := 2) sc_law.nd) ttYes (fun _ _ _ _ _ => pts_nil) (fun _ _ _ _ _ => se_box C__law_right.ok (hr.mono (by omega)) C__law_right.mg C__law_right.kp C__law_right.bn (se_call C__law_box.ok (hr.mono (by omega)) C__law_box.mg C__law_box.kp C__law_box.bn (sa_cons (se_var 1) (sa_cons (se_var 2) (sa_nil)))))) (sa_nil)) T.b_all))))
end
theorem all_mk {l : PySem.W.OpenLaw} {w : World} {K : PySem.W.Frag} {h : Heap} {mg : Str → Option Value} {fa : Addr} (X : K.In h) (G : h.Ns mainGlobals mg) (hfa : mg "law" = some (.ref fa)) (hl : LawTrue)
    {a0 : Addr} {od0 an0 : Option Addr} {sl0 : Array (Option Value)} {oc0 kV0 dc0 pm0 cd0 ct0 : Value} (n0 : PySem.W.nsIn K mainGlobals "common" = some (some (.ref a0))) (l0 : K.lookup a0 = some ⟨oc0, od0, .func (PySem.W.fnOf "common" "common" (defArgs st_common) (defBody st_common) (defScope st_common) .none kV0 dc0 pm0 an0 cd0 ct0), sl0⟩) (c0 : PySem.W.codeIn K cd0 "common" = true) (k0 : PySem.W.keepIn K (.ref a0) = true)
    {a1 : Addr} {od1 an1 : Option Addr} {sl1 : Array (Option Value)} {oc1 kV1 dc1 pm1 cd1 ct1 : Value} (n1 : PySem.W.nsIn K mainGlobals "back" = some (some (.ref a1))) (l1 : K.lookup a1 = some ⟨oc1, od1, .func (PySem.W.fnOf "back" "back" (defArgs st_back) (defBody st_back) (defScope st_back) .none kV1 dc1 pm1 an1 cd1 ct1), sl1⟩) (c1 : PySem.W.codeIn K cd1 "back" = true) (k1 : PySem.W.keepIn K (.ref a1) = true)
    {a2 : Addr} {od2 an2 : Option Addr} {sl2 : Array (Option Value)} {oc2 kV2 dc2 pm2 cd2 ct2 : Value} (n2 : PySem.W.nsIn K mainGlobals "joined" = some (some (.ref a2))) (l2 : K.lookup a2 = some ⟨oc2, od2, .func (PySem.W.fnOf "joined" "joined" (defArgs st_joined) (defBody st_joined) (defScope st_joined) .none kV2 dc2 pm2 an2 cd2 ct2), sl2⟩) (c2 : PySem.W.codeIn K cd2 "joined" = true) (k2 : PySem.W.keepIn K (.ref a2) = true)
    {a3 : Addr} {od3 an3 : Option Addr} {sl3 : Array (Option Value)} {oc3 kV3 dc3 pm3 cd3 ct3 : Value} (n3 : PySem.W.nsIn K mainGlobals "rooms_of" = some (some (.ref a3))) (l3 : K.lookup a3 = some ⟨oc3, od3, .func (PySem.W.fnOf "rooms_of" "rooms_of" (defArgs st_rooms_of) (defBody st_rooms_of) (defScope st_rooms_of) .none kV3 dc3 pm3 an3 cd3 ct3), sl3⟩) (c3 : PySem.W.codeIn K cd3 "rooms_of" = true) (k3 : PySem.W.keepIn K (.ref a3) = true)
    {a4 : Addr} {od4 an4 : Option Addr} {sl4 : Array (Option Value)} {oc4 kV4 dc4 pm4 cd4 ct4 : Value} (n4 : PySem.W.nsIn K mainGlobals "palindrome" = some (some (.ref a4))) (l4 : K.lookup a4 = some ⟨oc4, od4, .func (PySem.W.fnOf "palindrome" "palindrome" (defArgs st_palindrome) (defBody st_palindrome) (defScope st_palindrome) .none kV4 dc4 pm4 an4 cd4 ct4), sl4⟩) (c4 : PySem.W.codeIn K cd4 "palindrome" = true) (k4 : PySem.W.keepIn K (.ref a4) = true)
    {a5 : Addr} {od5 an5 : Option Addr} {sl5 : Array (Option Value)} {oc5 kV5 dc5 pm5 cd5 ct5 : Value} (n5 : PySem.W.nsIn K mainGlobals "turned" = some (some (.ref a5))) (l5 : K.lookup a5 = some ⟨oc5, od5, .func (PySem.W.fnOf "turned" "turned" (defArgs st_turned) (defBody st_turned) (defScope st_turned) .none kV5 dc5 pm5 an5 cd5 ct5), sl5⟩) (c5 : PySem.W.codeIn K cd5 "turned" = true) (k5 : PySem.W.keepIn K (.ref a5) = true)
    {a6 : Addr} {od6 an6 : Option Addr} {sl6 : Array (Option Value)} {oc6 kV6 dc6 pm6 cd6 ct6 : Value} (n6 : PySem.W.nsIn K mainGlobals "farther" = some (some (.ref a6))) (l6 : K.lookup a6 = some ⟨oc6, od6, .func (PySem.W.fnOf "farther" "farther" (defArgs st_farther) (defBody st_farther) (defScope st_farther) .none kV6 dc6 pm6 an6 cd6 ct6), sl6⟩) (c6 : PySem.W.codeIn K cd6 "farther" = true) (k6 : PySem.W.keepIn K (.ref a6) = true)
    {a7 : Addr} {od7 an7 : Option Addr} {sl7 : Array (Option Value)} {oc7 kV7 dc7 pm7 cd7 ct7 : Value} (n7 : PySem.W.nsIn K mainGlobals "seen_in" = some (some (.ref a7))) (l7 : K.lookup a7 = some ⟨oc7, od7, .func (PySem.W.fnOf "seen_in" "seen_in" (defArgs st_seen_in) (defBody st_seen_in) (defScope st_seen_in) .none kV7 dc7 pm7 an7 cd7 ct7), sl7⟩) (c7 : PySem.W.codeIn K cd7 "seen_in" = true) (k7 : PySem.W.keepIn K (.ref a7) = true)
    {a8 : Addr} {od8 an8 : Option Addr} {sl8 : Array (Option Value)} {oc8 kV8 dc8 pm8 cd8 ct8 : Value} (n8 : PySem.W.nsIn K mainGlobals "first_begun" = some (some (.ref a8))) (l8 : K.lookup a8 = some ⟨oc8, od8, .func (PySem.W.fnOf "first_begun" "first_begun" (defArgs st_first_begun) (defBody st_first_begun) (defScope st_first_begun) .none kV8 dc8 pm8 an8 cd8 ct8), sl8⟩) (c8 : PySem.W.codeIn K cd8 "first_begun" = true) (k8 : PySem.W.keepIn K (.ref a8) = true)
    {a9 : Addr} {od9 an9 : Option Addr} {sl9 : Array (Option Value)} {oc9 kV9 dc9 pm9 cd9 ct9 : Value} (n9 : PySem.W.nsIn K mainGlobals "makers" = some (some (.ref a9))) (l9 : K.lookup a9 = some ⟨oc9, od9, .func (PySem.W.fnOf "makers" "makers" (defArgs st_makers) (defBody st_makers) (defScope st_makers) .none kV9 dc9 pm9 an9 cd9 ct9), sl9⟩) (c9 : PySem.W.codeIn K cd9 "makers" = true) (k9 : PySem.W.keepIn K (.ref a9) = true)
    {a10 : Addr} {od10 an10 : Option Addr} {sl10 : Array (Option Value)} {oc10 kV10 dc10 pm10 cd10 ct10 : Value} (n10 : PySem.W.nsIn K mainGlobals "maker_ahead" = some (some (.ref a10))) (l10 : K.lookup a10 = some ⟨oc10, od10, .func (PySem.W.fnOf "maker_ahead" "maker_ahead" (defArgs st_maker_ahead) (defBody st_maker_ahead) (defScope st_maker_ahead) .none kV10 dc10 pm10 an10 cd10 ct10), sl10⟩) (c10 : PySem.W.codeIn K cd10 "maker_ahead" = true) (k10 : PySem.W.keepIn K (.ref a10) = true)
    {a11 : Addr} {od11 an11 : Option Addr} {sl11 : Array (Option Value)} {oc11 kV11 dc11 pm11 cd11 ct11 : Value} (n11 : PySem.W.nsIn K mainGlobals "door_folded" = some (some (.ref a11))) (l11 : K.lookup a11 = some ⟨oc11, od11, .func (PySem.W.fnOf "door_folded" "door_folded" (defArgs st_door_folded) (defBody st_door_folded) (defScope st_door_folded) .none kV11 dc11 pm11 an11 cd11 ct11), sl11⟩) (c11 : PySem.W.codeIn K cd11 "door_folded" = true) (k11 : PySem.W.keepIn K (.ref a11) = true)
    {a12 : Addr} {od12 an12 : Option Addr} {sl12 : Array (Option Value)} {oc12 kV12 dc12 pm12 cd12 ct12 : Value} (n12 : PySem.W.nsIn K mainGlobals "told_by" = some (some (.ref a12))) (l12 : K.lookup a12 = some ⟨oc12, od12, .func (PySem.W.fnOf "told_by" "told_by" (defArgs st_told_by) (defBody st_told_by) (defScope st_told_by) .none kV12 dc12 pm12 an12 cd12 ct12), sl12⟩) (c12 : PySem.W.codeIn K cd12 "told_by" = true) (k12 : PySem.W.keepIn K (.ref a12) = true)
    {a13 : Addr} {od13 an13 : Option Addr} {sl13 : Array (Option Value)} {oc13 kV13 dc13 pm13 cd13 ct13 : Value} (n13 : PySem.W.nsIn K mainGlobals "is_of" = some (some (.ref a13))) (l13 : K.lookup a13 = some ⟨oc13, od13, .func (PySem.W.fnOf "is_of" "is_of" (defArgs st_is_of) (defBody st_is_of) (defScope st_is_of) .none kV13 dc13 pm13 an13 cd13 ct13), sl13⟩) (c13 : PySem.W.codeIn K cd13 "is_of" = true) (k13 : PySem.W.keepIn K (.ref a13) = true)
    {a14 : Addr} {od14 an14 : Option Addr} {sl14 : Array (Option Value)} {oc14 kV14 dc14 pm14 cd14 ct14 : Value} (n14 : PySem.W.nsIn K mainGlobals "all_but" = some (some (.ref a14))) (l14 : K.lookup a14 = some ⟨oc14, od14, .func (PySem.W.fnOf "all_but" "all_but" (defArgs st_all_but) (defBody st_all_but) (defScope st_all_but) .none kV14 dc14 pm14 an14 cd14 ct14), sl14⟩) (c14 : PySem.W.codeIn K cd14 "all_but" = true) (k14 : PySem.W.keepIn K (.ref a14) = true)
    {a15 : Addr} {od15 an15 : Option Addr} {sl15 : Array (Option Value)} {oc15 kV15 dc15 pm15 cd15 ct15 : Value} (n15 : PySem.W.nsIn K mainGlobals "needless" = some (some (.ref a15))) (l15 : K.lookup a15 = some ⟨oc15, od15, .func (PySem.W.fnOf "needless" "needless" (defArgs st_needless) (defBody st_needless) (defScope st_needless) .none kV15 dc15 pm15 an15 cd15 ct15), sl15⟩) (c15 : PySem.W.codeIn K cd15 "needless" = true) (k15 : PySem.W.keepIn K (.ref a15) = true)
    {a16 : Addr} {od16 an16 : Option Addr} {sl16 : Array (Option Value)} {oc16 kV16 dc16 pm16 cd16 ct16 : Value} (n16 : PySem.W.nsIn K mainGlobals "are_free" = some (some (.ref a16))) (l16 : K.lookup a16 = some ⟨oc16, od16, .func (PySem.W.fnOf "are_free" "are_free" (defArgs st_are_free) (defBody st_are_free) (defScope st_are_free) .none kV16 dc16 pm16 an16 cd16 ct16), sl16⟩) (c16 : PySem.W.codeIn K cd16 "are_free" = true) (k16 : PySem.W.keepIn K (.ref a16) = true)
    {a17 : Addr} {od17 an17 : Option Addr} {sl17 : Array (Option Value)} {oc17 kV17 dc17 pm17 cd17 ct17 : Value} (n17 : PySem.W.nsIn K mainGlobals "_law_box" = some (some (.ref a17))) (l17 : K.lookup a17 = some ⟨oc17, od17, .func (PySem.W.fnOf "_law_box" "_law_box" (defArgs st__law_box) (defBody st__law_box) (defScope st__law_box) .none kV17 dc17 pm17 an17 cd17 ct17), sl17⟩) (c17 : PySem.W.codeIn K cd17 "_law_box" = true) (k17 : PySem.W.keepIn K (.ref a17) = true)
    {a18 : Addr} {od18 an18 : Option Addr} {sl18 : Array (Option Value)} {oc18 kV18 dc18 pm18 cd18 ct18 : Value} (n18 : PySem.W.nsIn K mainGlobals "_law_take" = some (some (.ref a18))) (l18 : K.lookup a18 = some ⟨oc18, od18, .func (PySem.W.fnOf "_law_take" "_law_take" (defArgs st__law_take) (defBody st__law_take) (defScope st__law_take) .none kV18 dc18 pm18 an18 cd18 ct18), sl18⟩) (c18 : PySem.W.codeIn K cd18 "_law_take" = true) (k18 : PySem.W.keepIn K (.ref a18) = true)
    {a19 : Addr} {od19 an19 : Option Addr} {sl19 : Array (Option Value)} {oc19 kV19 dc19 pm19 cd19 ct19 : Value} (n19 : PySem.W.nsIn K mainGlobals "_law_cells" = some (some (.ref a19))) (l19 : K.lookup a19 = some ⟨oc19, od19, .func (PySem.W.fnOf "_law_cells" "_law_cells" (defArgs st__law_cells) (defBody st__law_cells) (defScope st__law_cells) .none kV19 dc19 pm19 an19 cd19 ct19), sl19⟩) (c19 : PySem.W.codeIn K cd19 "_law_cells" = true) (k19 : PySem.W.keepIn K (.ref a19) = true)
    {a20 : Addr} {od20 an20 : Option Addr} {sl20 : Array (Option Value)} {oc20 kV20 dc20 pm20 cd20 ct20 : Value} (n20 : PySem.W.nsIn K mainGlobals "_law_of" = some (some (.ref a20))) (l20 : K.lookup a20 = some ⟨oc20, od20, .func (PySem.W.fnOf "_law_of" "_law_of" (defArgs st__law_of) (defBody st__law_of) (defScope st__law_of) .none kV20 dc20 pm20 an20 cd20 ct20), sl20⟩) (c20 : PySem.W.codeIn K cd20 "_law_of" = true) (k20 : PySem.W.keepIn K (.ref a20) = true)
    {a21 : Addr} {od21 an21 : Option Addr} {sl21 : Array (Option Value)} {oc21 kV21 dc21 pm21 cd21 ct21 : Value} (n21 : PySem.W.nsIn K mainGlobals "_law_same" = some (some (.ref a21))) (l21 : K.lookup a21 = some ⟨oc21, od21, .func (PySem.W.fnOf "_law_same" "_law_same" (defArgs st__law_same) (defBody st__law_same) (defScope st__law_same) .none kV21 dc21 pm21 an21 cd21 ct21), sl21⟩) (c21 : PySem.W.codeIn K cd21 "_law_same" = true) (k21 : PySem.W.keepIn K (.ref a21) = true)
    {a22 : Addr} {od22 an22 : Option Addr} {sl22 : Array (Option Value)} {oc22 kV22 dc22 pm22 cd22 ct22 : Value} (n22 : PySem.W.nsIn K mainGlobals "_law_reduced" = some (some (.ref a22))) (l22 : K.lookup a22 = some ⟨oc22, od22, .func (PySem.W.fnOf "_law_reduced" "_law_reduced" (defArgs st__law_reduced) (defBody st__law_reduced) (defScope st__law_reduced) .none kV22 dc22 pm22 an22 cd22 ct22), sl22⟩) (c22 : PySem.W.codeIn K cd22 "_law_reduced" = true) (k22 : PySem.W.keepIn K (.ref a22) = true)
    {a23 : Addr} {od23 an23 : Option Addr} {sl23 : Array (Option Value)} {oc23 kV23 dc23 pm23 cd23 ct23 : Value} (n23 : PySem.W.nsIn K mainGlobals "_law_row" = some (some (.ref a23))) (l23 : K.lookup a23 = some ⟨oc23, od23, .func (PySem.W.fnOf "_law_row" "_law_row" (defArgs st__law_row) (defBody st__law_row) (defScope st__law_row) .none kV23 dc23 pm23 an23 cd23 ct23), sl23⟩) (c23 : PySem.W.codeIn K cd23 "_law_row" = true) (k23 : PySem.W.keepIn K (.ref a23) = true)
    {a24 : Addr} {od24 an24 : Option Addr} {sl24 : Array (Option Value)} {oc24 kV24 dc24 pm24 cd24 ct24 : Value} (n24 : PySem.W.nsIn K mainGlobals "_law_way" = some (some (.ref a24))) (l24 : K.lookup a24 = some ⟨oc24, od24, .func (PySem.W.fnOf "_law_way" "_law_way" (defArgs st__law_way) (defBody st__law_way) (defScope st__law_way) .none kV24 dc24 pm24 an24 cd24 ct24), sl24⟩) (c24 : PySem.W.codeIn K cd24 "_law_way" = true) (k24 : PySem.W.keepIn K (.ref a24) = true)
    {a25 : Addr} {od25 an25 : Option Addr} {sl25 : Array (Option Value)} {oc25 kV25 dc25 pm25 cd25 ct25 : Value} (n25 : PySem.W.nsIn K mainGlobals "_law_pal" = some (some (.ref a25))) (l25 : K.lookup a25 = some ⟨oc25, od25, .func (PySem.W.fnOf "_law_pal" "_law_pal" (defArgs st__law_pal) (defBody st__law_pal) (defScope st__law_pal) .none kV25 dc25 pm25 an25 cd25 ct25), sl25⟩) (c25 : PySem.W.codeIn K cd25 "_law_pal" = true) (k25 : PySem.W.keepIn K (.ref a25) = true)
    {a26 : Addr} {od26 an26 : Option Addr} {sl26 : Array (Option Value)} {oc26 kV26 dc26 pm26 cd26 ct26 : Value} (n26 : PySem.W.nsIn K mainGlobals "_law_seen" = some (some (.ref a26))) (l26 : K.lookup a26 = some ⟨oc26, od26, .func (PySem.W.fnOf "_law_seen" "_law_seen" (defArgs st__law_seen) (defBody st__law_seen) (defScope st__law_seen) .none kV26 dc26 pm26 an26 cd26 ct26), sl26⟩) (c26 : PySem.W.codeIn K cd26 "_law_seen" = true) (k26 : PySem.W.keepIn K (.ref a26) = true)
    {a27 : Addr} {od27 an27 : Option Addr} {sl27 : Array (Option Value)} {oc27 kV27 dc27 pm27 cd27 ct27 : Value} (n27 : PySem.W.nsIn K mainGlobals "_law_lot" = some (some (.ref a27))) (l27 : K.lookup a27 = some ⟨oc27, od27, .func (PySem.W.fnOf "_law_lot" "_law_lot" (defArgs st__law_lot) (defBody st__law_lot) (defScope st__law_lot) .none kV27 dc27 pm27 an27 cd27 ct27), sl27⟩) (c27 : PySem.W.codeIn K cd27 "_law_lot" = true) (k27 : PySem.W.keepIn K (.ref a27) = true)
    {a28 : Addr} {od28 an28 : Option Addr} {sl28 : Array (Option Value)} {oc28 kV28 dc28 pm28 cd28 ct28 : Value} (n28 : PySem.W.nsIn K mainGlobals "_law_closed" = some (some (.ref a28))) (l28 : K.lookup a28 = some ⟨oc28, od28, .func (PySem.W.fnOf "_law_closed" "_law_closed" (defArgs st__law_closed) (defBody st__law_closed) (defScope st__law_closed) .none kV28 dc28 pm28 an28 cd28 ct28), sl28⟩) (c28 : PySem.W.codeIn K cd28 "_law_closed" = true) (k28 : PySem.W.keepIn K (.ref a28) = true)
    {a29 : Addr} {od29 an29 : Option Addr} {sl29 : Array (Option Value)} {oc29 kV29 dc29 pm29 cd29 ct29 : Value} (n29 : PySem.W.nsIn K mainGlobals "_law_first" = some (some (.ref a29))) (l29 : K.lookup a29 = some ⟨oc29, od29, .func (PySem.W.fnOf "_law_first" "_law_first" (defArgs st__law_first) (defBody st__law_first) (defScope st__law_first) .none kV29 dc29 pm29 an29 cd29 ct29), sl29⟩) (c29 : PySem.W.codeIn K cd29 "_law_first" = true) (k29 : PySem.W.keepIn K (.ref a29) = true)
    {a30 : Addr} {od30 an30 : Option Addr} {sl30 : Array (Option Value)} {oc30 kV30 dc30 pm30 cd30 ct30 : Value} (n30 : PySem.W.nsIn K mainGlobals "_law_size" = some (some (.ref a30))) (l30 : K.lookup a30 = some ⟨oc30, od30, .func (PySem.W.fnOf "_law_size" "_law_size" (defArgs st__law_size) (defBody st__law_size) (defScope st__law_size) .none kV30 dc30 pm30 an30 cd30 ct30), sl30⟩) (c30 : PySem.W.codeIn K cd30 "_law_size" = true) (k30 : PySem.W.keepIn K (.ref a30) = true)
    {a31 : Addr} {od31 an31 : Option Addr} {sl31 : Array (Option Value)} {oc31 kV31 dc31 pm31 cd31 ct31 : Value} (n31 : PySem.W.nsIn K mainGlobals "_law_rows_right" = some (some (.ref a31))) (l31 : K.lookup a31 = some ⟨oc31, od31, .func (PySem.W.fnOf "_law_rows_right" "_law_rows_right" (defArgs st__law_rows_right) (defBody st__law_rows_right) (defScope st__law_rows_right) .none kV31 dc31 pm31 an31 cd31 ct31), sl31⟩) (c31 : PySem.W.codeIn K cd31 "_law_rows_right" = true) (k31 : PySem.W.keepIn K (.ref a31) = true)
    {a32 : Addr} {od32 an32 : Option Addr} {sl32 : Array (Option Value)} {oc32 kV32 dc32 pm32 cd32 ct32 : Value} (n32 : PySem.W.nsIn K mainGlobals "_law_case_right" = some (some (.ref a32))) (l32 : K.lookup a32 = some ⟨oc32, od32, .func (PySem.W.fnOf "_law_case_right" "_law_case_right" (defArgs st__law_case_right) (defBody st__law_case_right) (defScope st__law_case_right) .none kV32 dc32 pm32 an32 cd32 ct32), sl32⟩) (c32 : PySem.W.codeIn K cd32 "_law_case_right" = true) (k32 : PySem.W.keepIn K (.ref a32) = true)
    {a33 : Addr} {od33 an33 : Option Addr} {sl33 : Array (Option Value)} {oc33 kV33 dc33 pm33 cd33 ct33 : Value} (n33 : PySem.W.nsIn K mainGlobals "_law_by_hand_right" = some (some (.ref a33))) (l33 : K.lookup a33 = some ⟨oc33, od33, .func (PySem.W.fnOf "_law_by_hand_right" "_law_by_hand_right" (defArgs st__law_by_hand_right) (defBody st__law_by_hand_right) (defScope st__law_by_hand_right) .none kV33 dc33 pm33 an33 cd33 ct33), sl33⟩) (c33 : PySem.W.codeIn K cd33 "_law_by_hand_right" = true) (k33 : PySem.W.keepIn K (.ref a33) = true)
    {a34 : Addr} {od34 an34 : Option Addr} {sl34 : Array (Option Value)} {oc34 kV34 dc34 pm34 cd34 ct34 : Value} (n34 : PySem.W.nsIn K mainGlobals "_law_right" = some (some (.ref a34))) (l34 : K.lookup a34 = some ⟨oc34, od34, .func (PySem.W.fnOf "_law_right" "_law_right" (defArgs st__law_right) (defBody st__law_right) (defScope st__law_right) .none kV34 dc34 pm34 an34 cd34 ct34), sl34⟩) (c34 : PySem.W.codeIn K cd34 "_law_right" = true) (k34 : PySem.W.keepIn K (.ref a34) = true)
    {a35 : Addr} {od35 an35 : Option Addr} {sl35 : Array (Option Value)} {oc35 kV35 dc35 pm35 cd35 ct35 : Value} (n35 : PySem.W.nsIn K mainGlobals "law" = some (some (.ref a35))) (l35 : K.lookup a35 = some ⟨oc35, od35, .func (PySem.W.fnOf "law" "law" (defArgs st_law) (defBody st_law) (defScope st_law) .none kV35 dc35 pm35 an35 cd35 ct35), sl35⟩) (c35 : PySem.W.codeIn K cd35 "law" = true) (k35 : PySem.W.keepIn K (.ref a35) = true)
    (z_abs : PySem.W.nsIn K mainGlobals "abs" = some none)
    (z_all : PySem.W.nsIn K mainGlobals "all" = some none)
    (z_bool : PySem.W.nsIn K mainGlobals "bool" = some none)
    (z_enumerate : PySem.W.nsIn K mainGlobals "enumerate" = some none)
    (z_int : PySem.W.nsIn K mainGlobals "int" = some none)
    (z_isinstance : PySem.W.nsIn K mainGlobals "isinstance" = some none)
    (z_len : PySem.W.nsIn K mainGlobals "len" = some none)
    (z_list : PySem.W.nsIn K mainGlobals "list" = some none)
    (z_max : PySem.W.nsIn K mainGlobals "max" = some none)
    (z_min : PySem.W.nsIn K mainGlobals "min" = some none)
    (z_range : PySem.W.nsIn K mainGlobals "range" = some none)
    (z_set : PySem.W.nsIn K mainGlobals "set" = some none)
    (z_sorted : PySem.W.nsIn K mainGlobals "sorted" = some none)
    (z_str : PySem.W.nsIn K mainGlobals "str" = some none)
    (z_tuple : PySem.W.nsIn K mainGlobals "tuple" = some none)
    (z_zip : PySem.W.nsIn K mainGlobals "zip" = some none) :
    ∃ fd : FuncData, (∀ (s : Shared) (v : Value), BindsTo s fd ⟨[v], []⟩ [("_law_script", v)]) ∧ ∀ base : Heap, K.In base → base.Ns mainGlobals mg → FnOk l.prog w K mg base CX0 12 fa fd ["_law_script"] (spLaw K) := by
  have e := hfa.symm.trans (PySem.W.mg_of X G n35)
  cases e
  have T : Txt mg := ⟨PySem.W.mg_none_of X G z_abs, PySem.W.mg_none_of X G z_all, PySem.W.mg_none_of X G z_bool, PySem.W.mg_none_of X G z_enumerate, PySem.W.mg_none_of X G z_int, PySem.W.mg_none_of X G z_isinstance, PySem.W.mg_none_of X G z_len, PySem.W.mg_none_of X G z_list, PySem.W.mg_none_of X G z_max, PySem.W.mg_none_of X G z_min, PySem.W.mg_none_of X G z_range, PySem.W.mg_none_of X G z_set, PySem.W.mg_none_of X G z_sorted, PySem.W.mg_none_of X G z_str, PySem.W.mg_none_of X G z_tuple, PySem.W.mg_none_of X G z_zip⟩
  have F0 := fun_mk (st := st_common) l0 c0 k0
  have B0 := F0.binds (ps := P_common) fun _ _ _ _ _ _ us hl => match us, hl with | [_, _], _ => rfl
  have F1 := fun_mk (st := st_back) l1 c1 k1
  have B1 := F1.binds (ps := P_back) fun _ _ _ _ _ _ us hl => match us, hl with | [_], _ => rfl
  have F2 := fun_mk (st := st_joined) l2 c2 k2
  have B2 := F2.binds (ps := P_joined) fun _ _ _ _ _ _ us hl => match us, hl with | [_, _], _ => rfl
  have F3 := fun_mk (st := st_rooms_of) l3 c3 k3
  have B3 := F3.binds (ps := P_rooms_of) fun _ _ _ _ _ _ us hl => match us, hl with | [_], _ => rfl
  have F4 := fun_mk (st := st_palindrome) l4 c4 k4
  have B4 := F4.binds (ps := P_palindrome) fun _ _ _ _ _ _ us hl => match us, hl with | [_], _ => rfl
  have F5 := fun_mk (st := st_turned) l5 c5 k5
  have B5 := F5.binds (ps := P_turned) fun _ _ _ _ _ _ us hl => match us, hl with | [_, _], _ => rfl
  have F6 := fun_mk (st := st_farther) l6 c6 k6
  have B6 := F6.binds (ps := P_farther) fun _ _ _ _ _ _ us hl => match us, hl with | [_, _], _ => rfl
  have F7 := fun_mk (st := st_seen_in) l7 c7 k7
  have B7 := F7.binds (ps := P_seen_in) fun _ _ _ _ _ _ us hl => match us, hl with | [_, _], _ => rfl
  have F8 := fun_mk (st := st_first_begun) l8 c8 k8
  have B8 := F8.binds (ps := P_first_begun) fun _ _ _ _ _ _ us hl => match us, hl with | [_], _ => rfl
  have F9 := fun_mk (st := st_makers) l9 c9 k9
  have B9 := F9.binds (ps := P_makers) fun _ _ _ _ _ _ us hl => match us, hl with | [_], _ => rfl
  have F10 := fun_mk (st := st_maker_ahead) l10 c10 k10
  have B10 := F10.binds (ps := P_maker_ahead) fun _ _ _ _ _ _ us hl => match us, hl with | [_, _], _ => rfl
  have F11 := fun_mk (st := st_door_folded) l11 c11 k11
  have B11 := F11.binds (ps := P_door_folded) fun _ _ _ _ _ _ us hl => match us, hl with | [_, _], _ => rfl
  have F12 := fun_mk (st := st_told_by) l12 c12 k12
  have B12 := F12.binds (ps := P_told_by) fun _ _ _ _ _ _ us hl => match us, hl with | [_, _], _ => rfl
  have F13 := fun_mk (st := st_is_of) l13 c13 k13
  have B13 := F13.binds (ps := P_is_of) fun _ _ _ _ _ _ us hl => match us, hl with | [_, _], _ => rfl
  have F14 := fun_mk (st := st_all_but) l14 c14 k14
  have B14 := F14.binds (ps := P_all_but) fun _ _ _ _ _ _ us hl => match us, hl with | [_, _], _ => rfl
  have F15 := fun_mk (st := st_needless) l15 c15 k15
  have B15 := F15.binds (ps := P_needless) fun _ _ _ _ _ _ us hl => match us, hl with | [_], _ => rfl
  have F16 := fun_mk (st := st_are_free) l16 c16 k16
  have B16 := F16.binds (ps := P_are_free) fun _ _ _ _ _ _ us hl => match us, hl with | [_], _ => rfl
  have F17 := fun_mk (st := st__law_box) l17 c17 k17
  have B17 := F17.binds (ps := P__law_box) fun _ _ _ _ _ _ us hl => match us, hl with | [_, _], _ => rfl
  have F18 := fun_mk (st := st__law_take) l18 c18 k18
  have B18 := F18.binds (ps := P__law_take) fun _ _ _ _ _ _ us hl => match us, hl with | [_, _], _ => rfl
  have F19 := fun_mk (st := st__law_cells) l19 c19 k19
  have B19 := F19.binds (ps := P__law_cells) fun _ _ _ _ _ _ us hl => match us, hl with | [_, _], _ => rfl
  have F20 := fun_mk (st := st__law_of) l20 c20 k20
  have B20 := F20.binds (ps := P__law_of) fun _ _ _ _ _ _ us hl => match us, hl with | [_, _], _ => rfl
  have F21 := fun_mk (st := st__law_same) l21 c21 k21
  have B21 := F21.binds (ps := P__law_same) fun _ _ _ _ _ _ us hl => match us, hl with | [_, _], _ => rfl
  have F22 := fun_mk (st := st__law_reduced) l22 c22 k22
  have B22 := F22.binds (ps := P__law_reduced) fun _ _ _ _ _ _ us hl => match us, hl with | [_], _ => rfl
  have F23 := fun_mk (st := st__law_row) l23 c23 k23
  have B23 := F23.binds (ps := P__law_row) fun _ _ _ _ _ _ us hl => match us, hl with | [_, _, _], _ => rfl
  have F24 := fun_mk (st := st__law_way) l24 c24 k24
  have B24 := F24.binds (ps := P__law_way) fun _ _ _ _ _ _ us hl => match us, hl with | [_, _, _], _ => rfl
  have F25 := fun_mk (st := st__law_pal) l25 c25 k25
  have B25 := F25.binds (ps := P__law_pal) fun _ _ _ _ _ _ us hl => match us, hl with | [_], _ => rfl
  have F26 := fun_mk (st := st__law_seen) l26 c26 k26
  have B26 := F26.binds (ps := P__law_seen) fun _ _ _ _ _ _ us hl => match us, hl with | [_, _], _ => rfl
  have F27 := fun_mk (st := st__law_lot) l27 c27 k27
  have B27 := F27.binds (ps := P__law_lot) fun _ _ _ _ _ _ us hl => match us, hl with | [_, _, _, _], _ => rfl
  have F28 := fun_mk (st := st__law_closed) l28 c28 k28
  have B28 := F28.binds (ps := P__law_closed) fun _ _ _ _ _ _ us hl => match us, hl with | [_, _], _ => rfl
  have F29 := fun_mk (st := st__law_first) l29 c29 k29
  have B29 := F29.binds (ps := P__law_first) fun _ _ _ _ _ _ us hl => match us, hl with | [_], _ => rfl
  have F30 := fun_mk (st := st__law_size) l30 c30 k30
  have B30 := F30.binds (ps := P__law_size) fun _ _ _ _ _ _ us hl => match us, hl with | [_], _ => rfl
  have F31 := fun_mk (st := st__law_rows_right) l31 c31 k31
  have B31 := F31.binds (ps := P__law_rows_right) fun _ _ _ _ _ _ us hl => match us, hl with | [_], _ => rfl
  have F32 := fun_mk (st := st__law_case_right) l32 c32 k32
  have B32 := F32.binds (ps := P__law_case_right) fun _ _ _ _ _ _ us hl => match us, hl with | [_, _], _ => rfl
  have F33 := fun_mk (st := st__law_by_hand_right) l33 c33 k33
  have B33 := F33.binds (ps := P__law_by_hand_right) fun _ _ _ _ _ _ us hl => match us, hl with | [], _ => rfl
  have F34 := fun_mk (st := st__law_right) l34 c34 k34
  have B34 := F34.binds (ps := P__law_right) fun _ _ _ _ _ _ us hl => match us, hl with | [_], _ => rfl
  have F35 := fun_mk (st := st_law) l35 c35 k35
  have kb_needless_ways : KB K _ P_needless ["ways"] [0] := kb_of F15 fun _ _ _ _ _ _ ws hl => match ws, hl with | [_], _ => rfl
  have kb_are_free_ways : KB K _ P_are_free ["ways"] [0] := kb_of F16 fun _ _ _ _ _ _ ws hl => match ws, hl with | [_], _ => rfl
  refine ⟨_, fun s v => .of_eq (fd := PySem.W.fnOf "law" "law" (defArgs st_law) (defBody st_law) (defScope st_law) .none kV35 dc35 pm35 an35 cd35 ct35) rfl, fun base _ _ => ?_⟩
  have C_common : Cal l.prog w K mg base 1 "common" P_common false f_common a0 _ := ⟨ok_common F0 T  , PySem.W.mg_of X G n0, k0, B0⟩
  have C_back : Cal l.prog w K mg base 1 "back" P_back false f_back a1 _ := ⟨ok_back F1 T  , PySem.W.mg_of X G n1, k1, B1⟩
  have C_joined : Cal l.prog w K mg base 2 "joined" P_joined false f_joined a2 _ := ⟨ok_joined F2 T C_common C_back , PySem.W.mg_of X G n2, k2, B2⟩
  have C_rooms_of : Cal l.prog w K mg base 1 "rooms_of" P_rooms_of false f_rooms_of a3 _ := ⟨ok_rooms_of F3 T  , PySem.W.mg_of X G n3, k3, B3⟩
  have C_palindrome : Cal l.prog w K mg base 2 "palindrome" P_palindrome false f_palindrome a4 _ := ⟨ok_palindrome F4 T C_back , PySem.W.mg_of X G n4, k4, B4⟩
  have C_turned : Cal l.prog w K mg base 3 "turned" P_turned false f_turned a5 _ := ⟨ok_turned F5 T C_joined C_palindrome , PySem.W.mg_of X G n5, k5, B5⟩
  have C_farther : Cal l.prog w K mg base 1 "farther" P_farther false f_farther a6 _ := ⟨ok_farther F6 T  , PySem.W.mg_of X G n6, k6, B6⟩
  have C_seen_in : Cal l.prog w K mg base 4 "seen_in" P_seen_in false f_seen_in a7 _ := ⟨ok_seen_in F7 T C_rooms_of C_farther C_turned , PySem.W.mg_of X G n7, k7, B7⟩
  have C_first_begun : Cal l.prog w K mg base 1 "first_begun" P_first_begun false f_first_begun a8 _ := ⟨ok_first_begun F8 T  , PySem.W.mg_of X G n8, k8, B8⟩
  have C_makers : Cal l.prog w K mg base 5 "makers" P_makers false f_makers a9 _ := ⟨ok_makers F9 T C_first_begun C_seen_in , PySem.W.mg_of X G n9, k9, B9⟩
  have C_maker_ahead : Cal l.prog w K mg base 1 "maker_ahead" P_maker_ahead false f_maker_ahead a10 _ := ⟨ok_maker_ahead F10 T  , PySem.W.mg_of X G n10, k10, B10⟩
  have C_door_folded : Cal l.prog w K mg base 5 "door_folded" P_door_folded false f_door_folded a11 _ := ⟨ok_door_folded F11 T C_maker_ahead C_seen_in , PySem.W.mg_of X G n11, k11, B11⟩
  have C_told_by : Cal l.prog w K mg base 6 "told_by" P_told_by false f_told_by a12 _ := ⟨ok_told_by F12 T C_door_folded , PySem.W.mg_of X G n12, k12, B12⟩
  have C_is_of : Cal l.prog w K mg base 7 "is_of" P_is_of false f_is_of a13 _ := ⟨ok_is_of F13 T C_told_by C_makers , PySem.W.mg_of X G n13, k13, B13⟩
  have C_all_but : Cal l.prog w K mg base 1 "all_but" P_all_but false f_all_but a14 _ := ⟨ok_all_but F14 T  , PySem.W.mg_of X G n14, k14, B14⟩
  have C_needless : Cal l.prog w K mg base 8 "needless" P_needless false f_needless a15 _ := ⟨ok_needless F15 T C_is_of C_all_but , PySem.W.mg_of X G n15, k15, B15⟩
  have C_are_free : Cal l.prog w K mg base 6 "are_free" P_are_free false f_are_free a16 _ := ⟨ok_are_free F16 T C_makers , PySem.W.mg_of X G n16, k16, B16⟩
  have C__law_box : Cal l.prog w K mg base 1 "_law_box" P__law_box true f__law_box a17 _ := ⟨ok__law_box F17 T  , PySem.W.mg_of X G n17, k17, B17⟩
  have C__law_take : Cal l.prog w K mg base 1 "_law_take" P__law_take false f__law_take a18 _ := ⟨ok__law_take F18 T  , PySem.W.mg_of X G n18, k18, B18⟩
  have C__law_cells : Cal l.prog w K mg base 1 "_law_cells" P__law_cells false f__law_cells a19 _ := ⟨ok__law_cells F19 T  , PySem.W.mg_of X G n19, k19, B19⟩
  have C__law_of : Cal l.prog w K mg base 2 "_law_of" P__law_of false f__law_of a20 _ := ⟨ok__law_of F20 T C__law_take , PySem.W.mg_of X G n20, k20, B20⟩
  have C__law_same : Cal l.prog w K mg base 9 "_law_same" P__law_same false f__law_same a21 _ := ⟨ok__law_same F21 T (PySem.W.mg_of X G n21) k21 B21   8, PySem.W.mg_of X G n21, k21, B21⟩
  have C__law_reduced : Cal l.prog w K mg base 1 "_law_reduced" P__law_reduced false f__law_reduced a22 _ := ⟨ok__law_reduced F22 T  , PySem.W.mg_of X G n22, k22, B22⟩
  have C__law_row : Cal l.prog w K mg base 3 "_law_row" P__law_row false f__law_row a23 _ := ⟨ok__law_row F23 T C__law_take C__law_of , PySem.W.mg_of X G n23, k23, B23⟩
  have C__law_way : Cal l.prog w K mg base 4 "_law_way" P__law_way false f__law_way a24 _ := ⟨ok__law_way F24 T C__law_row C__law_of , PySem.W.mg_of X G n24, k24, B24⟩
  have C__law_pal : Cal l.prog w K mg base 1 "_law_pal" P__law_pal false f__law_pal a25 _ := ⟨ok__law_pal F25 T  , PySem.W.mg_of X G n25, k25, B25⟩
  have C__law_seen : Cal l.prog w K mg base 2 "_law_seen" P__law_seen false f__law_seen a26 _ := ⟨ok__law_seen F26 T C__law_reduced C__law_pal , PySem.W.mg_of X G n26, k26, B26⟩
  have C__law_lot : Cal l.prog w K mg base 5 "_law_lot" P__law_lot false f__law_lot a27 _ := ⟨ok__law_lot F27 T C__law_take C__law_way , PySem.W.mg_of X G n27, k27, B27⟩
  have C__law_closed : Cal l.prog w K mg base 3 "_law_closed" P__law_closed false f__law_closed a28 _ := ⟨ok__law_closed F28 T C__law_seen , PySem.W.mg_of X G n28, k28, B28⟩
  have C__law_first : Cal l.prog w K mg base 1 "_law_first" P__law_first false f__law_first a29 _ := ⟨ok__law_first F29 T  , PySem.W.mg_of X G n29, k29, B29⟩
  have C__law_size : Cal l.prog w K mg base 3 "_law_size" P__law_size false f__law_size a30 _ := ⟨ok__law_size F30 T C__law_of , PySem.W.mg_of X G n30, k30, B30⟩
  have C__law_rows_right : Cal l.prog w K mg base 2 "_law_rows_right" P__law_rows_right false f__law_rows_right a31 _ := ⟨ok__law_rows_right F31 T C__law_pal C__law_reduced , PySem.W.mg_of X G n31, k31, B31⟩
  have C__law_case_right : Cal l.prog w K mg base 10 "_law_case_right" P__law_case_right false f__law_case_right a32 _ := ⟨ok__law_case_right F32 T C__law_closed C__law_first C_needless C_are_free C__law_same C__law_rows_right kb_needless_ways kb_are_free_ways, PySem.W.mg_of X G n32, k32, B32⟩
  have C__law_by_hand_right : Cal l.prog w K mg base 10 "_law_by_hand_right" P__law_by_hand_right false f__law_by_hand_right a33 _ := ⟨ok__law_by_hand_right F33 T C_needless C_are_free C__law_same , PySem.W.mg_of X G n33, k33, B33⟩
  have C__law_right : Cal l.prog w K mg base 11 "_law_right" P__law_right false f__law_right a34 _ := ⟨ok__law_right F34 T C__law_size C__law_lot C__law_take C__law_of C__law_closed C__law_case_right , PySem.W.mg_of X G n34, k34, B34⟩
  exact law_ok (ok_law F35 T C__law_by_hand_right C__law_cells C__law_right C__law_box ) hl
theorem walk {l : PySem.W.OpenLaw} {q : Program} {loose : List Str} {XP : (Str → Option Value) → Heap → Prop} {YP : World → Heap → Prop} {d : DefRec} {K : Params → PySem.W.Frag} (hn : l.most = some 63) (hdf : d.params.defaults = [])
    (hY : ∀ (w : World) (h : Heap), YP w h → (K w.params).In h)
    (F : ∀ (w : World) (mg : Str → Option Value) (fa : Addr) (h : Heap), (K w.params).In h → h.Ns mainGlobals mg → mg d.name = some (.ref fa) →
      ∃ fd : FuncData, (∀ (s : Shared) (u : Value), BindsTo s fd ⟨[u], []⟩ [("_law_script", u)]) ∧ ∀ base : Heap, (K w.params).In base → base.Ns mainGlobals mg → FnOk l.prog w (K w.params) mg base CX0 12 fa fd ["_law_script"] (spLaw (K w.params))) :
    PySem.W.WalkO q loose XP YP l.row.toRowW d [] (fun f vs => PySem.call f vs) :=
  L2.walk_ofB (n := 63) (k := 12) (x := "_law_script") (CX := fun _ => CX0) (sp := fun w => spLaw (K w.params)) hn (by decide) hdf ⟨rfl, by decide, by decide⟩ hY F (fun _ _ a ns hl hb _ hS => ⟨a, ns, rfl, hS, hl, hb, fun _ _ h => h⟩) fun _ _ _ _ _ z => z
end K43
end
open PySem PySem.W PyProof.Rows in
set_option maxRecDepth 100000 in
set_option maxHeartbeats 0 in
theorem PySem.Challenge.cw_mirrordoors_k43_needless_doors_and_free_holds : PySem.Challenge.rw_mirrordoors_k43_needless_doors_and_free.Holds := by
  w_on; o_law; k_head; (case hw => w_witness2)
  k_fill
  refine K43.walk (l := PySem.Challenge.rw_mirrordoors_k43_needless_doors_and_free) rfl rfl (fun w h Y => PySem.W.kIn_of Y) ?F
  case F =>
    intro w mg fa h KX G hmg
    refine' K43.all_mk KX G hmg K43.law_true ?n0 ?l0 ?c0 ?k0 ?n1 ?l1 ?c1 ?k1 ?n2 ?l2 ?c2 ?k2 ?n3 ?l3 ?c3 ?k3 ?n4 ?l4 ?c4 ?k4 ?n5 ?l5 ?c5 ?k5 ?n6 ?l6 ?c6 ?k6 ?n7 ?l7 ?c7 ?k7 ?n8 ?l8 ?c8 ?k8 ?n9 ?l9 ?c9 ?k9 ?n10 ?l10 ?c10 ?k10 ?n11 ?l11 ?c11 ?k11 ?n12 ?l12 ?c12 ?k12 ?n13 ?l13 ?c13 ?k13 ?n14 ?l14 ?c14 ?k14 ?n15 ?l15 ?c15 ?k15 ?n16 ?l16 ?c16 ?k16 ?n17 ?l17 ?c17 ?k17 ?n18 ?l18 ?c18 ?k18 ?n19 ?l19 ?c19 ?k19 ?n20 ?l20 ?c20 ?k20 ?n21 ?l21 ?c21 ?k21 ?n22 ?l22 ?c22 ?k22 ?n23 ?l23 ?c23 ?k23 ?n24 ?l24 ?c24 ?k24 ?n25 ?l25 ?c25 ?k25 ?n26 ?l26 ?c26 ?k26 ?n27 ?l27 ?c27 ?k27 ?n28 ?l28 ?c28 ?k28 ?n29 ?l29 ?c29 ?k29 ?n30 ?l30 ?c30 ?k30 ?n31 ?l31 ?c31 ?k31 ?n32 ?l32 ?c32 ?k32 ?n33 ?l33 ?c33 ?k33 ?n34 ?l34 ?c34 ?k34 ?n35 ?l35 ?c35 ?k35 ?z_abs ?z_all ?z_bool ?z_enumerate ?z_int ?z_isinstance ?z_len ?z_list ?z_max ?z_min ?z_range ?z_set ?z_sorted ?z_str ?z_tuple ?z_zip
    (case n0 => k_is)
    (case l0 => k_is)
    (case c0 => k_is)
    (case k0 => k_is)
    (case n1 => k_is)
    (case l1 => k_is)
    (case c1 => k_is)
    (case k1 => k_is)
    (case n2 => k_is)
    (case l2 => k_is)
    (case c2 => k_is)
    (case k2 => k_is)
    (case n3 => k_is)
    (case l3 => k_is)
    (case c3 => k_is)
    (case k3 => k_is)
    (case n4 => k_is)
    (case l4 => k_is)
    (case c4 => k_is)
    (case k4 => k_is)
    (case n5 => k_is)
    (case l5 => k_is)
    (case c5 => k_is)
    (case k5 => k_is)
    (case n6 => k_is)
    (case l6 => k_is)
    (case c6 => k_is)
    (case k6 => k_is)
    (case n7 => k_is)
    (case l7 => k_is)
    (case c7 => k_is)
    (case k7 => k_is)
    (case n8 => k_is)
    (case l8 => k_is)
    (case c8 => k_is)
    (case k8 => k_is)
    (case n9 => k_is)
    (case l9 => k_is)
    (case c9 => k_is)
    (case k9 => k_is)
    (case n10 => k_is)
    (case l10 => k_is)
    (case c10 => k_is)
    (case k10 => k_is)
    (case n11 => k_is)
    (case l11 => k_is)
    (case c11 => k_is)
    (case k11 => k_is)
    (case n12 => k_is)
    (case l12 => k_is)
    (case c12 => k_is)
    (case k12 => k_is)
    (case n13 => k_is)
    (case l13 => k_is)
    (case c13 => k_is)
    (case k13 => k_is)
    (case n14 => k_is)
    (case l14 => k_is)
    (case c14 => k_is)
    (case k14 => k_is)
    (case n15 => k_is)
    (case l15 => k_is)
    (case c15 => k_is)
    (case k15 => k_is)
    (case n16 => k_is)
    (case l16 => k_is)
    (case c16 => k_is)
    (case k16 => k_is)
    (case n17 => k_is)
    (case l17 => k_is)
    (case c17 => k_is)
    (case k17 => k_is)
    (case n18 => k_is)
    (case l18 => k_is)
    (case c18 => k_is)
    (case k18 => k_is)
    (case n19 => k_is)
    (case l19 => k_is)
    (case c19 => k_is)
    (case k19 => k_is)
    (case n20 => k_is)
    (case l20 => k_is)
    (case c20 => k_is)
    (case k20 => k_is)
    (case n21 => k_is)
    (case l21 => k_is)
    (case c21 => k_is)
    (case k21 => k_is)
    (case n22 => k_is)
    (case l22 => k_is)
    (case c22 => k_is)
    (case k22 => k_is)
    (case n23 => k_is)
    (case l23 => k_is)
    (case c23 => k_is)
    (case k23 => k_is)
    (case n24 => k_is)
    (case l24 => k_is)
    (case c24 => k_is)
    (case k24 => k_is)
    (case n25 => k_is)
    (case l25 => k_is)
    (case c25 => k_is)
    (case k25 => k_is)
    (case n26 => k_is)
    (case l26 => k_is)
    (case c26 => k_is)
    (case k26 => k_is)
    (case n27 => k_is)
    (case l27 => k_is)
    (case c27 => k_is)
    (case k27 => k_is)
    (case n28 => k_is)
    (case l28 => k_is)
    (case c28 => k_is)
    (case k28 => k_is)
    (case n29 => k_is)
    (case l29 => k_is)
    (case c29 => k_is)
    (case k29 => k_is)
    (case n30 => k_is)
    (case l30 => k_is)
    (case c30 => k_is)
    (case k30 => k_is)
    (case n31 => k_is)
    (case l31 => k_is)
    (case c31 => k_is)
    (case k31 => k_is)
    (case n32 => k_is)
    (case l32 => k_is)
    (case c32 => k_is)
    (case k32 => k_is)
    (case n33 => k_is)
    (case l33 => k_is)
    (case c33 => k_is)
    (case k33 => k_is)
    (case n34 => k_is)
    (case l34 => k_is)
    (case c34 => k_is)
    (case k34 => k_is)
    (case n35 => k_is)
    (case l35 => k_is)
    (case c35 => k_is)
    (case k35 => k_is)
    (case z_abs => k_is)
    (case z_all => k_is)
    (case z_bool => k_is)
    (case z_enumerate => k_is)
    (case z_int => k_is)
    (case z_isinstance => k_is)
    (case z_len => k_is)
    (case z_list => k_is)
    (case z_max => k_is)
    (case z_min => k_is)
    (case z_range => k_is)
    (case z_set => k_is)
    (case z_sorted => k_is)
    (case z_str => k_is)
    (case z_tuple => k_is)
    (case z_zip => k_is)
