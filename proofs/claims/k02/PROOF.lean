import PyProof.Rows.All
import Wide.All
import OpenK.AllK
import Wide.FinOn
import HandS.ForMost
import HandS.ForExc
import HandS.Lambda
import HandS.Wide
import HandS.WideMore
import HandS.TupAny
import HandS.Conv
import HandS.Deep
import HandS.Gcd
import HandS.RaiseMore
import HandS.Style
import HandS.Defaults
import HandS.CallSlots
import HandS.Star
import HandS.MakeKwOnly
import HandS.ExcInit
import HandS.TryMany
import HandS.ExcIs
import HandS.DictTup
import HandS.Small
import HandS.SetFor
import HandS.TupLen
import KE.KSortTupG
import KE.KSortTupUse
import HandS.TupSets
import HandS.SortInts
import HandS.IsInst
import PyProof.DictMoreH
import KE.GoesMore
import KE.GoesEnum
import KE.KEqDict
import HandS.Iter
import HandS.ExcField
import HandS.Head0
import HandS.Head1
import HandS.Head2
import HandS.HeadEnd
import HandS.HeadHook1
import HandS.HeadHook2
import HandS.HeadNt
import HandS.DictComp
import HandS.Strs
import HandS.ReCall
import KE.KDictPairs
import HandS.OwnEq
import HandS.Codes
import PyProof.InstNe
import PyProof.Rows.PlainNe
import KE.KMathGC
import HandS.Zip
import HandS.TupLe
import KE.KDictDisplayH
import KE.KDictCopyH
import KE.KDictOf
import HandS.Flt
import HandS.TupMul
import HandS.Rev
import KE.KDictSum
import HandS.SetBool
import HandS.SetKeys
import PyProof.SetRoads
import HandS.EndTab
import PyProof.ReprRoads
import PyProof.ReprBulk
import KE.KNestM
import PySem.Challenge.RW_carriedends_k02_choosing_and_bags
import KE.KStateDown
import HandS.Head3
import Lean
import PyProof.FitsInt
set_option Elab.async false
set_option linter.all false
set_option maxRecDepth 100000
section
namespace Fn
open PySem PySem.Spec PyProof.Rows L2

/-! ## values, objects, the store -/
inductive Val where
  | non | bl (b : Bool) | int (i : Int) | str (s : Str) | tup (xs : List Val) | wtup (xs : List Val) | ftup (xs : List Val) | loc (i : Nat) | ro (xs : List Val)
  deriving Inhabited
/-- an object: a list, a dict, an instance -/
inductive Ob where
  | lst (xs : List Val) | dK (kvs : List (Key × Val)) | dT (kvs : List (List Key × Val)) | zT (kvs : List (List Key × Val)) | ins (c : Nat) (fs : List (Str × Val))
/-- a dict that is walked: read, not written -/
def Ob.isZ : Ob → Bool
  | .zT _ => true
  | _ => false
abbrev Store := List Ob
abbrev Env := List (Option Val)
inductive R (α : Type) where
  | ok (a : α) (h : Store) | exc (c : Nat) (w : Val) (h : Store) | stuck
def R.bind {α β : Type} (r : R α) (f : α → Store → R β) : R β := match r with
  | .ok a h => f a h
  | .exc c w h => .exc c w h
  | .stuck => .stuck
@[simp] theorem R.bind_ok {α β : Type} (a : α) (h : Store) (f : α → Store → R β) : (R.ok a h).bind f = f a h := rfl
@[simp] theorem R.bind_exc {α β : Type} (c : Nat) (w : Val) (h : Store) (f : α → Store → R β) : (R.exc c w h : R α).bind f = .exc c w h := rfl
@[simp] theorem R.bind_stuck {α β : Type} (f : α → Store → R β) : (R.stuck : R α).bind f = .stuck := rfl
inductive RS where
  | next (e : Env) (h : Store) | ret (v : Val) (h : Store) | brk (e : Env) (h : Store) | cont (e : Env) (h : Store) | exc (c : Nat) (w : Val) (e : Env) (h : Store) | stuck
abbrev FE := Env → Store → R Val
abbrev FT := Env → Store → R Bool
abbrev FA := Env → Store → R (List Val)
abbrev FS := Env → Store → RS

/-! ## how they stand for what is tracked -/
/-- the places of the store's objects; the abstract heap -/
structure Sg where
  rho : Nat → Addr
  n : Nat
  H : Hp
/-- the classes by number; the tables of code objects that are known -/
structure CTb where
  ad : Nat → Addr
  T : List (Addr × Str)
instance : CoeFun CTb (fun _ => Nat → Addr) := ⟨CTb.ad⟩
/-- what never changes -/
def Pers (H H' : Hp) : Prop := (∀ a xs, H a = some (.tup xs) → H' a = some (.tup xs)) ∧ (∀ a o u, H a = some (.frz o u) → H' a = some (.frz o u)) ∧ (∀ a fs, H a = some (.xd fs) → H' a = some (.xd fs))
theorem Pers.refl (H : Hp) : Pers H H := ⟨fun _ _ h => h, fun _ _ _ h => h, fun _ _ h => h⟩
theorem Pers.trans {H H1 H2 : Hp} (a : Pers H H1) (b : Pers H1 H2) : Pers H H2 := ⟨fun x y h => b.1 x y (a.1 x y h), fun x y z h => b.2.1 x y z (a.2.1 x y z h), fun x y h => b.2.2 x y (a.2.2 x y h)⟩
theorem Pers.new {H : Hp} {p : Addr} {o : HO} (h : H p = none) : Pers H (upd H p o) :=
  ⟨fun a xs e => by rw [upd_ne (ne_of_none e h)]; exact e, fun a o u e => by rw [upd_ne (ne_of_none e h)]; exact e, fun a fs e => by rw [upd_ne (ne_of_none e h)]; exact e⟩
def plainO : HO → Bool
  | .tup _ => false
  | .frz _ _ => false
  | .xd _ => false
  | .tbl _ => false
  | .ext _ => false
  | _ => true
theorem tabS_mut {H : Hp} {p : Addr} {o u : HO} (h : H p = some u) (h1 : ∀ ps, u ≠ .tbl ps) (h2 : ∀ c q, u ≠ LamX.CodeO c q) {P : Addr} {q : Str} (t : LamX.TabS H P q) : LamX.TabS (upd H p o) P q := by
  have k : ∀ a w, H a = some w → w ≠ u → a ≠ p := fun a w e f z => by
    subst z
    rw [h] at e
    exact f (Option.some.inj e).symm
  obtain ⟨ps, e1, e2, e3⟩ := t
  refine ⟨ps, by rw [upd_ne (k _ _ e1 fun z => h1 _ z.symm)]; exact e1, e2, fun pos cv hc => ?_⟩
  obtain ⟨c, f1, f2⟩ := e3 pos cv hc
  exact ⟨c, f1, by rw [upd_ne (k _ _ f2 fun z => h2 _ _ z.symm)]; exact f2⟩
theorem Pers.mut {H : Hp} {p : Addr} {o u : HO} (h : H p = some u) (hu : plainO u = true) : Pers H (upd H p o) := by
  have k : ∀ a w, H a = some w → plainO w = false → a ≠ p := fun a w e f z => by
    subst z
    rw [h] at e
    cases e
    rw [hu] at f
    cases f
  exact ⟨fun a xs e => by rw [upd_ne (k a _ e rfl)]; exact e, fun a o u e => by rw [upd_ne (k a _ e rfl)]; exact e, fun a fs e => by rw [upd_ne (k a _ e rfl)]; exact e⟩
structure Le (S S' : Sg) : Prop where
  n : S.n ≤ S'.n
  rho : ∀ i, i < S.n → S'.rho i = S.rho i
  pers : Pers S.H S'.H
theorem Le.refl (S : Sg) : Le S S := ⟨Nat.le_refl _, fun _ _ => rfl, Pers.refl _⟩
theorem Le.trans {S S1 S2 : Sg} (a : Le S S1) (b : Le S1 S2) : Le S S2 :=
  ⟨Nat.le_trans a.n b.n, fun i h => (b.rho i (Nat.lt_of_lt_of_le h a.n)).trans (a.rho i h), a.pers.trans b.pers⟩
/-- what stays also when a walked dict is let go -/
structure Le2 (S S' : Sg) : Prop where
  n : S.n ≤ S'.n
  rho : ∀ i, i < S.n → S'.rho i = S.rho i
  tup : ∀ a xs, S.H a = some (.tup xs) → S'.H a = some (.tup xs)
  fl : ∀ a o xs, S.H a = some (.frz o (.lst xs)) → S'.H a = some (.frz o (.lst xs))
  ft : ∀ a o xs, S.H a = some (.frz o (.tup xs)) → S'.H a = some (.frz o (.tup xs))
theorem Le.le2 {S S' : Sg} (l : Le S S') : Le2 S S' := ⟨l.n, l.rho, l.pers.1, fun a o xs h => l.pers.2.1 a o _ h, fun a o xs h => l.pers.2.1 a o _ h⟩
/-- a list that is read alone: frozen, or the module's -/
def SqF (K : PySem.W.Frag) (H : Hp) (a : Addr) (xs : List V) : Prop := (∃ o, H a = some (.frz o (.lst xs))) ∨
  ∃ (o : Obj) (its : Array Value) (n : Nat), K.lookup a = some o ∧ o.cls = .type "list" ∧ o.dict = none ∧ o.data = .seq its n ∧ its.size ≤ sizeLine ∧ Vals xs its.toList
theorem SqF.sq {K : PySem.W.Frag} {H : Hp} {a : Addr} {xs : List V} (h : SqF K H a xs) : SqL K H a xs := by
  rcases h with ⟨o, h⟩ | h
  · exact .inl (.inr ⟨o, h⟩)
  · exact .inr h
theorem SqF.mono {K : PySem.W.Frag} {H H' : Hp} {a : Addr} {xs : List V} (p : Pers H H') (h : SqF K H a xs) : SqF K H' a xs := by
  rcases h with ⟨o, h⟩ | h
  · exact .inl ⟨o, p.2.1 _ _ _ h⟩
  · exact .inr h
theorem SqT.mono {K : PySem.W.Frag} {H H' : Hp} {a : Addr} {xs : List V} (p : Pers H H') (h : SqT K H a xs) : SqT K H' a xs := by
  rcases h with (h | ⟨o, h⟩) | h
  · exact .inl (.inl (p.1 _ _ h))
  · exact .inl (.inr ⟨o, p.2.1 _ _ _ h⟩)
  · exact .inr h
/-- a tuple that the module has written -/
def SqW (K : PySem.W.Frag) (a : Addr) (xs : List V) : Prop := ∃ (o : Obj) (its : Array Value) (n : Nat), K.lookup a = some o ∧ o.cls = .type "tuple" ∧ o.data = .seq its n ∧ its.size ≤ sizeLine ∧ Vals xs its.toList
/-- a tuple with no dict, that stays as it is -/
def SqZ (H : Hp) (a : Addr) (xs : List V) : Prop := ∃ o : Obj, H a = some (.frz o (.tup xs)) ∧ o.dict = none
theorem SqZ.mono {H H' : Hp} {a : Addr} {xs : List V} (p : Pers H H') (h : SqZ H a xs) : SqZ H' a xs := by
  obtain ⟨o, h, d⟩ := h
  exact ⟨o, p.2.1 _ _ _ h, d⟩
theorem SqZ.t {K : PySem.W.Frag} {H : Hp} {a : Addr} {xs : List V} (h : SqZ H a xs) : SqT K H a xs := by
  obtain ⟨o, h, d⟩ := h
  exact .inl (.inr ⟨o, h⟩)
def whatS : Str := "what"
mutual
inductive RV (K : PySem.W.Frag) : Sg → V → Val → Prop
  | non {S} : RV K S .non .non
  | bl {S} (b : Bool) : RV K S (.bl b) (.bl b)
  | int {S} (i : Int) : RV K S (.int i) (.int i)
  | str {S} (s : Str) : RV K S (.str s) (.str s)
  | tup {S} {a : Addr} {vs : List V} {xs : List Val} (h : S.H a = some (.tup vs)) (r : RVs K S vs xs) : RV K S (.ref a) (.tup xs)
  | wtup {S} {a : Addr} {vs : List V} {xs : List Val} (h : SqW K a vs) (r : RVs K S vs xs) : RV K S (.ref a) (.wtup xs)
  | ftup {S} {a : Addr} {vs : List V} {xs : List Val} (h : SqZ S.H a vs) (r : RVs K S vs xs) : RV K S (.ref a) (.ftup xs)
  | loc {S} {i : Nat} (h : i < S.n) : RV K S (.ref (S.rho i)) (.loc i)
  | ro {S} {a : Addr} {vs : List V} {xs : List Val} (h : SqF K S.H a vs) (r : RVs K S vs xs) : RV K S (.ref a) (.ro xs)
inductive RVs (K : PySem.W.Frag) : Sg → List V → List Val → Prop
  | nil {S} : RVs K S [] []
  | cons {S} {v : V} {x : Val} {vs : List V} {xs : List Val} (r : RV K S v x) (t : RVs K S vs xs) : RVs K S (v :: vs) (x :: xs)
end
theorem SqF.mono2 {K : PySem.W.Frag} {S S' : Sg} {a : Addr} {xs : List V} (l : Le2 S S') (h : SqF K S.H a xs) : SqF K S'.H a xs := by
  rcases h with ⟨o, h⟩ | h
  · exact .inl ⟨o, l.fl _ _ _ h⟩
  · exact .inr h
theorem SqZ.mono2 {S S' : Sg} {a : Addr} {xs : List V} (l : Le2 S S') (h : SqZ S.H a xs) : SqZ S'.H a xs := by
  obtain ⟨o, h, d⟩ := h
  exact ⟨o, l.ft _ _ _ h, d⟩
mutual
theorem RV.mono2 {K : PySem.W.Frag} {S S' : Sg} (l : Le2 S S') : ∀ {v : V} {x : Val}, RV K S v x → RV K S' v x
  | _, _, .non => .non
  | _, _, .bl b => .bl b
  | _, _, .int i => .int i
  | _, _, .str s => .str s
  | _, _, .tup h r => .tup (l.tup _ _ h) (RVs.mono2 l r)
  | _, _, .wtup h r => .wtup h (RVs.mono2 l r)
  | _, _, .ftup h r => .ftup (h.mono2 l) (RVs.mono2 l r)
  | _, _, .loc (i := i) h => by
    rw [← l.rho i h]
    exact .loc (Nat.lt_of_lt_of_le h l.n)
  | _, _, .ro h r => .ro (SqF.mono2 l h) (RVs.mono2 l r)
theorem RVs.mono2 {K : PySem.W.Frag} {S S' : Sg} (l : Le2 S S') : ∀ {vs : List V} {xs : List Val}, RVs K S vs xs → RVs K S' vs xs
  | _, _, .nil => .nil
  | _, _, .cons r t => .cons (RV.mono2 l r) (RVs.mono2 l t)
end
theorem RV.mono {K : PySem.W.Frag} {S S' : Sg} (l : Le S S') {v : V} {x : Val} (r : RV K S v x) : RV K S' v x := RV.mono2 l.le2 r
theorem RVs.mono {K : PySem.W.Frag} {S S' : Sg} (l : Le S S') {vs : List V} {xs : List Val} (r : RVs K S vs xs) : RVs K S' vs xs := RVs.mono2 l.le2 r
theorem RVs.length {K : PySem.W.Frag} {S : Sg} : ∀ {vs : List V} {xs : List Val}, RVs K S vs xs → vs.length = xs.length
  | _, _, .nil => rfl
  | _, _, .cons _ t => congrArg Nat.succ (RVs.length t)
theorem RVs.get {K : PySem.W.Frag} {S : Sg} : ∀ {vs : List V} {xs : List Val} {i : Nat} {x : Val}, RVs K S vs xs → xs[i]? = some x → ∃ v, vs[i]? = some v ∧ RV K S v x
  | _, _, _, _, .nil, e => by simp at e
  | _, _, 0, _, .cons r _, e => by simp at e; subst e; exact ⟨_, rfl, r⟩
  | _, _, i + 1, x, .cons _ t, e => by
    obtain ⟨u, h1, h2⟩ := RVs.get (i := i) (x := x) t (by simpa using e)
    exact ⟨u, by simpa using h1, h2⟩
theorem RVs.getR {K : PySem.W.Frag} {S : Sg} : ∀ {vs : List V} {xs : List Val} {i : Nat} {v : V}, RVs K S vs xs → vs[i]? = some v → ∃ x, xs[i]? = some x ∧ RV K S v x
  | _, _, _, _, .nil, e => by simp at e
  | _, _, 0, _, .cons r _, e => by simp at e; subst e; exact ⟨_, rfl, r⟩
  | _, _, i + 1, x, .cons _ t, e => by
    obtain ⟨u, h1, h2⟩ := RVs.getR (i := i) (v := x) t (by simpa using e)
    exact ⟨u, by simpa using h1, h2⟩
theorem RVs.set {K : PySem.W.Frag} {S : Sg} {v : V} {x : Val} (r : RV K S v x) : ∀ {vs : List V} {xs : List Val} (i : Nat), RVs K S vs xs → RVs K S (vs.set i v) (xs.set i x)
  | _, _, _, .nil => .nil
  | _, _, 0, .cons _ t => .cons r t
  | _, _, i + 1, .cons q t => .cons q (RVs.set r i t)
theorem RVs.append {K : PySem.W.Frag} {S : Sg} : ∀ {vs ws : List V} {xs ys : List Val}, RVs K S vs xs → RVs K S ws ys → RVs K S (vs ++ ws) (xs ++ ys)
  | _, _, _, _, .nil, s => s
  | _, _, _, _, .cons r t, s => .cons r (RVs.append t s)
theorem RVs.drop {K : PySem.W.Frag} {S : Sg} : ∀ {vs : List V} {xs : List Val} (n : Nat), RVs K S vs xs → RVs K S (vs.drop n) (xs.drop n)
  | _, _, 0, r => r
  | _, _, _ + 1, .nil => .nil
  | _, _, n + 1, .cons _ t => RVs.drop n t
theorem RVs.take {K : PySem.W.Frag} {S : Sg} : ∀ {vs : List V} {xs : List Val} (n : Nat), RVs K S vs xs → RVs K S (vs.take n) (xs.take n)
  | _, _, 0, _ => .nil
  | _, _, _ + 1, .nil => .nil
  | _, _, n + 1, .cons r t => .cons r (RVs.take n t)
theorem RVs.reverse {K : PySem.W.Frag} {S : Sg} : ∀ {vs : List V} {xs : List Val}, RVs K S vs xs → RVs K S vs.reverse xs.reverse
  | _, _, .nil => .nil
  | _, _, .cons r t => by
    rw [List.reverse_cons, List.reverse_cons]
    exact (RVs.reverse t).append (.cons r .nil)

/-- pairs with like keys -/
inductive RKs (K : PySem.W.Frag) {κ : Type} : Sg → List (κ × V) → List (κ × Val) → Prop
  | nil {S} : RKs K S [] []
  | cons {S} {k : κ} {v : V} {x : Val} {vs : List (κ × V)} {xs : List (κ × Val)} (r : RV K S v x) (t : RKs K S vs xs) : RKs K S ((k, v) :: vs) ((k, x) :: xs)
theorem RKs.mono2 {K : PySem.W.Frag} {κ : Type} {S S' : Sg} (l : Le2 S S') : ∀ {vs : List (κ × V)} {xs : List (κ × Val)}, RKs K S vs xs → RKs K S' vs xs
  | _, _, .nil => .nil
  | _, _, .cons r t => .cons (RV.mono2 l r) (RKs.mono2 l t)
theorem RKs.mono {K : PySem.W.Frag} {κ : Type} {S S' : Sg} (l : Le S S') {vs : List (κ × V)} {xs : List (κ × Val)} (r : RKs K S vs xs) : RKs K S' vs xs := r.mono2 l.le2
theorem RKs.length {K : PySem.W.Frag} {κ : Type} {S : Sg} : ∀ {vs : List (κ × V)} {xs : List (κ × Val)}, RKs K S vs xs → vs.length = xs.length
  | _, _, .nil => rfl
  | _, _, .cons _ t => congrArg Nat.succ (RKs.length t)
theorem RKs.keys {K : PySem.W.Frag} {κ : Type} {S : Sg} : ∀ {vs : List (κ × V)} {xs : List (κ × Val)}, RKs K S vs xs → vs.map (·.1) = xs.map (·.1)
  | _, _, .nil => rfl
  | _, _, .cons _ t => by simp [RKs.keys t]
/-- an object at its place; C: where the classes stand -/
def RO (K : PySem.W.Frag) (C : CTb) (S : Sg) (a : Addr) : Ob → Prop
  | .lst xs => ∃ vs, S.H a = some (.lst vs) ∧ RVs K S vs xs
  | .dK kvs => ∃ ws, S.H a = some (.dK ws) ∧ RKs K S ws kvs
  | .dT kvs => ∃ ws, S.H a = some (.dT ws) ∧ RKs K S ws kvs
  | .zT kvs => ∃ od ws, S.H a = some (.frz od (.dT ws)) ∧ RKs K S ws kvs
  | .ins c fs => ∃ dx ws, S.H a = some (.ins (C c) dx ws) ∧ RKs K S ws fs
theorem RO.some {K : PySem.W.Frag} {C : CTb} {S : Sg} {a : Addr} {o : Ob} (h : RO K C S a o) : ∃ u, S.H a = some u ∧ (o.isZ = false → plainO u = true) := by
  cases o with
  | lst xs => obtain ⟨vs, e, _⟩ := h; exact ⟨_, e, fun _ => rfl⟩
  | dK xs => obtain ⟨vs, e, _⟩ := h; exact ⟨_, e, fun _ => rfl⟩
  | dT xs => obtain ⟨vs, e, _⟩ := h; exact ⟨_, e, fun _ => rfl⟩
  | zT xs => obtain ⟨od, vs, e, _⟩ := h; exact ⟨_, e, fun z => nomatch z⟩
  | ins c xs => obtain ⟨d, vs, e, _⟩ := h; exact ⟨_, e, fun _ => rfl⟩
theorem RO.move2 {K : PySem.W.Frag} {C : CTb} {S S' : Sg} {a : Addr} {o : Ob} (l : Le2 S S') (e : S'.H a = S.H a) (h : RO K C S a o) : RO K C S' a o := by
  cases o with
  | lst xs => obtain ⟨vs, q, r⟩ := h; exact ⟨vs, e.trans q, r.mono2 l⟩
  | dK xs => obtain ⟨vs, q, r⟩ := h; exact ⟨vs, e.trans q, r.mono2 l⟩
  | dT xs => obtain ⟨vs, q, r⟩ := h; exact ⟨vs, e.trans q, r.mono2 l⟩
  | zT xs => obtain ⟨od, vs, q, r⟩ := h; exact ⟨od, vs, e.trans q, r.mono2 l⟩
  | ins c xs => obtain ⟨d, vs, q, r⟩ := h; exact ⟨d, vs, e.trans q, r.mono2 l⟩
theorem RO.move {K : PySem.W.Frag} {C : CTb} {S S' : Sg} {a : Addr} {o : Ob} (l : Le S S') (e : S'.H a = S.H a) (h : RO K C S a o) : RO K C S' a o := h.move2 l.le2 e
structure Rep (K : PySem.W.Frag) (C : CTb) (S : Sg) (h : Store) : Prop where
  len : h.length = S.n
  inj : ∀ i j, i < S.n → j < S.n → S.rho i = S.rho j → i = j
  obj : ∀ (i : Nat) (o : Ob), h[i]? = some o → RO K C S (S.rho i) o
  tb : LamX.Tabs C.T S.H
section
variable {K : PySem.W.Frag} {C : CTb} {S : Sg} {h : Store} {i : Nat} {o o' : Ob}
theorem Rep.lt (r : Rep K C S h) (e : h[i]? = some o) : i < S.n := by
  have := (List.getElem?_eq_some_iff.mp e).1
  rw [r.len] at this
  exact this
abbrev Sg.withH (S : Sg) (H : Hp) : Sg := { S with H := H }
/-- the object at i is changed -/
theorem Rep.le_set (r : Rep K C S h) (e : h[i]? = some o) (u : HO) (hz : o.isZ = false := by rfl) : Le S (S.withH (upd S.H (S.rho i) u)) := by
  obtain ⟨w, hw, hp⟩ := (r.obj i o e).some
  exact ⟨Nat.le_refl _, fun _ _ => rfl, Pers.mut hw (hp hz)⟩
theorem Rep.set (r : Rep K C S h) (e : h[i]? = some o) (u : HO) (n : RO K C (S.withH (upd S.H (S.rho i) u)) (S.rho i) o') (hz : o.isZ = false := by rfl) : Rep K C (S.withH (upd S.H (S.rho i) u)) (h.set i o') := by
  have l := r.le_set e u hz
  have hi := r.lt e
  refine ⟨by rw [List.length_set]; exact r.len, r.inj, fun j p ej => ?_, fun p hp => (let ⟨w, hw, hp2⟩ := (r.obj i o e).some; tabS_mut hw (fun ps z => by rw [z] at hp2; cases hp2 hz) (fun c q z => by rw [z] at hp2; cases hp2 hz) (r.tb p hp))⟩
  by_cases hj : i = j
  · subst hj
    have hlt : i < h.length := by rw [r.len]; exact hi
    rw [List.getElem?_set_self hlt] at ej
    cases ej
    exact n
  · rw [List.getElem?_set_ne hj] at ej
    refine (r.obj j p ej).move l ?_
    have hne : S.rho j ≠ S.rho i := fun z => hj (r.inj i j hi (r.lt ej) z.symm)
    show upd S.H (S.rho i) u (S.rho j) = _
    rw [upd_ne hne]
/-- the heap grows by what is not in the store -/
theorem Rep.grow {H' : Hp} (r : Rep K C S h) (p : Pers S.H H') (k : ∀ a u, S.H a = some u → H' a = some u) : Le S (S.withH H') ∧ Rep K C (S.withH H') h := by
  have l : Le S (S.withH H') := ⟨Nat.le_refl _, fun _ _ => rfl, p⟩
  refine ⟨l, r.len, r.inj, fun j p ej => (r.obj j p ej).move l ?_, fun p hp => (r.tb p hp).ext k⟩
  obtain ⟨w, hw, _⟩ := (r.obj j p ej).some
  show H' (S.rho j) = S.H (S.rho j)
  rw [hw]
  exact k _ _ hw
theorem keep_new {H : Hp} {p : Addr} {u : HO} (hp : H p = none) : ∀ a w, H a = some w → upd H p u a = some w := fun a w e => by
  rw [upd_ne (ne_of_none e hp)]
  exact e
theorem Rep.new {p : Addr} {u : HO} (r : Rep K C S h) (hp : S.H p = none) : Le S (S.withH (upd S.H p u)) ∧ Rep K C (S.withH (upd S.H p u)) h := r.grow (Pers.new hp) (keep_new hp)
/-- a new object of the store -/
def Sg.add (S : Sg) (p : Addr) (H : Hp) : Sg := { rho := fun j => if j = S.n then p else S.rho j, n := S.n + 1, H := H }
theorem Sg.add_at {p : Addr} {H : Hp} : (S.add p H).rho S.n = p := if_pos rfl
theorem le_add {p : Addr} {H : Hp} (q : Pers S.H H) : Le S (S.add p H) :=
  ⟨Nat.le_succ _, fun i hi => if_neg (Nat.ne_of_lt hi), q⟩
theorem Rep.add {p : Addr} {u : HO} (r : Rep K C S h) (hp : S.H p = none) (n : RO K C (S.add p (upd S.H p u)) p o) : Le S (S.add p (upd S.H p u)) ∧ Rep K C (S.add p (upd S.H p u)) (h ++ [o]) := by
  have l : Le S (S.add p (upd S.H p u)) := le_add (Pers.new hp)
  have out : ∀ j, j < S.n → S.rho j ≠ p := fun j hj z => by
    have hj' : j < h.length := by rw [r.len]; exact hj
    obtain ⟨w, hw, _⟩ := (r.obj j h[j] (List.getElem?_eq_getElem hj')).some
    rw [z, hp] at hw
    cases hw
  refine ⟨l, by rw [List.length_append, r.len]; rfl, fun i j hi hj e => ?_, fun j ob ej => ?_, fun p2 hp2 => (r.tb p2 hp2).ext (keep_new hp)⟩
  · have hi' : i < S.n + 1 := hi
    have hj' : j < S.n + 1 := hj
    have e' : (if i = S.n then p else S.rho i) = (if j = S.n then p else S.rho j) := e
    by_cases h1 : i = S.n
    · by_cases h2 : j = S.n
      · omega
      · rw [if_pos h1, if_neg h2] at e'
        exact absurd e'.symm (out j (by omega))
    · by_cases h2 : j = S.n
      · rw [if_neg h1, if_pos h2] at e'
        exact absurd e' (out i (by omega))
      · rw [if_neg h1, if_neg h2] at e'
        exact r.inj i j (by omega) (by omega) e'
  · by_cases hj : j < h.length
    · rw [List.getElem?_append_left hj] at ej
      have hjn : j < S.n := by rw [← r.len]; exact hj
      have e1 : (S.add p (upd S.H p u)).rho j = S.rho j := if_neg (Nat.ne_of_lt hjn)
      rw [e1]
      refine (r.obj j ob ej).move l ?_
      show upd S.H p u (S.rho j) = _
      rw [upd_ne (out j hjn)]
    · have hj2 : j = h.length := by
        have := (List.getElem?_eq_some_iff.mp ej).1
        rw [List.length_append] at this
        simp at this
        omega
      subst hj2
      rw [List.getElem?_append_right (Nat.le_refl _), Nat.sub_self] at ej
      have ej' : o = ob := Option.some.inj ej
      subst ej'
      have e1 : (S.add p (upd S.H p u)).rho h.length = p := if_pos r.len
      rw [e1]
      exact n
end
/-- within a suite: the slot of the handled error's name, where the error stands, its dict, its what -/
abbrev XI := Option (Nat × Addr × Addr × Val)
def XOk (K : PySem.W.Frag) (S : Sg) (σ : L2.St) : XI → Prop
  | none => True
  | some (i, a, d, w) => σ[i]? = some (some (.ref a)) ∧ ∃ wv, S.H d = some (.xd [(whatS, wv)]) ∧ RV K S wv w
def okSlot (j : Nat) : XI → Bool
  | none => true
  | some q => q.1 != j
/-- the names' values -/
structure REnv (K : PySem.W.Frag) (xi : XI) (S : Sg) (σ : L2.St) (e : Env) : Prop where
  len : σ.length = e.length
  at_ : ∀ (i : Nat) (x : Val), e[i]? = some (some x) → ∃ v, σ[i]? = some (some v) ∧ RV K S v x
  xo : XOk K S σ xi
theorem REnv.mono {K : PySem.W.Frag} {xi : XI} {S S' : Sg} {σ : L2.St} {e : Env} (l : Le S S') (r : REnv K xi S σ e) : REnv K xi S' σ e :=
  ⟨r.len, fun i x q => let ⟨v, a, b⟩ := r.at_ i x q; ⟨v, a, b.mono l⟩, match xi, r.xo with
    | none, _ => True.intro
    | some (i, a, d, w), ⟨h1, wv, h2, h3⟩ => ⟨h1, wv, l.pers.2.2 _ _ h2, h3.mono l⟩⟩
theorem XOk.set {K : PySem.W.Frag} {xi : XI} {S : Sg} {σ : L2.St} {j : Nat} {o : Option V} (h : XOk K S σ xi) (hj : okSlot j xi = true) : XOk K S (σ.set j o) xi := by
  match xi, h, hj with
  | none, _, _ => exact True.intro
  | some (i, a, d, w), ⟨h1, h2⟩, hj =>
    have hne : i ≠ j := by simpa [okSlot] using hj
    exact ⟨by rw [List.getElem?_set_ne (Ne.symm hne)]; exact h1, h2⟩
theorem REnv.set {K : PySem.W.Frag} {xi : XI} {S : Sg} {σ : L2.St} {e : Env} {v : V} {x : Val} (r : REnv K xi S σ e) (i : Nat) (q : RV K S v x) (hi : okSlot i xi = true) : REnv K xi S (σ.set i (some v)) (e.set i (some x)) := by
  refine ⟨by rw [List.length_set, List.length_set]; exact r.len, fun j y h => ?_, r.xo.set hi⟩
  by_cases hj : i = j
  · subst hj
    by_cases hl : i < e.length
    · rw [List.getElem?_set_self hl] at h
      cases h
      rw [List.getElem?_set_self (by rw [r.len]; exact hl)]
      exact ⟨v, rfl, q⟩
    · rw [List.getElem?_eq_none (by rw [List.length_set]; omega)] at h
      cases h
  · rw [List.getElem?_set_ne hj] at h ⊢
    exact r.at_ j y h
theorem REnv.unset {K : PySem.W.Frag} {xi : XI} {S : Sg} {σ : L2.St} {e : Env} {o : Option V} (r : REnv K xi S σ e) (i : Nat) (hi : okSlot i xi = true) : REnv K xi S (σ.set i o) (e.set i none) := by
  refine ⟨by rw [List.length_set, List.length_set]; exact r.len, fun j y h => ?_, r.xo.set hi⟩
  by_cases hj : i = j
  · subst hj
    by_cases hl : i < e.length
    · rw [List.getElem?_set_self hl] at h
      cases h
    · rw [List.getElem?_eq_none (by rw [List.length_set]; omega)] at h
      cases h
  · rw [List.getElem?_set_ne hj] at h ⊢
    exact r.at_ j y h
theorem REnv.plain {K : PySem.W.Frag} {xi : XI} {S : Sg} {σ : L2.St} {e : Env} (r : REnv K xi S σ e) : REnv K none S σ e := ⟨r.len, r.at_, True.intro⟩

/-! ## readings by functions -/
section
variable (K : PySem.W.Frag) (C : CTb) (xi : XI)
/-- an error of the class c with what = w leaves -/
def PX (W : WX) (S : Sg) (σ : L2.St) (c : Nat) (w : Val) (h : Store) : Prop :=
  ∀ S' d wv, Le S S' → Rep K C S' h → S'.H d = some (.xd [(whatS, wv)]) → RV K S' wv w → W (.ref (C c)) (some d) σ S'.H
def PV (W : WX) (S : Sg) (σ : L2.St) (r : R Val) (Q : VK) : Prop := match r with
  | .ok x h => ∀ S' v, Le S S' → Rep K C S' h → RV K S' v x → Q v S'.H
  | .exc c w h => PX K C W S σ c w h
  | .stuck => False
def PB (W : WX) (S : Sg) (σ : L2.St) (r : R Bool) (Q : Bool → Hp → Prop) : Prop := match r with
  | .ok x h => ∀ S', Le S S' → Rep K C S' h → Q x S'.H
  | .exc c w h => PX K C W S σ c w h
  | .stuck => False
def PL (W : WX) (S : Sg) (σ : L2.St) (r : R (List Val)) (Q : List V → Hp → Prop) : Prop := match r with
  | .ok xs h => ∀ S' vs, Le S S' → Rep K C S' h → RVs K S' vs xs → Q vs S'.H
  | .exc c w h => PX K C W S σ c w h
  | .stuck => False
def At (σ : L2.St) (H : Hp) (P : Sg → Env → Store → Prop) : Prop := ∃ S e h, S.H = H ∧ Rep K C S h ∧ REnv K xi S σ e ∧ P S e h
def rE (W : WX) (f : FE) : TE := fun σ H Q => At K C xi σ H fun S e h => PV K C W S σ (f e h) Q
def rT (W : WX) (f : FT) : TT := fun σ H Q => At K C xi σ H fun S e h => PB K C W S σ (f e h) Q
def rA (W : WX) (f : FA) : TA := fun σ H Q => At K C xi σ H fun S e h => PL K C W S σ (f e h) Q
def PSt (W : WX) (S : Sg) (r : RS) (D : Ends) : Prop := match r with
  | .next e h => ∀ S' σ', Le S S' → Rep K C S' h → REnv K xi S' σ' e → D.nx σ' S'.H
  | .ret x h => ∀ S' v, Le S S' → Rep K C S' h → RV K S' v x → D.rt v S'.H
  | .brk e h => ∀ S' σ', Le S S' → Rep K C S' h → REnv K xi S' σ' e → D.bk σ' S'.H
  | .cont e h => ∀ S' σ', Le S S' → Rep K C S' h → REnv K xi S' σ' e → D.ct σ' S'.H
  | .exc c w e h => ∀ S' σ' d wv, Le S S' → Rep K C S' h → REnv K xi S' σ' e → S'.H d = some (.xd [(whatS, wv)]) → RV K S' wv w → W (.ref (C c)) (some d) σ' S'.H
  | .stuck => False
def rS (W : WX) (f : FS) : TS := fun D σ H => At K C xi σ H fun S e h => PSt K C xi W S (f e h) D
end
section
variable {K : PySem.W.Frag} {C : CTb} {xi : XI} {W : WX} {S S1 : Sg} {σ : L2.St} {c : Nat} {w : Val} {h : Store}
theorem PX.mono (l : Le S S1) (p : PX K C W S σ c w h) : PX K C W S1 σ c w h := fun S' d wv l' => p S' d wv (l.trans l')
theorem PV.mono (l : Le S S1) {r : R Val} {Q : VK} (p : PV K C W S σ r Q) : PV K C W S1 σ r Q := by
  cases r with
  | ok x h => exact fun S' v l' => p S' v (l.trans l')
  | exc c w h => exact PX.mono l p
  | stuck => exact p
theorem PB.mono (l : Le S S1) {r : R Bool} {Q : Bool → Hp → Prop} (p : PB K C W S σ r Q) : PB K C W S1 σ r Q := by
  cases r with
  | ok x h => exact fun S' l' => p S' (l.trans l')
  | exc c w h => exact PX.mono l p
  | stuck => exact p
theorem PL.mono (l : Le S S1) {r : R (List Val)} {Q : List V → Hp → Prop} (p : PL K C W S σ r Q) : PL K C W S1 σ r Q := by
  cases r with
  | ok x h => exact fun S' v l' => p S' v (l.trans l')
  | exc c w h => exact PX.mono l p
  | stuck => exact p
theorem PSt.mono (l : Le S S1) {r : RS} {D : Ends} (p : PSt K C xi W S r D) : PSt K C xi W S1 r D := by
  cases r with
  | next e h => exact fun S' σ' l' => p S' σ' (l.trans l')
  | ret v h => exact fun S' σ' l' => p S' σ' (l.trans l')
  | brk e h => exact fun S' σ' l' => p S' σ' (l.trans l')
  | cont e h => exact fun S' σ' l' => p S' σ' (l.trans l')
  | exc c w e h => exact fun S' σ' d wv l' => p S' σ' d wv (l.trans l')
  | stuck => exact p
/-- an expression, then what is made of its value: five forms by the kinds of ends -/
theorem PV.bind {r : R Val} {g : Val → Store → R Val} {Q : VK} {e : Env} (re : REnv K xi S σ e) (p : PV K C W S σ (r.bind g) Q) :
    PV K C W S σ r (fun v H1 => ∃ S1 x h1, S1.H = H1 ∧ Le S S1 ∧ Rep K C S1 h1 ∧ REnv K xi S1 σ e ∧ RV K S1 v x ∧ PV K C W S1 σ (g x h1) Q) := by
  cases r with
  | ok x h => exact fun S' v l rp rv => ⟨S', x, h, rfl, l, rp, re.mono l, rv, PV.mono l p⟩
  | exc c w h => exact p
  | stuck => exact p
theorem PV.bindB {r : R Val} {g : Val → Store → R Bool} {Q : Bool → Hp → Prop} {e : Env} (re : REnv K xi S σ e) (p : PB K C W S σ (r.bind g) Q) :
    PV K C W S σ r (fun v H1 => ∃ S1 x h1, S1.H = H1 ∧ Le S S1 ∧ Rep K C S1 h1 ∧ REnv K xi S1 σ e ∧ RV K S1 v x ∧ PB K C W S1 σ (g x h1) Q) := by
  cases r with
  | ok x h => exact fun S' v l rp rv => ⟨S', x, h, rfl, l, rp, re.mono l, rv, PB.mono l p⟩
  | exc c w h => exact p
  | stuck => exact p
theorem PV.bindL {r : R Val} {g : Val → Store → R (List Val)} {Q : List V → Hp → Prop} {e : Env} (re : REnv K xi S σ e) (p : PL K C W S σ (r.bind g) Q) :
    PV K C W S σ r (fun v H1 => ∃ S1 x h1, S1.H = H1 ∧ Le S S1 ∧ Rep K C S1 h1 ∧ REnv K xi S1 σ e ∧ RV K S1 v x ∧ PL K C W S1 σ (g x h1) Q) := by
  cases r with
  | ok x h => exact fun S' v l rp rv => ⟨S', x, h, rfl, l, rp, re.mono l, rv, PL.mono l p⟩
  | exc c w h => exact p
  | stuck => exact p
theorem PB.bind {r : R Bool} {g : Bool → Store → R Val} {Q : VK} {e : Env} (re : REnv K xi S σ e) (p : PV K C W S σ (r.bind g) Q) :
    PB K C W S σ r (fun b H1 => ∃ S1 h1, S1.H = H1 ∧ Le S S1 ∧ Rep K C S1 h1 ∧ REnv K xi S1 σ e ∧ PV K C W S1 σ (g b h1) Q) := by
  cases r with
  | ok x h => exact fun S' l rp => ⟨S', h, rfl, l, rp, re.mono l, PV.mono l p⟩
  | exc c w h => exact p
  | stuck => exact p
theorem PB.bindB {r : R Bool} {g : Bool → Store → R Bool} {Q : Bool → Hp → Prop} {e : Env} (re : REnv K xi S σ e) (p : PB K C W S σ (r.bind g) Q) :
    PB K C W S σ r (fun b H1 => ∃ S1 h1, S1.H = H1 ∧ Le S S1 ∧ Rep K C S1 h1 ∧ REnv K xi S1 σ e ∧ PB K C W S1 σ (g b h1) Q) := by
  cases r with
  | ok x h => exact fun S' l rp => ⟨S', h, rfl, l, rp, re.mono l, PB.mono l p⟩
  | exc c w h => exact p
  | stuck => exact p
theorem PL.bind {r : R (List Val)} {g : List Val → Store → R Val} {Q : VK} {e : Env} (re : REnv K xi S σ e) (p : PV K C W S σ (r.bind g) Q) :
    PL K C W S σ r (fun vs H1 => ∃ S1 xs h1, S1.H = H1 ∧ Le S S1 ∧ Rep K C S1 h1 ∧ REnv K xi S1 σ e ∧ RVs K S1 vs xs ∧ PV K C W S1 σ (g xs h1) Q) := by
  cases r with
  | ok x h => exact fun S' v l rp rv => ⟨S', x, h, rfl, l, rp, re.mono l, rv, PV.mono l p⟩
  | exc c w h => exact p
  | stuck => exact p
theorem PL.bindL {r : R (List Val)} {g : List Val → Store → R (List Val)} {Q : List V → Hp → Prop} {e : Env} (re : REnv K xi S σ e) (p : PL K C W S σ (r.bind g) Q) :
    PL K C W S σ r (fun vs H1 => ∃ S1 xs h1, S1.H = H1 ∧ Le S S1 ∧ Rep K C S1 h1 ∧ REnv K xi S1 σ e ∧ RVs K S1 vs xs ∧ PL K C W S1 σ (g xs h1) Q) := by
  cases r with
  | ok x h => exact fun S' v l rp rv => ⟨S', x, h, rfl, l, rp, re.mono l, rv, PL.mono l p⟩
  | exc c w h => exact p
  | stuck => exact p
theorem PV.imp {r : R Val} {Q Q' : VK} (p : PV K C W S σ r Q) (k : ∀ v H, Q v H → Q' v H) : PV K C W S σ r Q' := by
  cases r with
  | ok x h => exact fun S' v l rp rv => k _ _ (p S' v l rp rv)
  | exc c w h => exact p
  | stuck => exact p
theorem PB.imp {r : R Bool} {Q Q' : Bool → Hp → Prop} (p : PB K C W S σ r Q) (k : ∀ v H, Q v H → Q' v H) : PB K C W S σ r Q' := by
  cases r with
  | ok x h => exact fun S' l rp => k _ _ (p S' l rp)
  | exc c w h => exact p
  | stuck => exact p
theorem PL.imp {r : R (List Val)} {Q Q' : List V → Hp → Prop} (p : PL K C W S σ r Q) (k : ∀ v H, Q v H → Q' v H) : PL K C W S σ r Q' := by
  cases r with
  | ok x h => exact fun S' v l rp rv => k _ _ (p S' v l rp rv)
  | exc c w h => exact p
  | stuck => exact p
end
theorem PE_mono {X : Cx} {e : Expr} {t t' : TE} (h : PE X e t) (k : ∀ σ H Q, t' σ H Q → t σ H Q) : PE X e t' := ⟨fun pins s σ H Q I q => h.run pins s σ H Q I (k σ H Q q)⟩
theorem PT_mono {X : Cx} {e : Expr} {t t' : TT} (h : PT X e t) (k : ∀ σ H Q, t' σ H Q → t σ H Q) : PT X e t' := ⟨fun pins s σ H Q I q => h.run pins s σ H Q I (k σ H Q q)⟩
theorem PA_mono {X : Cx} {e : List Expr} {t t' : TA} (h : PA X e t) (k : ∀ σ H Q, t' σ H Q → t σ H Q) : PA X e t' := ⟨fun pos pins s σ H Q I q => h.run pos pins s σ H Q I (k σ H Q q)⟩
theorem PS_mono {X : Cx} {e : Stmt} {t t' : TS} (h : PS X e t) (k : ∀ D σ H, t' D σ H → t D σ H) : PS X e t' := ⟨fun pins s σ H D I q => h.run pins s σ H D I (k D σ H q)⟩
theorem PSs_mono {X : Cx} {e : List Stmt} {t t' : TS} (h : PSs X e t) (k : ∀ D σ H, t' D σ H → t D σ H) : PSs X e t' := ⟨fun pins s σ H D I q => h.run pins s σ H D I (k D σ H q)⟩
end Fn
end
section
namespace Fn
open PySem PySem.Spec PyProof.Rows L2
/-! ## operations on values -/
abbrev OR := Option (Val × Store)
def R.of : OR → R Val
  | some (x, h) => .ok x h
  | none => .stuck
@[simp] theorem R.of_some (x : Val) (h : Store) : R.of (some (x, h)) = .ok x h := rfl
@[simp] theorem R.of_none : R.of none = .stuck := rfl
section
variable (K : PySem.W.Frag) (C : CTb)
def PO (S : Sg) (r : OR) (Q : VK) : Prop := match r with
  | some (x, h) => ∀ S' v, Le S S' → Rep K C S' h → RV K S' v x → Q v S'.H
  | none => False
/-- a function on values keeps the reading r -/
def Op1 (g : Val → Store → OR) (r : V → Hp → VK → Prop) : Prop := ∀ S h x a (Q : VK), Rep K C S h → RV K S x a → PO K C S (g a h) Q → r x S.H Q
def Op2 (g : Val → Val → Store → OR) (r : R2) : Prop := ∀ S h x y a b (Q : VK), Rep K C S h → RV K S x a → RV K S y b → PO K C S (g a b h) Q → r x y S.H Q
def OpN (g : List Val → Store → OR) (r : List V → Hp → VK → Prop) : Prop := ∀ S h xs as (Q : VK), Rep K C S h → RVs K S xs as → PO K C S (g as h) Q → r xs S.H Q
end
section
variable {K : PySem.W.Frag} {C : CTb} {W : WX} {S S1 : Sg} {σ : L2.St} {h : Store} {Q : VK}
theorem PO.of {r : OR} (p : PV K C W S σ (R.of r) Q) : PO K C S r Q := by
  cases r with
  | some q => exact p
  | none => exact p
theorem PO.here {x : Val} {v : V} (p : PO K C S (some (x, h)) Q) (rp : Rep K C S h) (rv : RV K S v x) : Q v S.H := p S v (Le.refl S) rp rv
/-- a new tuple -/
theorem PO.tup {xs : List Val} {vs : List V} (p : PO K C S (some (.tup xs, h)) Q) (rp : Rep K C S h) (rv : RVs K S vs xs) : ∀ a, S.H a = none → Q (.ref a) (upd S.H a (.tup vs)) := fun a ha => by
  obtain ⟨l, r⟩ := rp.new (u := .tup vs) ha
  exact p _ _ l r (.tup upd_same (rv.mono l))
/-- a new list -/
theorem PO.lst {xs : List Val} {vs : List V} (p : PO K C S (some (.loc h.length, h ++ [.lst xs])) Q) (rp : Rep K C S h) (rv : RVs K S vs xs) : ∀ a, S.H a = none → Q (.ref a) (upd S.H a (.lst vs)) := fun a ha => by
  have l0 : Le S (S.add a (upd S.H a (.lst vs))) := le_add (Pers.new ha)
  obtain ⟨l, r⟩ := rp.add (u := .lst vs) (o := .lst xs) ha ⟨vs, upd_same, rv.mono l0⟩
  have e : RV K (S.add a (upd S.H a (.lst vs))) (.ref ((S.add a (upd S.H a (.lst vs))).rho S.n)) (.loc S.n) := .loc (Nat.lt_succ_self _)
  rw [Sg.add_at] at e
  rw [rp.len] at p
  exact p _ _ l r e
/-- a list of the store is changed -/
theorem PO.set {x : Val} {v : V} {i : Nat} {o : Ob} {xs : List Val} {vs : List V} (p : PO K C S (some (x, h.set i (.lst xs))) Q) (rp : Rep K C S h) (e : h[i]? = some o) (rv : RVs K S vs xs) (rx : RV K S v x) (hz : o.isZ = false := by rfl) : Q v (upd S.H (S.rho i) (.lst vs)) := by
  have l := rp.le_set e (.lst vs) hz
  exact p _ _ l (rp.set e (.lst vs) ⟨vs, upd_same, rv.mono l⟩ hz) (rx.mono l)
theorem list_at {i : Nat} {xs : List Val} (rp : Rep K C S h) (e : h[i]? = some (.lst xs)) : ∃ vs, S.H (S.rho i) = some (.lst vs) ∧ RVs K S vs xs := rp.obj i _ e
end
/-! ### inversion: what a value stands for -/
section
variable {K : PySem.W.Frag} {S : Sg} {v : V} {vs : List V}
theorem RV.int' {i : Int} (r : RV K S v (.int i)) : v = .int i := by cases r; rfl
theorem RV.bl' {b : Bool} (r : RV K S v (.bl b)) : v = .bl b := by cases r; rfl
theorem RV.str' {s : Str} (r : RV K S v (.str s)) : v = .str s := by cases r; rfl
theorem RV.non' (r : RV K S v .non) : v = .non := by cases r; rfl
theorem RV.tup' {xs : List Val} (r : RV K S v (.tup xs)) : ∃ a vs, v = .ref a ∧ S.H a = some (.tup vs) ∧ RVs K S vs xs := by cases r with | tup h r => exact ⟨_, _, rfl, h, r⟩
theorem RV.ftup' {xs : List Val} (r : RV K S v (.ftup xs)) : ∃ a vs, v = .ref a ∧ SqT K S.H a vs ∧ RVs K S vs xs := by cases r with | ftup h r => exact ⟨_, _, rfl, h.t, r⟩
theorem RV.wtup' {xs : List Val} (r : RV K S v (.wtup xs)) : ∃ a vs, v = .ref a ∧ SqT K S.H a vs ∧ RVs K S vs xs := by cases r with | wtup h r => exact ⟨_, _, rfl, .inr h, r⟩
theorem RV.loc' {i : Nat} (r : RV K S v (.loc i)) : v = .ref (S.rho i) ∧ i < S.n := by cases r with | loc h => exact ⟨rfl, h⟩
theorem RV.ro' {xs : List Val} (r : RV K S v (.ro xs)) : ∃ a vs, v = .ref a ∧ SqL K S.H a vs ∧ RVs K S vs xs := by cases r with | ro h r => exact ⟨_, _, rfl, h.sq, r⟩
theorem RVs.nil' (r : RVs K S vs []) : vs = [] := by cases r; rfl
theorem RVs.cons' {x : Val} {xs : List Val} (r : RVs K S vs (x :: xs)) : ∃ w ws, vs = w :: ws ∧ RV K S w x ∧ RVs K S ws xs := by cases r with | cons a b => exact ⟨_, _, rfl, a, b⟩
end
theorem RVs.ints {K : PySem.W.Frag} {S : Sg} : ∀ {vs : List V} {ns : List Int}, RVs K S vs (ns.map Val.int) → vs = ns.map V.int
  | _, [], r => by rw [RVs.nil' r]; rfl
  | _, n :: ns, r => by
    obtain ⟨w, ws, rfl, a, b⟩ := RVs.cons' r
    rw [RV.int' a, RVs.ints b]
    rfl
theorem RVs.ofInts {K : PySem.W.Frag} {S : Sg} : ∀ ns : List Int, RVs K S (ns.map V.int) (ns.map Val.int)
  | [] => .nil
  | n :: ns => .cons (.int n) (RVs.ofInts ns)
/-- all ints -/
def asInts : List Val → Option (List Int)
  | [] => some []
  | .int i :: r => (asInts r).map (i :: ·)
  | _ => none
@[simp] theorem asInts_ints : ∀ ns : List Int, asInts (ns.map Val.int) = some ns
  | [] => rfl
  | n :: ns => by show (asInts (ns.map Val.int)).map (n :: ·) = _; rw [asInts_ints ns]; rfl
def asBools : List Val → Option (List Bool)
  | [] => some []
  | .bl i :: r => (asBools r).map (i :: ·)
  | _ => none
@[simp] theorem asBools_bls : ∀ ns : List Bool, asBools (ns.map Val.bl) = some ns
  | [] => rfl
  | n :: ns => by show (asBools (ns.map Val.bl)).map (n :: ·) = _; rw [asBools_bls ns]; rfl
/-! ## expressions -/
section
variable {X : Cx} {C : CTb} {xi : XI} {W : WX} {a b c : Expr} {pos : Pos}
/-- a name -/
def fVar (i : Nat) : FE := fun e h => match e[i]? with
  | some (some x) => .ok x h
  | _ => .stuck
theorem xe_var (i : Nat) {x : Str} {pos : Pos} (hN : X.N[i]? = some x := by rfl) (hv : Vis X.env.scope x := by first | exact Or.inl rfl | exact Or.inr (Or.inl rfl) | exact Or.inr (Or.inr rfl)) (hd : (x == ("__debug__" : Str)) = false := by decide)
    (hcd : (x == ("__classdict__" : Str)) = false := by decide) : PE X (.Name x pos) (rE X.K C xi W (fVar i)) := by
  refine PE_mono (pe_var hN hv hd hcd) ?_
  rintro σ H Q ⟨S, e, h, rfl, rp, re, p⟩
  unfold fVar at p
  cases q : e[i]? with
  | none => rw [q] at p; exact False.elim p
  | some o =>
    cases o with
    | none => rw [q] at p; exact False.elim p
    | some x =>
      rw [q] at p
      obtain ⟨v, hv, rv⟩ := re.at_ i x q
      exact ⟨v, hv, p S v (Le.refl S) rp rv⟩
def fK (x : Val) : FE := fun _ h => .ok x h
theorem xe_int {i : Int} {k : Nat} : PE X (.Constant (.int i) k pos) (rE X.K C xi W (fK (.int i))) := by
  refine PE_mono pe_int ?_
  rintro σ H Q ⟨S, e, h, rfl, rp, re, p⟩
  exact p S _ (Le.refl S) rp (.int i)
theorem xe_bl {i : Bool} {k : Nat} : PE X (.Constant (.bool i) k pos) (rE X.K C xi W (fK (.bl i))) := by
  refine PE_mono pe_bl ?_
  rintro σ H Q ⟨S, e, h, rfl, rp, re, p⟩
  exact p S _ (Le.refl S) rp (.bl i)
theorem xe_str {i : Str} {k : Nat} : PE X (.Constant (.str i) k pos) (rE X.K C xi W (fK (.str i))) := by
  refine PE_mono pe_str ?_
  rintro σ H Q ⟨S, e, h, rfl, rp, re, p⟩
  exact p S _ (Le.refl S) rp (.str i)
/-- two operands -/
def fBin (g : Val → Val → Store → OR) (fa fb : FE) : FE := fun e h => (fa e h).bind fun x h1 => (fb e h1).bind fun y h2 => R.of (g x y h2)
theorem bin_go {g : Val → Val → Store → OR} {r : R2} {fa fb : FE} {K : PySem.W.Frag} (hg : Op2 K C g r) {σ : L2.St} {H : Hp} {Q : VK} (q : rE K C xi W (fBin g fa fb) σ H Q) : tOp r (rE K C xi W fa) (rE K C xi W fb) σ H Q := by
  obtain ⟨S, e, h, rfl, rp, re, p⟩ := q
  refine ⟨S, e, h, rfl, rp, re, (p.bind re).imp ?_⟩
  rintro v H1 ⟨S1, x, h1, rfl, l1, rp1, re1, rv1, p1⟩
  refine ⟨S1, e, h1, rfl, rp1, re1, (p1.bind re1).imp ?_⟩
  rintro w H2 ⟨S2, y, h2, rfl, l2, rp2, re2, rv2, p2⟩
  exact hg S2 h2 v w x y Q rp2 (rv1.mono l2) rv2 (PO.of p2)
theorem xe_bin {op : Operator} {r : R2} {g : Val → Val → Store → OR} {fa fb : FE} (ho : OpR X (binaryOp op) r) (hg : Op2 X.K C g r) (ha : PE X a (rE X.K C xi W fa)) (hb : PE X b (rE X.K C xi W fb)) : PE X (.BinOp a op b pos) (rE X.K C xi W (fBin g fa fb)) :=
  PE_mono (pe_op ho ha hb) fun _ _ _ q => bin_go hg q
theorem xe_cmp {op : CmpOp} {r : R2} {g : Val → Val → Store → OR} {fa fb : FE} (ho : OpR X (compareOp op) r) (hg : Op2 X.K C g r) (ha : PE X a (rE X.K C xi W fa)) (hb : PE X b (rE X.K C xi W fb)) (hm : behindInMarks op b = false := by first | exact nomark _ | rfl) : PE X (.Compare a [op] [b] pos) (rE X.K C xi W (fBin g fa fb)) :=
  PE_mono (pe_cmpR ho ha hb hm) fun _ _ _ q => bin_go hg q
def fUn (g : Val → Store → OR) (fa : FE) : FE := fun e h => (fa e h).bind fun x h1 => R.of (g x h1)
theorem un_go {g : Val → Store → OR} {r : V → Hp → VK → Prop} {fa : FE} {K : PySem.W.Frag} (hg : Op1 K C g r) {σ : L2.St} {H : Hp} {Q : VK} (q : rE K C xi W (fUn g fa) σ H Q) : tUn r (rE K C xi W fa) σ H Q := by
  obtain ⟨S, e, h, rfl, rp, re, p⟩ := q
  refine ⟨S, e, h, rfl, rp, re, (p.bind re).imp ?_⟩
  rintro v H1 ⟨S1, x, h1, rfl, l1, rp1, re1, rv1, p1⟩
  exact hg S1 h1 v x Q rp1 rv1 (PO.of p1)
theorem xe_un {op : UnaryOp} {r : V → Hp → VK → Prop} {g : Val → Store → OR} {fa : FE} (ho : UnR X (unaryOp op) r) (hg : Op1 X.K C g r) (ha : PE X a (rE X.K C xi W fa)) : PE X (.UnaryOp op a pos) (rE X.K C xi W (fUn g fa)) :=
  PE_mono (pe_un ho ha) fun _ _ _ q => un_go hg q
/-! ### tests -/
def toB : R Val → R Bool := fun r => r.bind fun x h => match x with
  | .bl b => .ok b h
  | _ => .stuck
def fTest (f : FE) : FT := fun e h => toB (f e h)
theorem test_go {fa : FE} {K : PySem.W.Frag} {σ : L2.St} {H : Hp} {Q : Bool → Hp → Prop} (q : rT K C xi W (fTest fa) σ H Q) : tB (rE K C xi W fa) σ H Q := by
  obtain ⟨S, e, h, rfl, rp, re, p⟩ := q
  refine ⟨S, e, h, rfl, rp, re, (PV.bindB re p).imp ?_⟩
  rintro v H1 ⟨S1, x, h1, rfl, l1, rp1, re1, rv1, p1⟩
  cases x with
  | bl b => exact ⟨b, RV.bl' rv1, p1 S1 (Le.refl S1) rp1⟩
  | _ => exact False.elim p1
theorem xt_cmp {op : CmpOp} {r : R2} {g : Val → Val → Store → OR} {fa fb : FE} (ho : OpR X (compareOp op) r) (hg : Op2 X.K C g r) (ha : PE X a (rE X.K C xi W fa)) (hb : PE X b (rE X.K C xi W fb)) (hm : behindInMarks op b = false := by first | exact nomark _ | rfl) : PT X (.Compare a [op] [b] pos) (rT X.K C xi W (fTest (fBin g fa fb))) := by
  refine PT_mono (pt_cmpR ho ha hb hm) fun σ H Q q => ?_
  have q' := test_go q
  obtain ⟨S, e, h, rfl, rp, re, p⟩ := q'
  exact bin_go hg ⟨S, e, h, rfl, rp, re, p⟩
/-- a value's truth -/
def tru (h : Store) : Val → Option Bool
  | .non => some false
  | .bl b => some b
  | .int i => some (i != 0)
  | .str y => if y.length ≤ sizeLine then some ((y.length : Int) != 0) else none
  | .tup xs => some (!xs.isEmpty)
  | .wtup xs => some (!xs.isEmpty)
  | .ftup xs => some (!xs.isEmpty)
  | .ro xs => some (!xs.isEmpty)
  | .loc i => match h[i]? with
    | some (.lst xs) => some (!xs.isEmpty)
    | some (.dK kvs) => some (!kvs.isEmpty)
    | _ => none
theorem isEmpty_rv {K : PySem.W.Frag} {S : Sg} {vs : List V} {xs : List Val} (r : RVs K S vs xs) : (!xs.isEmpty) = !vs.isEmpty := by cases r <;> rfl
theorem isEmpty_rk {K : PySem.W.Frag} {κ : Type} {S : Sg} {vs : List (κ × V)} {xs : List (κ × Val)} (r : RKs K S vs xs) : (!xs.isEmpty) = !vs.isEmpty := by cases r <;> rfl
theorem tru_v {K : PySem.W.Frag} {S : Sg} {h : Store} {x : Val} {v : V} {k : Bool} (rp : Rep K C S h) (rv : RV K S v x) (e : tru h x = some k) : TruV K v S.H k := by
  cases x with
  | non => cases e; rw [RV.non' rv]; exact rfl
  | bl b => cases e; rw [RV.bl' rv]; exact rfl
  | int b => cases e; rw [RV.int' rv]; exact rfl
  | str y =>
    rw [RV.str' rv]
    have e : (if y.length ≤ sizeLine then some ((y.length : Int) != 0) else none) = some k := e
    by_cases hy : y.length ≤ sizeLine
    · rw [if_pos hy] at e
      cases e
      exact ⟨hy, rfl⟩
    · rw [if_neg hy] at e
      cases e
  | tup xs =>
    obtain ⟨a, vs, rfl, ha, r⟩ := RV.tup' rv
    cases e
    exact .inr (.inl ⟨vs, SqT.of ha, isEmpty_rv r⟩)
  | wtup xs =>
    obtain ⟨a, vs, rfl, ha, r⟩ := RV.wtup' rv
    cases e
    exact .inr (.inl ⟨vs, ha, isEmpty_rv r⟩)
  | ftup xs =>
    obtain ⟨a, vs, rfl, ha, r⟩ := RV.ftup' rv
    cases e
    exact .inr (.inl ⟨vs, ha, isEmpty_rv r⟩)
  | ro xs =>
    obtain ⟨a, vs, rfl, ha, r⟩ := RV.ro' rv
    cases e
    exact .inl ⟨vs, ha, isEmpty_rv r⟩
  | loc i =>
    obtain ⟨rfl, hi⟩ := RV.loc' rv
    have e : (match h[i]? with
      | some (.lst xs) => some (!xs.isEmpty)
      | some (.dK kvs) => some (!kvs.isEmpty)
      | _ => none) = some k := e
    cases q : h[i]? with
    | none => rw [q] at e; cases e
    | some o =>
      rw [q] at e
      have ro := rp.obj i o q
      cases o with
      | lst xs =>
        obtain ⟨vs, ha, r⟩ := ro
        cases e
        exact .inl ⟨vs, SqL.of ha, isEmpty_rv r⟩
      | dK kvs =>
        obtain ⟨vs, ha, r⟩ := ro
        cases e
        exact .inr (.inr ⟨vs, ha, isEmpty_rk r⟩)
      | dT kvs => cases e
      | zT kvs => cases e
      | ins c fs => cases e
def R.ofB (h : Store) : Option Bool → R Bool
  | some b => .ok b h
  | none => .stuck
def fTru (f : FE) : FT := fun e h => (f e h).bind fun x h1 => R.ofB h1 (tru h1 x)
theorem xt_tru {fa : FE} (ha : PE X a (rE X.K C xi W fa)) (he : ∀ whole, isTrue a X.env whole = (do let v ← whole; standAt a.pos; holding [v] (truthy v)) := by intro _; rfl) : PT X a (rT X.K C xi W (fTru fa)) := by
  refine PT_mono (pt_truth ha he) ?_
  rintro σ H Q ⟨S, e, h, rfl, rp, re, p⟩
  refine ⟨S, e, h, rfl, rp, re, (PV.bindB re p).imp ?_⟩
  rintro v H1 ⟨S1, x, h1, rfl, l1, rp1, re1, rv1, p1⟩
  cases q : tru h1 x with
  | none => rw [q] at p1; exact False.elim p1
  | some k =>
    rw [q] at p1
    exact ⟨k, tru_v rp1 rv1 q, p1 S1 (Le.refl S1) rp1⟩
def fAndT (f g : FT) : FT := fun e h => (f e h).bind fun b h1 => if b = true then g e h1 else .ok false h1
def fOrT (f g : FT) : FT := fun e h => (f e h).bind fun b h1 => if b = true then .ok true h1 else g e h1
def fNotT (f : FT) : FT := fun e h => (f e h).bind fun b h1 => .ok (!b) h1
variable {tf tg : FT} {rest : List Expr}
theorem xw_one {op} (ha : PT X a (rT X.K C xi W tf)) : PW X (.BoolOp op [a] pos) (rT X.K C xi W tf) := by
  cases op with
  | And => exact pw_and1 ha
  | Or => exact pw_or1 ha
theorem xw_and (ha : PT X a (rT X.K C xi W tf)) (hb : PW X (.BoolOp .And (b :: rest) pos) (rT X.K C xi W tg)) : PW X (.BoolOp .And (a :: b :: rest) pos) (rT X.K C xi W (fAndT tf tg)) := by
  have base := pw_and ha hb
  refine ⟨fun wh pins s σ H Q I q => base.run wh pins s σ H Q I ?_⟩
  obtain ⟨S, e, h, rfl, rp, re, p⟩ := q
  refine ⟨S, e, h, rfl, rp, re, (PB.bindB re p).imp ?_⟩
  rintro k H1 ⟨S1, h1, rfl, l1, rp1, re1, p1⟩
  cases k with
  | true => exact ⟨S1, e, h1, rfl, rp1, re1, p1⟩
  | false => exact p1 S1 (Le.refl S1) rp1
theorem xw_or (ha : PT X a (rT X.K C xi W tf)) (hb : PW X (.BoolOp .Or (b :: rest) pos) (rT X.K C xi W tg)) : PW X (.BoolOp .Or (a :: b :: rest) pos) (rT X.K C xi W (fOrT tf tg)) := by
  have base := pw_or ha hb
  refine ⟨fun wh pins s σ H Q I q => base.run wh pins s σ H Q I ?_⟩
  obtain ⟨S, e, h, rfl, rp, re, p⟩ := q
  refine ⟨S, e, h, rfl, rp, re, (PB.bindB re p).imp ?_⟩
  rintro k H1 ⟨S1, h1, rfl, l1, rp1, re1, p1⟩
  cases k with
  | true => exact p1 S1 (Le.refl S1) rp1
  | false => exact ⟨S1, e, h1, rfl, rp1, re1, p1⟩
theorem xt_not (ha : PT X a (rT X.K C xi W tf)) : PT X (.UnaryOp .Not a pos) (rT X.K C xi W (fNotT tf)) := by
  refine PT_mono (pt_not ha) ?_
  rintro σ H Q ⟨S, e, h, rfl, rp, re, p⟩
  refine ⟨S, e, h, rfl, rp, re, (PB.bindB re p).imp ?_⟩
  rintro k H1 ⟨S1, h1, rfl, l1, rp1, re1, p1⟩
  exact p1 S1 (Le.refl S1) rp1
/-! ### and, or, not as values: all but the last are bools -/
def fAnd (f g : FE) : FE := fun e h => (toB (f e h)).bind fun b h1 => if b = true then g e h1 else .ok (.bl false) h1
def fOr (f g : FE) : FE := fun e h => (toB (f e h)).bind fun b h1 => if b = true then .ok (.bl true) h1 else g e h1
def fNot (f : FE) : FE := fun e h => (toB (f e h)).bind fun b h1 => .ok (.bl (!b)) h1
variable {fa fb : FE}
theorem boolV {K : PySem.W.Frag} {S : Sg} {σ : L2.St} {r : R Val} {g : Bool → Store → R Val} {Q : VK} {e : Fn.Env} (re : REnv K xi S σ e) (p : PV K C W S σ ((toB r).bind g) Q) :
    PV K C W S σ r (fun v H1 => ∃ S1 b h1, v = .bl b ∧ S1.H = H1 ∧ Rep K C S1 h1 ∧ REnv K xi S1 σ e ∧ PV K C W S1 σ (g b h1) Q) := by
  cases r with
  | ok x h =>
    intro S' v l rp rv
    cases x with
    | bl b => exact ⟨S', b, h, RV.bl' rv, rfl, rp, re.mono l, PV.mono l p⟩
    | _ => exact False.elim p
  | exc c w h => exact p
  | stuck => exact p
theorem xe_one {op} (ha : PE X a (rE X.K C xi W fa)) : PE X (.BoolOp op [a] pos) (rE X.K C xi W fa) := pe_one ha
theorem xe_and (ha : PE X a (rE X.K C xi W fa)) (hb : PE X (.BoolOp .And (b :: rest) pos) (rE X.K C xi W fb)) : PE X (.BoolOp .And (a :: b :: rest) pos) (rE X.K C xi W (fAnd fa fb)) := by
  refine PE_mono (pe_and ha hb) ?_
  rintro σ H Q ⟨S, e, h, rfl, rp, re, p⟩
  refine ⟨S, e, h, rfl, rp, re, (boolV re p).imp ?_⟩
  rintro v H1 ⟨S1, k, h1, rfl, rfl, rp1, re1, p1⟩
  refine ⟨k, rfl, ?_⟩
  cases k with
  | true => exact ⟨S1, e, h1, rfl, rp1, re1, p1⟩
  | false => exact p1 S1 _ (Le.refl S1) rp1 (.bl false)
theorem xe_not (ha : PE X a (rE X.K C xi W fa)) : PE X (.UnaryOp .Not a pos) (rE X.K C xi W (fNot fa)) := by
  refine PE_mono (pe_not ha) ?_
  rintro σ H Q ⟨S, e, h, rfl, rp, re, p⟩
  refine ⟨S, e, h, rfl, rp, re, (boolV re p).imp ?_⟩
  rintro v H1 ⟨S1, k, h1, rfl, rfl, rp1, re1, p1⟩
  exact ⟨k, rfl, p1 S1 _ (Le.refl S1) rp1 (.bl _)⟩
def fIf (t : FT) (f g : FE) : FE := fun e h => (t e h).bind fun b h1 => if b = true then f e h1 else g e h1
theorem xe_if (hc : PT X c (rT X.K C xi W tf)) (ha : PE X a (rE X.K C xi W fa)) (hb : PE X b (rE X.K C xi W fb)) : PE X (.IfExp c a b pos) (rE X.K C xi W (fIf tf fa fb)) := by
  refine PE_mono (pe_ifExp hc ha hb) ?_
  rintro σ H Q ⟨S, e, h, rfl, rp, re, p⟩
  refine ⟨S, e, h, rfl, rp, re, (PB.bind re p).imp ?_⟩
  rintro k H1 ⟨S1, h1, rfl, l1, rp1, re1, p1⟩
  cases k with
  | true => exact ⟨S1, e, h1, rfl, rp1, re1, p1⟩
  | false => exact ⟨S1, e, h1, rfl, rp1, re1, p1⟩
/-! ### arguments, displays -/
def fNil : FA := fun _ h => .ok [] h
def fCons (f : FE) (g : FA) : FA := fun e h => (f e h).bind fun x h1 => (g e h1).bind fun xs h2 => .ok (x :: xs) h2
variable {es : List Expr} {fs : FA}
theorem xa_nil : PA X [] (rA X.K C xi W fNil) := by
  refine PA_mono pa_nil ?_
  rintro σ H Q ⟨S, e, h, rfl, rp, re, p⟩
  exact p S [] (Le.refl S) rp .nil
theorem cons_go {K : PySem.W.Frag} {σ : L2.St} {H : Hp} {Q : List V → Hp → Prop} (q : rA K C xi W (fCons fa fs) σ H Q) : tCons (rE K C xi W fa) (rA K C xi W fs) σ H Q := by
  obtain ⟨S, e, h, rfl, rp, re, p⟩ := q
  refine ⟨S, e, h, rfl, rp, re, (PV.bindL re p).imp ?_⟩
  rintro v H1 ⟨S1, x, h1, rfl, l1, rp1, re1, rv1, p1⟩
  refine ⟨S1, e, h1, rfl, rp1, re1, (PL.bindL re1 p1).imp ?_⟩
  rintro vs H2 ⟨S2, xs, h2, rfl, l2, rp2, re2, rv2, p2⟩
  exact p2 S2 _ (Le.refl S2) rp2 (.cons (rv1.mono l2) rv2)
theorem xa_cons (ha : PE X a (rE X.K C xi W fa)) (hr : PA X es (rA X.K C xi W fs)) (he : starEach (a :: es) X.env = (false, eval a X.env) :: starEach es X.env := by rfl) : PA X (a :: es) (rA X.K C xi W (fCons fa fs)) :=
  PA_mono (pa_cons ha hr he) fun _ _ _ q => cons_go q
end
end Fn
end
section
namespace Fn
open PySem PySem.Spec PyProof.Rows L2
def fits (n : Nat) : Bool := Nat.ble n 16777216
theorem fits_le {n : Nat} (h : fits n = true) : n ≤ sizeLine := by
  rw [sizeLine_eq]
  exact Nat.le_of_ble_eq_true h
theorem fits_of {n : Nat} (h : n ≤ 16777216) : fits n = true := Nat.ble_eq_true_of_le h
def room (n : Nat) : Bool := Nat.blt n 16777216
/-! ## data -/
mutual
def toD (h : Store) : Nat → Val → Option PyData
  | 0, _ => none
  | n + 1, x => match x with
    | .non => some .none
    | .bl b => some (.bool b)
    | .int i => some (.int i)
    | .str s => if PyData.strOk s then some (.str s) else none
    | .tup xs => (toDs h n xs).map .tuple
    | .wtup xs => (toDs h n xs).map .tuple
    | .ftup xs => (toDs h n xs).map .tuple
    | .ro xs => (toDs h n xs).map .list
    | .loc i => match h[i]? with
      | some (.lst xs) => (toDs h n xs).map .list
      | _ => none
  termination_by n _ => (n, 0)
def toDs (h : Store) : Nat → List Val → Option (List PyData)
  | _, [] => some []
  | n, x :: xs => match toD h n x with
    | some d => (toDs h n xs).map (d :: ·)
    | none => none
  termination_by n xs => (n, xs.length + 1)
end
theorem map_some {α β : Type} {f : α → β} {o : Option α} {b : β} (h : o.map f = some b) : ∃ a, o = some a ∧ f a = b := by
  cases o with
  | none => cases h
  | some a => exact ⟨a, rfl, Option.some.inj h⟩
mutual
theorem toD_dp {K : PySem.W.Frag} {C : CTb} {S : Sg} {h : Store} (rp : Rep K C S h) : ∀ (n : Nat) {x : Val} {v : V} {d : PyData}, RV K S v x → toD h n x = some d → Dp K S.H v d ∧ d.canLay0 = true ∧ d.depth ≤ n
  | 0, _, _, _, _, e => by unfold toD at e; cases e
  | n + 1, x, v, d, r, e => by
    unfold toD at e
    cases x with
    | non => cases e; rw [RV.non' r]; exact ⟨.non, by simp [PyData.canLay0], by simp [PyData.depth]⟩
    | bl b => cases e; rw [RV.bl' r]; exact ⟨.bl b, by simp [PyData.canLay0], by simp [PyData.depth]⟩
    | int b => cases e; rw [RV.int' r]; exact ⟨.int b, by simp [PyData.canLay0], by simp [PyData.depth]⟩
    | str b =>
      by_cases hs : PyData.strOk b = true
      · simp only [hs, if_true] at e
        cases e
        rw [RV.str' r]
        exact ⟨.str b, by simp [PyData.canLay0, hs], by simp [PyData.depth]⟩
      · simp only [hs] at e
        cases e
    | tup xs =>
      obtain ⟨ds, e1, rfl⟩ := map_some e
      obtain ⟨a, vs, rfl, ha, rs⟩ := RV.tup' r
      obtain ⟨p1, p2, p3⟩ := toDs_dp rp n rs e1
      exact ⟨.tup (SqT.of ha) p1, by simpa [PyData.canLay0] using p2, by simp only [PyData.depth]; omega⟩
    | wtup xs =>
      obtain ⟨ds, e1, rfl⟩ := map_some e
      obtain ⟨a, vs, rfl, ha, rs⟩ := RV.wtup' r
      obtain ⟨p1, p2, p3⟩ := toDs_dp rp n rs e1
      exact ⟨.tup ha p1, by simpa [PyData.canLay0] using p2, by simp only [PyData.depth]; omega⟩
    | ftup xs =>
      obtain ⟨ds, e1, rfl⟩ := map_some e
      obtain ⟨a, vs, rfl, ha, rs⟩ := RV.ftup' r
      obtain ⟨p1, p2, p3⟩ := toDs_dp rp n rs e1
      exact ⟨.tup ha p1, by simpa [PyData.canLay0] using p2, by simp only [PyData.depth]; omega⟩
    | ro xs =>
      obtain ⟨ds, e1, rfl⟩ := map_some e
      obtain ⟨a, vs, rfl, ha, rs⟩ := RV.ro' r
      obtain ⟨p1, p2, p3⟩ := toDs_dp rp n rs e1
      exact ⟨.lst ha p1, by simpa [PyData.canLay0] using p2, by simp only [PyData.depth]; omega⟩
    | loc i =>
      obtain ⟨rfl, hi⟩ := RV.loc' r
      cases q : h[i]? with
      | none => simp [q] at e
      | some o =>
        cases o with
        | lst xs =>
          simp only [q] at e
          obtain ⟨ds, e1, rfl⟩ := map_some e
          obtain ⟨vs, ha, rs⟩ := rp.obj i _ q
          obtain ⟨p1, p2, p3⟩ := toDs_dp rp n rs e1
          exact ⟨.lst (SqL.of ha) p1, by simpa [PyData.canLay0] using p2, by simp only [PyData.depth]; omega⟩
        | _ => simp [q] at e
  termination_by n => (n, 0)
theorem toDs_dp {K : PySem.W.Frag} {C : CTb} {S : Sg} {h : Store} (rp : Rep K C S h) : ∀ (n : Nat) {xs : List Val} {vs : List V} {ds : List PyData}, RVs K S vs xs → toDs h n xs = some ds → DpAll K S.H vs ds ∧ PyData.canLayAll0 ds = true ∧ PyData.depthAll ds ≤ n
  | n, [], vs, ds, r, e => by
    unfold toDs at e
    cases e
    rw [RVs.nil' r]
    exact ⟨.nil, by simp [PyData.canLayAll0], by simp [PyData.depthAll]⟩
  | n, x :: xs, vs, ds, r, e => by
    unfold toDs at e
    obtain ⟨w, ws, rfl, r1, r2⟩ := RVs.cons' r
    cases q : toD h n x with
    | none => simp [q] at e
    | some d =>
      simp only [q] at e
      obtain ⟨ds', e1, rfl⟩ := map_some e
      obtain ⟨a1, a2, a3⟩ := toD_dp rp n r1 q
      obtain ⟨b1, b2, b3⟩ := toDs_dp rp n r2 e1
      exact ⟨.cons a1 b1, by simp [PyData.canLayAll0, a2, b2], by simp only [PyData.depthAll]; omega⟩
  termination_by n xs => (n, xs.length + 1)
end
def deep : Nat := 16
theorem toD_shaped {K : PySem.W.Frag} {C : CTb} {S : Sg} {h : Store} (rp : Rep K C S h) {x : Val} {v : V} {d : PyData} (r : RV K S v x) (e : toD h deep x = some d) : Dp K S.H v d ∧ SeqAt.shaped d = true := by
  obtain ⟨p1, p2, p3⟩ := toD_dp rp deep r e
  refine ⟨p1, ?_⟩
  unfold SeqAt.shaped
  rw [p2, decide_eq_true (Nat.le_trans p3 (by decide))]
  rfl
/-! ## the operations -/
def oAdd : Val → Val → Store → OR := fun a b h => match a, b with
  | .int i, .int j => some (.int (i + j), h)
  | .int i, .bl k => some (.int (i + b2i k), h)
  | .tup xs, .tup ys => if fits (xs.length + ys.length) then some (.tup (xs ++ ys), h) else none
  | .ftup xs, .tup ys => if (fits (xs.length + ys.length) && !xs.isEmpty && !ys.isEmpty) = true then some (.tup (xs ++ ys), h) else none
  | .ftup xs, .ftup ys => if (fits (xs.length + ys.length) && !xs.isEmpty && !ys.isEmpty) = true then some (.tup (xs ++ ys), h) else none
  | .loc i, .loc j => match h[i]?, h[j]? with
    | some (.lst xs), some (.lst ys) => if fits (xs.length + ys.length) then some (.loc h.length, h ++ [.lst (xs ++ ys)]) else none
    | _, _ => none
  | _, _ => none
def rAddAll (K : PySem.W.Frag) : R2 := fun x y H Q => rI0 (fun i j => .int (i + j)) x y H Q ∨ ((∃ i k, x = .int i ∧ y = .bl k ∧ Q (.int (i + b2i k)) H) ∨ (rCatA K x y H Q ∨ rCat x y H Q))
theorem op_addAll {X : Cx} : OpR X (binaryOp .Add) (rAddAll X.K) := op_add.or (op_add_ib.or (op_catA.or op_cat))
section
variable {K : PySem.W.Frag} {C : CTb}
theorem f_add : Op2 K C oAdd (rAddAll K) := by
  intro S h x y a b Q rp ra rb p
  unfold oAdd at p
  cases a with
  | int i =>
    rw [RV.int' ra]
    cases b with
    | int j => rw [RV.int' rb]; exact .inl ⟨i, j, rfl, rfl, p.here rp (.int _)⟩
    | bl k => rw [RV.bl' rb]; exact .inr (.inl ⟨i, k, rfl, rfl, p.here rp (.int _)⟩)
    | _ => exact False.elim p
  | tup xs =>
    cases b with
    | tup ys =>
      obtain ⟨a1, vs, rfl, ha, rs⟩ := RV.tup' ra
      obtain ⟨b1, ws, rfl, hb, rt⟩ := RV.tup' rb
      by_cases hf : fits (xs.length + ys.length) = true
      · simp only [hf, if_true] at p
        refine .inr (.inr (.inl ⟨a1, b1, vs, ws, rfl, rfl, SqT.of ha, SqT.of hb, ?_, ?_, ?_, ?_⟩))
        · rw [rs.length, rt.length]
          exact fits_le hf
        · intro e
          subst e
          cases rs
          exact p.here rp (.tup hb rt)
        · intro _ e
          subst e
          cases rt
          rw [List.append_nil] at p
          exact p.here rp (.tup ha rs)
        · intro _ _
          exact p.tup rp (rs.append rt)
      · simp only [hf, if_false] at p
        exact False.elim p
    | _ => exact False.elim p
  | ftup xs =>
    cases b with
    | tup ys =>
      obtain ⟨a1, vs, rfl, ha, rs⟩ := RV.ftup' ra
      obtain ⟨b1, ws, rfl, hb, rt⟩ := RV.tup' rb
      by_cases hf : (fits (xs.length + ys.length) && !xs.isEmpty && !ys.isEmpty) = true
      · simp only [hf, if_true] at p
        rw [Bool.and_eq_true, Bool.and_eq_true] at hf
        refine .inr (.inr (.inl ⟨a1, b1, vs, ws, rfl, rfl, ha, SqT.of hb, ?_, ?_, ?_, ?_⟩))
        · rw [rs.length, rt.length]
          exact fits_le hf.1.1
        · intro e
          subst e
          cases rs
          cases hf.1.2
        · intro _ e
          subst e
          cases rt
          cases hf.2
        · intro _ _
          exact p.tup rp (rs.append rt)
      · simp only [hf] at p
        exact False.elim p
    | ftup ys =>
      obtain ⟨a1, vs, rfl, ha, rs⟩ := RV.ftup' ra
      obtain ⟨b1, ws, rfl, hb, rt⟩ := RV.ftup' rb
      by_cases hf : (fits (xs.length + ys.length) && !xs.isEmpty && !ys.isEmpty) = true
      · simp only [hf, if_true] at p
        rw [Bool.and_eq_true, Bool.and_eq_true] at hf
        refine .inr (.inr (.inl ⟨a1, b1, vs, ws, rfl, rfl, ha, hb, ?_, ?_, ?_, ?_⟩))
        · rw [rs.length, rt.length]
          exact fits_le hf.1.1
        · intro e
          subst e
          cases rs
          cases hf.1.2
        · intro _ e
          subst e
          cases rt
          cases hf.2
        · intro _ _
          exact p.tup rp (rs.append rt)
      · simp only [hf] at p
        exact False.elim p
    | _ => exact False.elim p
  | loc i =>
    cases b with
    | loc j =>
      obtain ⟨rfl, hi⟩ := RV.loc' ra
      obtain ⟨rfl, hj⟩ := RV.loc' rb
      cases qi : h[i]? with
      | none => simp only [qi] at p; exact False.elim p
      | some oi =>
        cases qj : h[j]? with
        | none => simp only [qi, qj] at p; cases oi <;> exact False.elim p
        | some oj =>
          cases oi with
          | lst xs =>
            cases oj with
            | lst ys =>
              simp only [qi, qj] at p
              obtain ⟨vs, ha, rs⟩ := list_at rp qi
              obtain ⟨ws, hb, rt⟩ := list_at rp qj
              by_cases hf : fits (xs.length + ys.length) = true
              · simp only [hf, if_true] at p
                refine .inr (.inr (.inr ⟨_, _, vs, ws, rfl, rfl, ha, hb, ?_, p.lst rp (rs.append rt)⟩))
                rw [rs.length, rt.length]
                exact fits_le hf
              · simp only [hf, if_false] at p
                exact False.elim p
            | _ => simp only [qi, qj] at p; exact False.elim p
          | _ => simp only [qi, qj] at p; exact False.elim p
    | _ => exact False.elim p
  | _ => exact False.elim p
def oInt2 (g : Int → Int → Option Val) : Val → Val → Store → OR := fun a b h => match a, b with
  | .int i, .int j => (g i j).map fun x => (x, h)
  | _, _ => none
theorem f_int2 {g : Int → Int → Option Val} {r : R2} (hr : ∀ i j x H (Q : VK), g i j = some x → (∀ v, (∃ S, RV K S v x) → Q v H) → r (.int i) (.int j) H Q) (hs : ∀ i j x, g i j = some x → (∃ k, x = .int k) ∨ ∃ k, x = .bl k) : Op2 K C (oInt2 g) r := by
  intro S h x y a b Q rp ra rb p
  unfold oInt2 at p
  cases a with
  | int i =>
    cases b with
    | int j =>
      rw [RV.int' ra, RV.int' rb]
      cases q : g i j with
      | none => simp only [q] at p; exact False.elim p
      | some z =>
        simp only [q] at p
        refine hr i j z S.H Q q fun v hv => ?_
        rcases hs i j z q with ⟨k, rfl⟩ | ⟨k, rfl⟩
        · obtain ⟨S', r'⟩ := hv
          rw [RV.int' r']
          exact PO.here p rp (.int k)
        · obtain ⟨S', r'⟩ := hv
          rw [RV.bl' r']
          exact PO.here p rp (.bl k)
    | _ => exact False.elim p
  | _ => exact False.elim p
theorem f_intI {c : Int → Int → Bool} {P : Int → Int → Prop} {g : Int → Int → Int} (hc : ∀ i j, c i j = true → P i j) : Op2 K C (oInt2 fun i j => if c i j then some (.int (g i j)) else none) (rI P fun i j => .int (g i j)) :=
  f_int2 (fun i j x H Q e k => by
    by_cases q : c i j = true
    · simp only [q, if_true] at e
      cases e
      exact ⟨i, j, rfl, rfl, hc i j q, k _ ⟨⟨fun _ => 0, 0, H⟩, .int _⟩⟩
    · simp only [q, if_false] at e
      cases e) (fun i j x e => by
    by_cases q : c i j = true
    · simp only [q, if_true] at e
      cases e
      exact .inl ⟨_, rfl⟩
    · simp only [q, if_false] at e
      cases e)
theorem f_intI0 {g : Int → Int → Int} : Op2 K C (oInt2 fun i j => some (.int (g i j))) (rI0 fun i j => .int (g i j)) :=
  f_int2 (fun i j x H Q e k => by cases e; exact ⟨i, j, rfl, rfl, k _ ⟨⟨fun _ => 0, 0, H⟩, .int _⟩⟩) (fun i j x e => by cases e; exact .inl ⟨_, rfl⟩)
theorem f_intB {g : Int → Int → Bool} : Op2 K C (oInt2 fun i j => some (.bl (g i j))) (rI0 fun i j => .bl (g i j)) :=
  f_int2 (fun i j x H Q e k => by cases e; exact ⟨i, j, rfl, rfl, k _ ⟨⟨fun _ => 0, 0, H⟩, .bl _⟩⟩) (fun i j x e => by cases e; exact .inr ⟨_, rfl⟩)
end
def oSub := oInt2 fun i j => some (.int (i - j))
theorem f_sub {K : PySem.W.Frag} {C : CTb} : Op2 K C oSub (rI0 fun i j => .int (i - j)) := f_intI0
/-- the bits of both factors -/
def cMul (i j : Int) : Bool := (Nat.blt i.natAbs 18446744073709551616 || Nat.blt j.natAbs 18446744073709551616) || Nat.blt (i.natAbs.log2 + j.natAbs.log2) 1000000
theorem log2_big {n : Nat} (h : n < 18446744073709551616) : n.log2 < 64 := by
  by_cases h0 : n = 0
  · subst h0; decide
  · exact (Nat.log2_lt h0).2 h
def oMul : Val → Val → Store → OR := fun a b h => match a, b with
  | .int i, .int j => if cMul i j then some (.int (i * j), h) else none
  | .loc l, .int k => match h[l]? with
    | some (.lst xs) => if (0 ≤ k ∧ k ≤ 16777216) ∧ fits (xs.length * k.toNat) then some (.loc h.length, h ++ [.lst (List.replicate k.toNat xs).flatten]) else none
    | _ => none
  | _, _ => none
def rMulAll : R2 := fun x y H Q => rI CMul (fun i j => .int (i * j)) x y H Q ∨ (rI CMulW (fun i j => .int (i * j)) x y H Q ∨ rRep x y H Q)
theorem op_mulAll {X : Cx} : OpR X (binaryOp .Mult) rMulAll := op_mul.or (op_mulW.or op_rep)
theorem RVs.rep {K : PySem.W.Frag} {S : Sg} {vs : List V} {xs : List Val} (r : RVs K S vs xs) : ∀ n : Nat, RVs K S (List.replicate n vs).flatten (List.replicate n xs).flatten
  | 0 => .nil
  | n + 1 => by
    rw [List.replicate_succ, List.replicate_succ, List.flatten_cons, List.flatten_cons]
    exact r.append (RVs.rep r n)
theorem f_mul {K : PySem.W.Frag} {C : CTb} : Op2 K C oMul rMulAll := by
  intro S h x y a b Q rp ra rb p
  unfold oMul at p
  cases a with
  | int i =>
    cases b with
    | int j =>
      rw [RV.int' ra, RV.int' rb]
      by_cases q : cMul i j = true
      · simp only [q, if_true] at p
        have hq := p.here rp (.int _)
        unfold cMul at q
        rw [Bool.or_eq_true, Bool.or_eq_true] at q
        rcases q with (q | q) | q
        · have q' : i.natAbs < 18446744073709551616 := by simpa [Nat.blt_eq] using q
          exact .inl ⟨i, j, rfl, rfl, .inl ⟨by omega, by omega⟩, hq⟩
        · have q' : j.natAbs < 18446744073709551616 := by simpa [Nat.blt_eq] using q
          exact .inl ⟨i, j, rfl, rfl, .inr ⟨by omega, by omega⟩, hq⟩
        · have q' : i.natAbs.log2 + j.natAbs.log2 < 1000000 := by simpa [Nat.blt_eq] using q
          exact .inr (.inl ⟨i, j, rfl, rfl, q', hq⟩)
      · simp only [q, if_false] at p
        exact False.elim p
    | _ => exact False.elim p
  | loc l =>
    cases b with
    | int k =>
      obtain ⟨rfl, hi⟩ := RV.loc' ra
      rw [RV.int' rb]
      cases qi : h[l]? with
      | none => simp only [qi] at p; exact False.elim p
      | some oi =>
        cases oi with
        | lst xs =>
          simp only [qi] at p
          obtain ⟨vs, ha, rs⟩ := list_at rp qi
          by_cases hf : (0 ≤ k ∧ k ≤ 16777216) ∧ fits (xs.length * k.toNat) = true
          · rw [if_pos hf] at p
            obtain ⟨⟨h0, h1⟩, h2⟩ := hf
            refine .inr (.inr ⟨_, k, vs, rfl, rfl, ha, by omega, by omega, ?_, p.lst rp (rs.rep _)⟩)
            rw [rs.length]
            exact fits_le h2
          · rw [if_neg hf] at p
            exact False.elim p
        | _ => simp only [qi] at p; exact False.elim p
    | _ => exact False.elim p
  | _ => exact False.elim p
def oMod := oInt2 fun i j => if decide (0 < j) then some (.int (i % j)) else none
theorem f_mod {K : PySem.W.Frag} {C : CTb} : Op2 K C oMod (rI (fun _ j => 0 < j) fun i j => .int (i % j)) := f_intI (c := fun _ j => decide (0 < j)) (P := fun _ j => 0 < j) fun i j q => of_decide_eq_true q
def cDiv (_i j : Int) : Bool := decide (0 < j) && Nat.blt j.natAbs.log2 9000
theorem cDiv_ok (i j : Int) (q : cDiv i j = true) : CDivW i j := by
  unfold cDiv at q
  rw [Bool.and_eq_true] at q
  exact ⟨of_decide_eq_true q.1, by simpa [Nat.blt_eq] using q.2⟩
def oFdiv := oInt2 fun i j => if cDiv i j then some (.int (i / j)) else none
theorem f_fdiv {K : PySem.W.Frag} {C : CTb} : Op2 K C oFdiv (rI CDivW fun i j => .int (i / j)) := f_intI cDiv_ok
def cPow (i j : Int) : Bool := decide (0 ≤ j) && decide (j ≤ 1000000) && Nat.blt i.natAbs 18446744073709551616
def oPow := oInt2 fun i j => if cPow i j then some (.int (i ^ j.toNat)) else none
theorem f_pow {K : PySem.W.Frag} {C : CTb} : Op2 K C oPow (rI CPow fun i j => .int (i ^ j.toNat)) := f_intI fun i j q => by
  unfold cPow at q
  rw [Bool.and_eq_true, Bool.and_eq_true] at q
  exact ⟨of_decide_eq_true q.1.1, of_decide_eq_true q.1.2, by simpa [Nat.blt_eq] using q.2⟩
def oLt := oInt2 fun i j => some (.bl (decide (i < j)))
def oLe := oInt2 fun i j => some (.bl (decide (i ≤ j)))
def oGt := oInt2 fun i j => some (.bl (decide (j < i)))
def oGe := oInt2 fun i j => some (.bl (decide (j ≤ i)))
def oNeg : Val → Store → OR := fun a h => match a with
  | .int i => some (.int (-i), h)
  | _ => none
theorem f_neg {K : PySem.W.Frag} {C : CTb} : Op1 K C oNeg (rU fun i => .int (-i)) := by
  intro S h x a Q rp ra p
  cases a with
  | int i => rw [RV.int' ra]; exact ⟨i, rfl, p.here rp (.int _)⟩
  | _ => exact False.elim p
section
variable {K : PySem.W.Frag} {C : CTb}
def oEq : Val → Val → Store → OR := fun a b h => match toD h deep a, toD h deep b with
  | some d, some e => some (.bl (PyData.eqv d e), h)
  | _, _ => none
def oNe : Val → Val → Store → OR := fun a b h => match toD h deep a, toD h deep b with
  | some d, some e => some (.bl (!PyData.eqv d e), h)
  | _, _ => none
theorem f_eq : Op2 K C oEq (rEqD K) := by
  intro S h x y a b Q rp ra rb p
  unfold oEq at p
  cases q1 : toD h deep a with
  | none => rw [q1] at p; exact False.elim p
  | some d =>
    cases q2 : toD h deep b with
    | none => rw [q1, q2] at p; exact False.elim p
    | some e =>
      rw [q1, q2] at p
      obtain ⟨a1, a2⟩ := toD_shaped rp ra q1
      obtain ⟨b1, b2⟩ := toD_shaped rp rb q2
      exact ⟨d, e, a1, b1, a2, b2, PO.here p rp (.bl _)⟩
theorem f_ne : Op2 K C oNe (rNeD K) := by
  intro S h x y a b Q rp ra rb p
  unfold oNe at p
  cases q1 : toD h deep a with
  | none => rw [q1] at p; exact False.elim p
  | some d =>
    cases q2 : toD h deep b with
    | none => rw [q1, q2] at p; exact False.elim p
    | some e =>
      rw [q1, q2] at p
      obtain ⟨a1, a2⟩ := toD_shaped rp ra q1
      obtain ⟨b1, b2⟩ := toD_shaped rp rb q2
      exact ⟨d, e, a1, b1, a2, b2, PO.here p rp (.bl _)⟩
def isNon : Val → Bool
  | .non => true
  | _ => false
def oIsN : Val → Val → Store → OR := fun a b h => match b with
  | .non => some (.bl (isNon a), h)
  | _ => none
def oNotN : Val → Val → Store → OR := fun a b h => match b with
  | .non => some (.bl (!isNon a), h)
  | _ => none
theorem atI_rv {S : Sg} {vs : List V} {xs : List Val} {i : Int} {x : Val} (r : RVs K S vs xs) (e : atI xs i = some x) : ∃ v, atI vs i = some v ∧ RV K S v x := by
  unfold atI at e ⊢
  rw [r.length]
  cases q : ixN xs.length i with
  | none => rw [q] at e; cases e
  | some j =>
    rw [q] at e
    exact r.get e
def oIx : Val → Val → Store → OR := fun a b h => match a, b with
  | .tup xs, .int i => (atI xs i).map fun x => (x, h)
  | .wtup xs, .int i => (atI xs i).map fun x => (x, h)
  | .ftup xs, .int i => (atI xs i).map fun x => (x, h)
  | .ro xs, .int i => (atI xs i).map fun x => (x, h)
  | .loc l, .int i => match h[l]? with
    | some (.lst xs) => (atI xs i).map fun x => (x, h)
    | _ => none
  | _, _ => none
theorem f_ix : Op2 K C oIx (rIx K) := by
  intro S h x y a b Q rp ra rb p
  unfold oIx at p
  cases a with
  | tup xs =>
    cases b with
    | int i =>
      obtain ⟨a1, vs, rfl, ha, rs⟩ := RV.tup' ra
      rw [RV.int' rb]
      cases q : atI xs i with
      | none => simp only [q] at p; exact False.elim p
      | some z =>
        simp only [q] at p
        obtain ⟨v, e1, e2⟩ := atI_rv rs q
        exact .inr (.inl ⟨a1, vs, i, v, rfl, rfl, SqT.of ha, e1, PO.here p rp e2⟩)
    | _ => exact False.elim p
  | wtup xs =>
    cases b with
    | int i =>
      obtain ⟨a1, vs, rfl, ha, rs⟩ := RV.wtup' ra
      rw [RV.int' rb]
      cases q : atI xs i with
      | none => simp only [q] at p; exact False.elim p
      | some z =>
        simp only [q] at p
        obtain ⟨v, e1, e2⟩ := atI_rv rs q
        exact .inr (.inl ⟨a1, vs, i, v, rfl, rfl, ha, e1, PO.here p rp e2⟩)
    | _ => exact False.elim p
  | ftup xs =>
    cases b with
    | int i =>
      obtain ⟨a1, vs, rfl, ha, rs⟩ := RV.ftup' ra
      rw [RV.int' rb]
      cases q : atI xs i with
      | none => simp only [q] at p; exact False.elim p
      | some z =>
        simp only [q] at p
        obtain ⟨v, e1, e2⟩ := atI_rv rs q
        exact .inr (.inl ⟨a1, vs, i, v, rfl, rfl, ha, e1, PO.here p rp e2⟩)
    | _ => exact False.elim p
  | ro xs =>
    cases b with
    | int i =>
      obtain ⟨a1, vs, rfl, ha, rs⟩ := RV.ro' ra
      rw [RV.int' rb]
      cases q : atI xs i with
      | none => simp only [q] at p; exact False.elim p
      | some z =>
        simp only [q] at p
        obtain ⟨v, e1, e2⟩ := atI_rv rs q
        exact .inl ⟨a1, vs, i, v, rfl, rfl, ha, e1, PO.here p rp e2⟩
    | _ => exact False.elim p
  | loc l =>
    cases b with
    | int i =>
      obtain ⟨rfl, hi⟩ := RV.loc' ra
      rw [RV.int' rb]
      cases qi : h[l]? with
      | none => simp only [qi] at p; exact False.elim p
      | some oi =>
        cases oi with
        | lst xs =>
          simp only [qi] at p
          obtain ⟨vs, ha, rs⟩ := list_at rp qi
          cases q : atI xs i with
          | none => simp only [q] at p; exact False.elim p
          | some z =>
            simp only [q] at p
            obtain ⟨v, e1, e2⟩ := atI_rv rs q
            exact .inl ⟨_, vs, i, v, rfl, rfl, SqL.of ha, e1, PO.here p rp e2⟩
        | _ => simp only [qi] at p; exact False.elim p
    | _ => exact False.elim p
  | _ => exact False.elim p
end
section
variable {X : Cx} {C : CTb} {xi : XI} {W : WX} {a b : Expr} {fa fb : FE} {pos : Pos}
theorem xe_add (ha : PE X a (rE X.K C xi W fa)) (hb : PE X b (rE X.K C xi W fb)) : PE X (.BinOp a .Add b pos) (rE X.K C xi W (fBin oAdd fa fb)) := xe_bin op_addAll f_add ha hb
theorem xe_sub (ha : PE X a (rE X.K C xi W fa)) (hb : PE X b (rE X.K C xi W fb)) : PE X (.BinOp a .Sub b pos) (rE X.K C xi W (fBin oSub fa fb)) := xe_bin op_sub f_sub ha hb
theorem xe_mul (ha : PE X a (rE X.K C xi W fa)) (hb : PE X b (rE X.K C xi W fb)) : PE X (.BinOp a .Mult b pos) (rE X.K C xi W (fBin oMul fa fb)) := xe_bin op_mulAll f_mul ha hb
theorem xe_mod (ha : PE X a (rE X.K C xi W fa)) (hb : PE X b (rE X.K C xi W fb)) : PE X (.BinOp a .Mod b pos) (rE X.K C xi W (fBin oMod fa fb)) := xe_bin op_mod f_mod ha hb
theorem xe_fdiv (ha : PE X a (rE X.K C xi W fa)) (hb : PE X b (rE X.K C xi W fb)) : PE X (.BinOp a .FloorDiv b pos) (rE X.K C xi W (fBin oFdiv fa fb)) := xe_bin op_fdivW f_fdiv ha hb
theorem xe_pow (ha : PE X a (rE X.K C xi W fa)) (hb : PE X b (rE X.K C xi W fb)) : PE X (.BinOp a .Pow b pos) (rE X.K C xi W (fBin oPow fa fb)) := xe_bin op_pow f_pow ha hb
theorem xe_neg (ha : PE X a (rE X.K C xi W fa)) : PE X (.UnaryOp .USub a pos) (rE X.K C xi W (fUn oNeg fa)) := xe_un un_neg f_neg ha
/-- an operation of comparison: its function, its rule -/
structure CmpOk (X : Cx) (C : CTb) (op : CmpOp) (g : Val → Val → Store → OR) : Prop where
  ok : ∃ r : R2, OpR X (compareOp op) r ∧ Op2 X.K C g r
theorem xe_cmpO {op : CmpOp} {g : Val → Val → Store → OR} (o : CmpOk X C op g) (ha : PE X a (rE X.K C xi W fa)) (hb : PE X b (rE X.K C xi W fb)) (hm : behindInMarks op b = false := by first | exact nomark _ | rfl) : PE X (.Compare a [op] [b] pos) (rE X.K C xi W (fBin g fa fb)) := by
  obtain ⟨r, h1, h2⟩ := o.ok
  exact xe_cmp h1 h2 ha hb hm
theorem c_lt : CmpOk X C .Lt oLt := ⟨_, op_lt, f_intB⟩
theorem c_le : CmpOk X C .LtE oLe := ⟨_, op_le, f_intB⟩
theorem c_gt : CmpOk X C .Gt oGt := ⟨_, op_gt, f_intB⟩
theorem c_ge : CmpOk X C .GtE oGe := ⟨_, op_ge, f_intB⟩
theorem c_eq (hu : X.A.units + 64 < cLine) : CmpOk X C .Eq oEq := ⟨_, op_eqD hu, f_eq⟩
theorem c_ne (hu : X.A.units + 64 < cLine) : CmpOk X C .NotEq oNe := ⟨_, op_neD hu, f_ne⟩
theorem xe_ix (ha : PE X a (rE X.K C xi W fa)) (hb : PE X b (rE X.K C xi W fb)) (hs : PlainIx b := by intro _ _; rfl) : PE X (.Subscript a b pos) (rE X.K C xi W (fBin oIx fa fb)) :=
  PE_mono (pe_ix ix_seq ha hb hs) fun _ _ _ q => bin_go f_ix q
/-! ### displays -/
def fTup (f : FA) : FE := fun e h => (f e h).bind fun xs h1 => if fits xs.length then .ok (.tup xs) h1 else .stuck
def fLst (f : FA) : FE := fun e h => (f e h).bind fun xs h1 => if fits xs.length then .ok (.loc h1.length) (h1 ++ [.lst xs]) else .stuck
variable {es : List Expr} {fs : FA}
theorem xe_tup {k : Nat} (ha : PA X es (rA X.K C xi W fs)) : PE X (.Tuple es k pos) (rE X.K C xi W (fTup fs)) := by
  refine PE_mono (pe_tup ha) ?_
  rintro σ H Q ⟨S, e, h, rfl, rp, re, p⟩
  refine ⟨S, e, h, rfl, rp, re, (PL.bind re p).imp ?_⟩
  rintro vs H1 ⟨S1, xs, h1, rfl, l1, rp1, re1, rv1, p1⟩
  by_cases hf : fits xs.length = true
  · simp only [hf, if_true] at p1
    exact ⟨by rw [rv1.length]; exact fits_le hf, PO.tup p1 rp1 rv1⟩
  · simp only [hf, if_false] at p1
    exact False.elim p1
theorem xe_lst (ha : PA X es (rA X.K C xi W fs)) : PE X (.List es pos) (rE X.K C xi W (fLst fs)) := by
  refine PE_mono (pe_lst ha) ?_
  rintro σ H Q ⟨S, e, h, rfl, rp, re, p⟩
  refine ⟨S, e, h, rfl, rp, re, (PL.bind re p).imp ?_⟩
  rintro vs H1 ⟨S1, xs, h1, rfl, l1, rp1, re1, rv1, p1⟩
  by_cases hf : fits xs.length = true
  · simp only [hf, if_true] at p1
    exact ⟨by rw [rv1.length]; exact fits_le hf, PO.lst p1 rp1 rv1⟩
  · simp only [hf, if_false] at p1
    exact False.elim p1
end
end Fn
end
section
namespace Fn
open PySem PySem.Spec PyProof.Rows L2
/-! ## statements -/
def RS.ofE (r : R Val) (k : Val → Store → RS) (e : Env) : RS := match r with
  | .ok x h => k x h
  | .exc c w h => .exc c w e h
  | .stuck => .stuck
@[simp] theorem RS.ofE_ok (x : Val) (h : Store) (k : Val → Store → RS) (e : Env) : RS.ofE (.ok x h) k e = k x h := rfl
def RS.ofB (r : R Bool) (k : Bool → Store → RS) (e : Env) : RS := match r with
  | .ok x h => k x h
  | .exc c w h => .exc c w e h
  | .stuck => .stuck
@[simp] theorem RS.ofB_ok (x : Bool) (h : Store) (k : Bool → Store → RS) (e : Env) : RS.ofB (.ok x h) k e = k x h := rfl
def RS.ofL (r : R (List Val)) (k : List Val → Store → RS) (e : Env) : RS := match r with
  | .ok x h => k x h
  | .exc c w h => .exc c w e h
  | .stuck => .stuck
@[simp] theorem RS.ofL_ok (x : List Val) (h : Store) (k : List Val → Store → RS) (e : Env) : RS.ofL (.ok x h) k e = k x h := rfl
def RS.only (r : RS) : RS := match r with
  | .next e h => .next e h
  | .exc c w e h => .exc c w e h
  | _ => .stuck
@[simp] theorem RS.only_next (e : Env) (h : Store) : (RS.next e h).only = .next e h := rfl
section
variable {K : PySem.W.Frag} {C : CTb} {xi : XI} {W : WX} {S S1 : Sg} {σ : L2.St} {D : Ends} {e : Env}
theorem PSt.ofE {r : R Val} {k : Val → Store → RS} (re : REnv K xi S σ e) (p : PSt K C xi W S (RS.ofE r k e) D) :
    PV K C W S σ r (fun v H1 => ∃ S1 x h1, S1.H = H1 ∧ Le S S1 ∧ Rep K C S1 h1 ∧ REnv K xi S1 σ e ∧ RV K S1 v x ∧ PSt K C xi W S1 (k x h1) D) := by
  cases r with
  | ok x h => exact fun S' v l rp rv => ⟨S', x, h, rfl, l, rp, re.mono l, rv, PSt.mono l p⟩
  | exc c w h => exact fun S' d wv l rp hd rv => p S' σ d wv l rp (re.mono l) hd rv
  | stuck => exact p
theorem PSt.ofB {r : R Bool} {k : Bool → Store → RS} (re : REnv K xi S σ e) (p : PSt K C xi W S (RS.ofB r k e) D) :
    PB K C W S σ r (fun b H1 => ∃ S1 h1, S1.H = H1 ∧ Le S S1 ∧ Rep K C S1 h1 ∧ REnv K xi S1 σ e ∧ PSt K C xi W S1 (k b h1) D) := by
  cases r with
  | ok x h => exact fun S' l rp => ⟨S', h, rfl, l, rp, re.mono l, PSt.mono l p⟩
  | exc c w h => exact fun S' d wv l rp hd rv => p S' σ d wv l rp (re.mono l) hd rv
  | stuck => exact p
theorem PSt.ofL {r : R (List Val)} {k : List Val → Store → RS} (re : REnv K xi S σ e) (p : PSt K C xi W S (RS.ofL r k e) D) :
    PL K C W S σ r (fun vs H1 => ∃ S1 xs h1, S1.H = H1 ∧ Le S S1 ∧ Rep K C S1 h1 ∧ REnv K xi S1 σ e ∧ RVs K S1 vs xs ∧ PSt K C xi W S1 (k xs h1) D) := by
  cases r with
  | ok x h => exact fun S' v l rp rv => ⟨S', x, h, rfl, l, rp, re.mono l, rv, PSt.mono l p⟩
  | exc c w h => exact fun S' d wv l rp hd rv => p S' σ d wv l rp (re.mono l) hd rv
  | stuck => exact p
theorem PSt.only {r : RS} (p : PSt K C xi W S r.only D) : PSt K C xi W S r { nx := D.nx, rt := fun _ _ => False } := by
  cases r with
  | next e h => exact p
  | exc c w e h => exact p
  | ret v h => exact False.elim p
  | brk e h => exact False.elim p
  | cont e h => exact False.elim p
  | stuck => exact p
end
abbrev FG := Val → Env → Store → RS
abbrev FGs := List Val → Env → Store → RS
section
variable (K : PySem.W.Frag) (C : CTb) (xi : XI)
def rG (W : WX) (g : FG) : TG := fun v σ H Q => ∃ S e h x, S.H = H ∧ Rep K C S h ∧ REnv K xi S σ e ∧ RV K S v x ∧ PSt K C xi W S (g x e h).only { nx := Q, rt := fun _ _ => False }
def rGs (W : WX) (g : FGs) : TGs := fun vs σ H Q => ∃ S e h xs, S.H = H ∧ Rep K C S h ∧ REnv K xi S σ e ∧ RVs K S vs xs ∧ PSt K C xi W S (g xs e h).only { nx := Q, rt := fun _ _ => False }
end
theorem PG_mono {X : Cx} {e : Expr} {t t' : TG} (h : PG X e t) (k : ∀ v σ H Q, t' v σ H Q → t v σ H Q) : PG X e t' := ⟨fun pins s σ H v u Q I r q => h.run pins s σ H v u Q I r (k v σ H Q q)⟩
theorem PGs_mono {X : Cx} {e : List Expr} {t t' : TGs} (h : PGs X e t) (k : ∀ v σ H Q, t' v σ H Q → t v σ H Q) : PGs X e t' := ⟨fun pins s σ H v u Q I r q => h.run pins s σ H v u Q I r (k v σ H Q q)⟩
section
variable {X : Cx} {C : CTb} {xi : XI} {W : WX} {a b c : Expr} {st : Stmt} {rest : List Stmt} {pos : Pos} {f g : FS} {fa fb : FE}
def fNext : FS := fun e h => .next e h
def fSeq (f g : FS) : FS := fun e h => match f e h with
  | .next e1 h1 => g e1 h1
  | r => r
theorem xss_nil : PSs X [] (rS X.K C xi W fNext) := by
  refine PSs_mono pss_nil ?_
  rintro D σ H ⟨S, e, h, rfl, rp, re, p⟩
  exact p S σ (Le.refl S) rp re
theorem seq_go {K : PySem.W.Frag} {D : Ends} {σ : L2.St} {H : Hp} (q : rS K C xi W (fSeq f g) D σ H) : tSeq (rS K C xi W f) (rS K C xi W g) D σ H := by
  obtain ⟨S, e, h, rfl, rp, re, p⟩ := q
  refine ⟨S, e, h, rfl, rp, re, ?_⟩
  show PSt K C xi W S (f e h) _
  have p : PSt K C xi W S (match f e h with
    | .next e1 h1 => g e1 h1
    | r => r) D := p
  generalize f e h = q at p ⊢
  cases q with
  | next e1 h1 => exact fun S' σ' l rp1 re1 => ⟨S', e1, h1, rfl, rp1, re1, PSt.mono l p⟩
  | ret v h1 => exact p
  | brk e1 h1 => exact p
  | cont e1 h1 => exact p
  | exc c w e1 h1 => exact p
  | stuck => exact p
theorem xss_cons (h1 : PS X st (rS X.K C xi W f)) (h2 : PSs X rest (rS X.K C xi W g)) : PSs X (st :: rest) (rS X.K C xi W (fSeq f g)) :=
  PSs_mono (pss_cons h1 h2) fun _ _ _ q => seq_go q
theorem xss_one (h1 : PS X st (rS X.K C xi W f)) : PSs X [st] (rS X.K C xi W f) := pss_one h1
def fBrk : FS := fun e h => .brk e h
def fCont : FS := fun e h => .cont e h
def fDrop (f : FE) : FS := fun e h => RS.ofE (f e h) (fun _ h1 => .next e h1) e
def fRet (f : FE) : FS := fun e h => RS.ofE (f e h) (fun x h1 => .ret x h1) e
theorem xs_ret (he : PE X a (rE X.K C xi W fa)) : PS X (.Return (some a) pos) (rS X.K C xi W (fRet fa)) := by
  refine PS_mono (ps_ret he) ?_
  rintro D σ H ⟨S, e, h, rfl, rp, re, p⟩
  refine ⟨S, e, h, rfl, rp, re, (PSt.ofE re p).imp ?_⟩
  rintro v H1 ⟨S1, x, h1, rfl, l1, rp1, re1, rv1, p1⟩
  exact p1 S1 v (Le.refl S1) rp1 rv1
def fRetN : FS := fun _ h => .ret .non h
def fIfS (t : FT) (f g : FS) : FS := fun e h => RS.ofB (t e h) (fun b h1 => if b = true then f e h1 else g e h1) e
theorem xs_if {tt : FT} {l1 l2 : List Stmt} (hc : PT X c (rT X.K C xi W tt)) (ha : PSs X l1 (rS X.K C xi W f)) (hb : PSs X l2 (rS X.K C xi W g)) : PS X (.If c l1 l2 pos) (rS X.K C xi W (fIfS tt f g)) := by
  refine PS_mono (ps_if hc ha hb) ?_
  rintro D σ H ⟨S, e, h, rfl, rp, re, p⟩
  refine ⟨S, e, h, rfl, rp, re, (PSt.ofB re p).imp ?_⟩
  rintro k H1 ⟨S1, h1, rfl, l1, rp1, re1, p1⟩
  cases k with
  | true => exact ⟨S1, e, h1, rfl, rp1, re1, p1⟩
  | false => exact ⟨S1, e, h1, rfl, rp1, re1, p1⟩
/-! ### stores -/
def fSet (i : Nat) (f : FE) : FS := fun e h => RS.ofE (f e h) (fun x h1 => .next (e.set i (some x)) h1) e
theorem set_go {K : PySem.W.Frag} {i : Nat} (hi : okSlot i xi = true) {D : Ends} {σ : L2.St} {H : Hp} (q : rS K C xi W (fSet i fa) D σ H) : tAsg (rE K C xi W fa) (gName i) D σ H := by
  obtain ⟨S, e, h, rfl, rp, re, p⟩ := q
  refine ⟨S, e, h, rfl, rp, re, (PSt.ofE re p).imp ?_⟩
  rintro v H1 ⟨S1, x, h1, rfl, l1, rp1, re1, rv1, p1⟩
  exact p1 S1 _ (Le.refl S1) rp1 (re1.set i rv1 hi)
theorem xs_set (i : Nat) {x : Str} {pos' : Pos} (hN : X.N.Nodup) (he : PE X a (rE X.K C xi W fa)) (hi : X.N[i]? = some x := by rfl) (hx : Loc X.env.scope x := by first | exact Or.inl rfl | exact Or.inr rfl) (hs : swapsWith a (some (.Name x pos')) pos.line X.env = pure false := by rfl)
    (hf : X.fn x = true ∨ X.env.scope.names.lookup x = some .local := by first | exact .inl rfl | exact .inr rfl | assumption) (ho : okSlot i xi = true := by rfl) : PS X (.Assign [.Name x pos'] a pos) (rS X.K C xi W (fSet i fa)) :=
  PS_mono (ps_set hN hi hx he hs hf) fun _ _ _ q => set_go ho q
def fAsg (f : FE) (g : FG) : FS := fun e h => RS.ofE (f e h) (fun x h1 => (g x e h1).only) e
theorem xs_asg {tg : Expr} {g : FG} (he : PE X a (rE X.K C xi W fa)) (hg : PG X tg (rG X.K C xi W g)) (hs : swapsWithSole [tg] a pos.line X.env = pure false := by rfl) (hw : swappedStores [tg] a X.env = pure none := by rfl)
    (h1 : (assignEach [tg] X.env).map (·.2) = [assign tg X.env] := by rfl) : PS X (.Assign [tg] a pos) (rS X.K C xi W (fAsg fa g)) := by
  refine PS_mono (ps_asg he hg hs hw h1) ?_
  rintro D σ H ⟨S, e, h, rfl, rp, re, p⟩
  refine ⟨S, e, h, rfl, rp, re, (PSt.ofE re p).imp ?_⟩
  rintro v H1 ⟨S1, x, h1, rfl, l1, rp1, re1, rv1, p1⟩
  refine ⟨S1, e, h1, x, rfl, rp1, re1, rv1, ?_⟩
  have p2 := PSt.only p1
  generalize g x e h1 = r at p1 p2
  cases r <;> first | exact p2 | exact False.elim p1
/-- targets -/
def gNm (i : Nat) : FG := fun x e h => .next (e.set i (some x)) h
theorem xg_name (i : Nat) {x : Str} (hN : X.N.Nodup) (hi : X.N[i]? = some x := by rfl) (hx : Loc X.env.scope x := by first | exact Or.inl rfl | exact Or.inr rfl) (hf : X.fn x = true ∨ X.env.scope.names.lookup x = some .local := by first | exact .inl rfl | exact .inr rfl | assumption) (ho : okSlot i xi = true := by rfl) :
    PG X (.Name x pos) (rG X.K C xi W (gNm i)) := by
  refine PG_mono (pg_name hN hi hx hf) ?_
  rintro v σ H Q ⟨S, e, h, x, rfl, rp, re, rv, p⟩
  exact p S _ (Le.refl S) rp (re.set i rv ho)
def gsNil : FGs := fun xs e h => match xs with
  | [] => .next e h
  | _ => .stuck
def gsCons (g : FG) (gs : FGs) : FGs := fun xs e h => match xs with
  | x :: r => (match (g x e h).only with
    | .next e1 h1 => gs r e1 h1
    | q => q)
  | [] => .stuck
variable {gt : FG} {gts : FGs} {es : List Expr}
theorem xgs_nil : PGs X [] (rGs X.K C xi W gsNil) := by
  refine PGs_mono pgs_nil ?_
  rintro vs σ H Q ⟨S, e, h, xs, rfl, rp, re, rv, p⟩
  cases rv with
  | nil => exact ⟨rfl, p S _ (Le.refl S) rp re⟩
  | cons r t => exact False.elim p
theorem xgs_cons (h1 : PG X a (rG X.K C xi W gt)) (h2 : PGs X es (rGs X.K C xi W gts)) (hs : (assignEach (a :: es) X.env).map (·.2) = assign a X.env :: (assignEach es X.env).map (·.2) := by rfl) : PGs X (a :: es) (rGs X.K C xi W (gsCons gt gts)) := by
  refine PGs_mono (pgs_cons h1 h2 hs) ?_
  rintro vs σ H Q ⟨S, e, h, xs, rfl, rp, re, rv, p⟩
  cases rv with
  | nil => exact False.elim p
  | @cons v x vr xr r t =>
    refine ⟨v, vr, rfl, S, e, h, x, rfl, rp, re, r, ?_⟩
    show PSt X.K C xi W S (gt x e h).only _
    have p : PSt X.K C xi W S (match (gt x e h).only with
      | .next e1 h1 => gts xr e1 h1
      | q => q).only { nx := Q, rt := fun _ _ => False } := p
    generalize gt x e h = q at p ⊢
    cases q with
    | next e1 h1 => exact fun S' σ' l rp1 re1 => ⟨S', e1, h1, xr, rfl, rp1, re1, t.mono l, PSt.mono l p⟩
    | exc c w e1 h1 => exact p
    | ret _ _ => exact p
    | brk _ _ => exact p
    | cont _ _ => exact p
    | stuck => exact p
def gTp (n : Nat) (gs : FGs) : FG := fun x e h => match x with
  | .tup xs => if xs.length = n then gs xs e h else .stuck
  | .wtup xs => if xs.length = n then gs xs e h else .stuck
  | .ftup xs => if xs.length = n then gs xs e h else .stuck
  | _ => .stuck
theorem xg_tup {k n : Nat} (hc : X.calm = true) (h : PGs X es (rGs X.K C xi W gts)) (hn : (assignEach es X.env).length = n := by rfl) (hst : (assignEach es X.env).findIdx? (·.1) = none := by rfl) : PG X (.Tuple es k pos) (rG X.K C xi W (gTp n gts)) := by
  refine PG_mono (pg_tup hc h hn hst) ?_
  rintro v σ H Q ⟨S, e, h, x, rfl, rp, re, rv, p⟩
  cases x with
  | tup xs =>
    obtain ⟨a1, vs, rfl, ha, rs⟩ := RV.tup' rv
    by_cases hl : xs.length = n
    · simp only [gTp, hl, if_true] at p
      exact ⟨a1, vs, rfl, SqT.of ha, rs.length.trans hl, S, e, h, xs, rfl, rp, re, rs, p⟩
    · simp only [gTp, hl, if_false] at p
      exact False.elim p
  | wtup xs =>
    obtain ⟨a1, vs, rfl, ha, rs⟩ := RV.wtup' rv
    by_cases hl : xs.length = n
    · simp only [gTp, hl, if_true] at p
      exact ⟨a1, vs, rfl, ha, rs.length.trans hl, S, e, h, xs, rfl, rp, re, rs, p⟩
    · simp only [gTp, hl, if_false] at p
      exact False.elim p
  | ftup xs =>
    obtain ⟨a1, vs, rfl, ha, rs⟩ := RV.ftup' rv
    by_cases hl : xs.length = n
    · simp only [gTp, hl, if_true] at p
      exact ⟨a1, vs, rfl, ha, rs.length.trans hl, S, e, h, xs, rfl, rp, re, rs, p⟩
    · simp only [gTp, hl, if_false] at p
      exact False.elim p
  | _ => exact False.elim p
/-- o[i] = v -/
def SetOk (K : PySem.W.Frag) (C : CTb) (g : Val → Val → Val → Store → Option Store) (t : TSet) : Prop := ∀ S h o i v x y z (Q : Hp → Prop), Rep K C S h → RV K S o x → RV K S i y → RV K S v z →
  (match g x y z h with
    | some h' => ∀ S', Le S S' → Rep K C S' h' → Q S'.H
    | none => False) → t o i v S.H Q
def gSb (fo fi : FE) (g : Val → Val → Val → Store → Option Store) : FG := fun v e h => RS.ofE (fo e h) (fun o h1 => RS.ofE (fi e h1) (fun i h2 => match g o i v h2 with
  | some h3 => .next e h3
  | none => .stuck) e) e
theorem RS.only_ofE {r : R Val} {k : Val → Store → RS} {e : Env} : (RS.ofE r k e).only = RS.ofE r (fun x h => (k x h).only) e := by cases r <;> rfl
theorem xg_sub {fo fi : FE} {o i : Expr} {g : Val → Val → Val → Store → Option Store} {t : TSet} (hs : PSet X t) (hg : SetOk X.K C g t) (ho : PE X o (rE X.K C xi W fo)) (hi : PE X i (rE X.K C xi W fi))
    (ha : ∀ v, assign (.Subscript o i pos) X.env v = (do
      let ov ← holding [v] (eval o X.env)
      let iv ← holding [v, ov] (eval i X.env)
      standAt pos
      holding [v, ov, iv] (setItem ov iv v)
      release [v, ov, iv] []) := by intro _; rfl) : PG X (.Subscript o i pos) (rG X.K C xi W (gSb fo fi g)) := by
  refine PG_mono (pg_sub ho hi hs ha) ?_
  rintro v σ H Q ⟨S, e, h, x, rfl, rp, re, rv, p⟩
  unfold gSb at p
  rw [RS.only_ofE] at p
  refine ⟨S, e, h, rfl, rp, re, (PSt.ofE re p).imp ?_⟩
  rintro v1 H1 ⟨S1, x1, h1, rfl, l1, rp1, re1, rv1, p1⟩
  rw [RS.only_ofE] at p1
  refine ⟨S1, e, h1, rfl, rp1, re1, (PSt.ofE re1 p1).imp ?_⟩
  rintro v2 H2 ⟨S2, x2, h2, rfl, l2, rp2, re2, rv2, p2⟩
  refine hg S2 h2 v1 v2 v x1 x2 x _ rp2 (rv1.mono l2) rv2 (rv.mono (l1.trans l2)) ?_
  cases q : g x1 x2 x h2 with
  | none => rw [q] at p2; exact False.elim p2
  | some h3 => rw [q] at p2; exact fun S' l rp' => p2 S' σ l rp' (re2.mono l)
/-- a, b = x, y by plain local names -/
def fPar2 (i j : Nat) (f : FA) : FS := fun e h => RS.ofL (f e h) (fun xs h1 => match xs with
  | [x, y] => .next ((e.set i (some x)).set j (some y)) h1
  | _ => .stuck) e
variable {fs : FA}
theorem xs_par2 (i j : Nat) {x y : Str} {px py pt : Pos} {kt k2 pt2} (hc : X.calm = true) (hN : X.N.Nodup) (ha : PA X [a, b] (rA X.K C xi W fs)) (hi : X.N[i]? = some x := by rfl) (hj : X.N[j]? = some y := by rfl) (hij : i ≠ j := by decide)
    (hx : X.env.scope.names.lookup x = some .local := by rfl) (hy : X.env.scope.names.lookup y = some .local := by rfl) 
    (hw : swappedStores [.Tuple [.Name x px, .Name y py] kt pt] (.Tuple [a, b] k2 pt2) X.env = pure (some [x, y]) := by rfl)
    (hs : swapsWithSole [.Tuple [.Name x px, .Name y py] kt pt] (.Tuple [a, b] k2 pt2) pos.line X.env = pure false := by rfl) (o1 : okSlot i xi = true := by rfl) (o2 : okSlot j xi = true := by rfl) :
    PS X (.Assign [.Tuple [.Name x px, .Name y py] kt pt] (.Tuple [a, b] k2 pt2) pos) (rS X.K C xi W (fPar2 i j fs)) := by
  refine PS_mono (ps_par hc hN hi hj hij hx hy ha hw hs) ?_
  rintro D σ H ⟨S, e, h, rfl, rp, re, p⟩
  refine ⟨S, e, h, rfl, rp, re, (PSt.ofL re p).imp ?_⟩
  rintro vs H1 ⟨S1, xs, h1, rfl, l1, rp1, re1, rv1, p1⟩
  match xs, rv1, p1 with
  | [x, y], .cons r1 (.cons r2 .nil), p1 => exact ⟨_, _, rfl, p1 S1 _ (Le.refl S1) rp1 ((re1.set i r1 o1).set j r2 o2)⟩
def fPar3 (i j l : Nat) (f : FA) : FS := fun e h => RS.ofL (f e h) (fun xs h1 => match xs with
  | [x, y, z] => .next (((e.set i (some x)).set j (some y)).set l (some z)) h1
  | _ => .stuck) e
/-- x op= e -/
def fAug (i : Nat) (g : Val → Val → Store → OR) (f : FE) : FS := fun e h => match e[i]? with
  | some (some x) => RS.ofE (f e h) (fun y h1 => RS.ofE (R.of (g x y h1)) (fun z h2 => .next (e.set i (some z)) h2) e) e
  | _ => .stuck
/-! ### while -/
/-! ### what is walked -/
inductive Walk where
  | vals (xs : List Val) | live (l : Nat) | rev (l n : Nat)
def Walk.at (w : Walk) (h : Store) : Option (List Val) := match w with
  | .vals xs => some xs
  | .live l => match h[l]? with
    | some (.lst xs) => some xs
    | _ => none
  | .rev l n => match h[l]? with
    | some (.lst xs) => if xs.length = n then some xs.reverse else none
    | _ => none
structure WalkJ (K : PySem.W.Frag) (C : CTb) (S : Sg) (w : Walk) (J : It) : Prop where
  go : ∀ S1 h xs i x, Le S S1 → Rep K C S1 h → w.at h = some xs → xs[i]? = some x → J.go i S1.H
  stop : ∀ S1 h xs i, Le S S1 → Rep K C S1 h → w.at h = some xs → xs[i]? = none → J.stop i S1.H
  yld : ∀ S1 h xs i x v H', Le S S1 → Rep K C S1 h → w.at h = some xs → xs[i]? = some x → J.yld i S1.H v H' → ∃ S2, S2.H = H' ∧ Le S1 S2 ∧ Rep K C S2 h ∧ RV K S2 v x
abbrev FI := Env → Store → R Walk
def PI' (K : PySem.W.Frag) (C : CTb) (W : WX) (S : Sg) (σ : L2.St) (r : R Walk) (Q : It → Hp → Prop) : Prop := match r with
  | .ok w h => ∀ S' J, Le S S' → Rep K C S' h → WalkJ K C S' w J → Q J S'.H
  | .exc c w h => PX K C W S σ c w h
  | .stuck => False
def rI (K : PySem.W.Frag) (C : CTb) (xi : XI) (W : WX) (f : FI) : TI := fun σ H Q => At K C xi σ H fun S e h => PI' K C W S σ (f e h) Q
theorem PI_mono {X : Cx} {tg e : Expr} {t t' : TI} (h : PI X tg e t) (k : ∀ σ H Q, t' σ H Q → t σ H Q) : PI X tg e t' := ⟨fun pins s σ H Q I q => h.run pins s σ H Q I (k σ H Q q)⟩
theorem walk_live {K : PySem.W.Frag} {S : Sg} {l : Nat} (hl : l < S.n) : WalkJ K C S (.live l) (Itl K (S.rho l)) where
  go := fun S1 h xs i x le rp e ex => by
    have e : (match h[l]? with
      | some (.lst xs) => some xs
      | _ => none) = some xs := e
    cases q : h[l]? with
    | none => rw [q] at e; cases e
    | some o =>
      cases o with
      | lst ys =>
        rw [q] at e
        cases e
        obtain ⟨vs, ha, rs⟩ := list_at rp q
        obtain ⟨v, hv, _⟩ := rs.get ex
        rw [le.rho l hl] at ha
        exact ⟨vs, v, SqL.of ha, hv⟩
      | _ => rw [q] at e; cases e
  stop := fun S1 h xs i le rp e ex => by
    have e : (match h[l]? with
      | some (.lst xs) => some xs
      | _ => none) = some xs := e
    cases q : h[l]? with
    | none => rw [q] at e; cases e
    | some o =>
      cases o with
      | lst ys =>
        rw [q] at e
        cases e
        obtain ⟨vs, ha, rs⟩ := list_at rp q
        rw [le.rho l hl] at ha
        exact ⟨vs, SqL.of ha, by rw [rs.length]; exact List.getElem?_eq_none_iff.mp ex⟩
      | _ => rw [q] at e; cases e
  yld := fun S1 h xs i x v H' le rp e ex y => by
    have e : (match h[l]? with
      | some (.lst xs) => some xs
      | _ => none) = some xs := e
    cases q : h[l]? with
    | none => rw [q] at e; cases e
    | some o =>
      cases o with
      | lst ys =>
        rw [q] at e
        cases e
        obtain ⟨vs, ha, rs⟩ := list_at rp q
        rw [le.rho l hl] at ha
        obtain ⟨rfl, fv⟩ := y
        obtain ⟨w, hw, rw'⟩ := rs.get ex
        have ew := fv vs (SqL.of ha)
        rw [hw] at ew
        cases ew
        exact ⟨S1, rfl, Le.refl S1, rp, rw'⟩
      | _ => rw [q] at e; cases e
/-- a read list -/
theorem walk_ro {K : PySem.W.Frag} {S : Sg} {a : Addr} {vs : List V} {xs : List Val} (ha : SqF K S.H a vs) (rs : RVs K S vs xs) : WalkJ K C S (.vals xs) (Itl K a) where
  go := fun S1 h ys i x le rp e ex => by
    cases e
    obtain ⟨v, hv, _⟩ := rs.get ex
    exact ⟨vs, v, (ha.mono le.pers).sq, hv⟩
  stop := fun S1 h ys i le rp e ex => by
    cases e
    exact ⟨vs, (ha.mono le.pers).sq, by rw [rs.length]; exact List.getElem?_eq_none_iff.mp ex⟩
  yld := fun S1 h ys i x v H' le rp e ex y => by
    cases e
    obtain ⟨rfl, fv⟩ := y
    obtain ⟨w, hw, rw'⟩ := rs.get ex
    have ew := fv vs (ha.mono le.pers).sq
    rw [hw] at ew
    cases ew
    exact ⟨S1, rfl, Le.refl S1, rp, rw'.mono le⟩
theorem walk_tup {K : PySem.W.Frag} {S : Sg} {a : Addr} {vs : List V} {xs : List Val} (ha : SqT K S.H a vs) (rs : RVs K S vs xs) : WalkJ K C S (.vals xs) (Itt K a) := by
  have st : ∀ S1, Le S S1 → SqT K S1.H a vs := fun S1 le => SqT.mono le.pers ha
  exact {
  go := fun S1 h ys i x le rp e ex => by
    cases e
    obtain ⟨v, hv, _⟩ := rs.get ex
    exact ⟨vs, v, st S1 le, hv⟩
  stop := fun S1 h ys i le rp e ex => by
    cases e
    exact ⟨vs, st S1 le, by rw [rs.length]; exact List.getElem?_eq_none_iff.mp ex⟩
  yld := fun S1 h ys i x v H' le rp e ex y => by
    cases e
    obtain ⟨rfl, fv⟩ := y
    obtain ⟨w, hw, rw'⟩ := rs.get ex
    have ew := fv vs (st S1 le)
    rw [hw] at ew
    cases ew
    exact ⟨S1, rfl, Le.refl S1, rp, rw'.mono le⟩ }
/-- lo, lo + 1, .. below hi -/
def upTo (lo : Int) : Nat → List Val
  | 0 => []
  | n + 1 => .int lo :: upTo (lo + 1) n
theorem upTo_get : ∀ (n : Nat) (lo : Int) (i : Nat), (upTo lo n)[i]? = if i < n then some (.int (lo + i)) else none
  | 0, lo, i => by simp [upTo]
  | n + 1, lo, 0 => by simp [upTo]
  | n + 1, lo, i + 1 => by
    show (upTo (lo + 1) n)[i]? = _
    rw [upTo_get n (lo + 1) i]
    by_cases hi : i < n
    · rw [if_pos hi, if_pos (by omega)]
      have : lo + 1 + (i : Int) = lo + ((i + 1 : Nat) : Int) := by omega
      rw [this]
    · rw [if_neg hi, if_neg (by omega)]
theorem walk_rng {K : PySem.W.Frag} {S : Sg} {lo : Int} {n : Nat} : WalkJ K C S (.vals (upTo lo n)) (Itr lo n) where
  go := fun S1 h ys i x le rp e ex => by
    cases e
    rw [upTo_get] at ex
    by_cases hi : i < n
    · exact hi
    · rw [if_neg hi] at ex
      cases ex
  stop := fun S1 h ys i le rp e ex => by
    cases e
    rw [upTo_get] at ex
    by_cases hi : i < n
    · rw [if_pos hi] at ex
      cases ex
    · show n ≤ i
      omega
  yld := fun S1 h ys i x v H' le rp e ex y => by
    cases e
    rw [upTo_get] at ex
    obtain ⟨rfl, rfl⟩ := y
    by_cases hi : i < n
    · rw [if_pos hi] at ex
      cases ex
      exact ⟨S1, rfl, Le.refl S1, rp, .int _⟩
    · rw [if_neg hi] at ex
      cases ex
def iLst (f : FE) : FI := fun e h => (f e h).bind fun x h1 => match x with
  | .loc l => match h1[l]? with
    | some (.lst _) => .ok (.live l) h1
    | _ => .stuck
  | .ro xs => .ok (.vals xs) h1
  | _ => .stuck
def iTpl (f : FE) : FI := fun e h => (f e h).bind fun x h1 => match x with
  | .tup xs => .ok (.vals xs) h1
  | .wtup xs => .ok (.vals xs) h1
  | .ftup xs => .ok (.vals xs) h1
  | _ => .stuck
theorem PV.bindI {K : PySem.W.Frag} {S : Sg} {σ : L2.St} {e : Env} {r : R Val} {g : Val → Store → R Walk} {Q : It → Hp → Prop} (re : REnv K xi S σ e) (p : PI' K C W S σ (r.bind g) Q) :
    PV K C W S σ r (fun v H1 => ∃ S1 x h1, S1.H = H1 ∧ Le S S1 ∧ Rep K C S1 h1 ∧ REnv K xi S1 σ e ∧ RV K S1 v x ∧ PI' K C W S1 σ (g x h1) Q) := by
  cases r with
  | ok x h => exact fun S' v l rp rv => ⟨S', x, h, rfl, l, rp, re.mono l, rv, by
      have p : PI' K C W S σ (g x h) Q := p
      generalize g x h = q at p ⊢
      cases q with
      | ok w h' => exact fun S2 J l2 => p S2 J (l.trans l2)
      | exc c w h' => exact PX.mono l p
      | stuck => exact p⟩
  | exc c w h => exact p
  | stuck => exact p
theorem xi_list {tg : Expr} (ha : PE X a (rE X.K C xi W fa)) : PI X tg a (rI X.K C xi W (iLst fa)) := by
  refine PI_mono (pi_list ha) ?_
  rintro σ H Q ⟨S, e, h, rfl, rp, re, p⟩
  refine ⟨S, e, h, rfl, rp, re, (PV.bindI re p).imp ?_⟩
  rintro v H1 ⟨S1, x, h1, rfl, l1, rp1, re1, rv1, p1⟩
  cases x with
  | loc l =>
    obtain ⟨rfl, hl⟩ := RV.loc' rv1
    cases q : h1[l]? with
    | none => simp only [q] at p1; exact False.elim p1
    | some o =>
      cases o with
      | lst xs =>
        simp only [q] at p1
        obtain ⟨vs, hv, rs⟩ := list_at rp1 q
        exact ⟨_, rfl, ⟨vs, SqL.of hv⟩, p1 S1 _ (Le.refl S1) rp1 (walk_live hl)⟩
      | _ => simp only [q] at p1; exact False.elim p1
  | ro xs =>
    cases rv1 with
    | ro hf rs => exact ⟨_, rfl, ⟨_, hf.sq⟩, p1 S1 _ (Le.refl S1) rp1 (walk_ro hf rs)⟩
  | _ => exact False.elim p1
theorem xi_tup {tg : Expr} (ha : PE X a (rE X.K C xi W fa)) : PI X tg a (rI X.K C xi W (iTpl fa)) := by
  refine PI_mono (pi_tup ha) ?_
  rintro σ H Q ⟨S, e, h, rfl, rp, re, p⟩
  refine ⟨S, e, h, rfl, rp, re, (PV.bindI re p).imp ?_⟩
  rintro v H1 ⟨S1, x, h1, rfl, l1, rp1, re1, rv1, p1⟩
  cases x with
  | tup xs =>
    obtain ⟨a1, vs, rfl, ha, rs⟩ := RV.tup' rv1
    exact ⟨a1, rfl, ⟨vs, SqT.of ha⟩, p1 S1 _ (Le.refl S1) rp1 (walk_tup (SqT.of ha) rs)⟩
  | wtup xs =>
    cases rv1 with
    | wtup hw rs => exact ⟨_, rfl, ⟨_, .inr hw⟩, p1 S1 _ (Le.refl S1) rp1 (walk_tup (.inr hw) rs)⟩
  | ftup xs =>
    cases rv1 with
    | ftup hw rs => exact ⟨_, rfl, ⟨_, hw.t⟩, p1 S1 _ (Le.refl S1) rp1 (walk_tup (hw.t) rs)⟩
  | _ => exact False.elim p1
/-- range -/
def inR (i : Int) : Bool := decide (-4611686018427387904 ≤ i) && decide (i < 4611686018427387904)
theorem inR_ok {i : Int} (h : inR i = true) : -(2 ^ 62) ≤ i ∧ i < 2 ^ 62 := by
  unfold inR at h
  rw [Bool.and_eq_true] at h
  have h1 := of_decide_eq_true h.1
  have h2 := of_decide_eq_true h.2
  exact ⟨by omega, by omega⟩
def iRg1 (f : FA) : FI := fun e h => (f e h).bind fun xs h1 => match xs with
  | [.int j] => if inR j then .ok (.vals (upTo 0 j.toNat)) h1 else .stuck
  | _ => .stuck
def iRg2 (f : FA) : FI := fun e h => (f e h).bind fun xs h1 => match xs with
  | [.int i, .int j] => if inR i && inR j then .ok (.vals (upTo i (j - i).toNat)) h1 else .stuck
  | _ => .stuck
theorem PL.bindI {K : PySem.W.Frag} {S : Sg} {σ : L2.St} {e : Env} {r : R (List Val)} {g : List Val → Store → R Walk} {Q : It → Hp → Prop} (re : REnv K xi S σ e) (p : PI' K C W S σ (r.bind g) Q) :
    PL K C W S σ r (fun v H1 => ∃ S1 x h1, S1.H = H1 ∧ Le S S1 ∧ Rep K C S1 h1 ∧ REnv K xi S1 σ e ∧ RVs K S1 v x ∧ PI' K C W S1 σ (g x h1) Q) := by
  cases r with
  | ok x h => exact fun S' v l rp rv => ⟨S', x, h, rfl, l, rp, re.mono l, rv, by
      have p : PI' K C W S σ (g x h) Q := p
      generalize g x h = q at p ⊢
      cases q with
      | ok w h' => exact fun S2 J l2 => p S2 J (l.trans l2)
      | exc c w h' => exact PX.mono l p
      | stuck => exact p⟩
  | exc c w h => exact p
  | stuck => exact p
theorem xi_rg1 {tg : Expr} {p1 : Pos} (hm : X.mg "range" = none) (ha : PA X [a] (rA X.K C xi W fs)) (hg : Gl X "range" := by rfl) (hs : starEach [a] X.env = [(false, eval a X.env)] := by rfl) : PI X tg (.Call (.Name "range" p1) [a] [] pos) (rI X.K C xi W (iRg1 fs)) := by
  refine PI_mono (pi_range1 hg hm ha hs) ?_
  rintro σ H Q ⟨S, e, h, rfl, rp, re, p⟩
  refine ⟨S, e, h, rfl, rp, re, (PL.bindI re p).imp ?_⟩
  rintro vs H1 ⟨S1, xs, h1, rfl, l1, rp1, re1, rv1, p1⟩
  cases rv1 with
  | nil => exact False.elim p1
  | @cons v x vs xs r t =>
    cases t with
    | cons r2 t2 => cases x <;> exact False.elim p1
    | nil =>
      cases x with
      | int j =>
        rw [RV.int' r]
        by_cases hj : inR j = true
        · simp only [hj, if_true] at p1
          obtain ⟨a1, a2⟩ := inR_ok hj
          exact ⟨j, rfl, a1, a2, p1 S1 _ (Le.refl S1) rp1 walk_rng⟩
        · simp only [hj] at p1
          exact False.elim p1
      | _ => exact False.elim p1
theorem xi_rg2 {tg : Expr} {p1 : Pos} (hm : X.mg "range" = none) (ha : PA X [a, b] (rA X.K C xi W fs)) (hg : Gl X "range" := by rfl) (hs : starEach [a, b] X.env = [(false, eval a X.env), (false, eval b X.env)] := by rfl) (hs2 : starEach [b] X.env = [(false, eval b X.env)] := by rfl) :
    PI X tg (.Call (.Name "range" p1) [a, b] [] pos) (rI X.K C xi W (iRg2 fs)) := by
  refine PI_mono (pi_range2 hg hm ha hs hs2) ?_
  rintro σ H Q ⟨S, e, h, rfl, rp, re, p⟩
  refine ⟨S, e, h, rfl, rp, re, (PL.bindI re p).imp ?_⟩
  rintro vs H1 ⟨S1, xs, h1, rfl, l1, rp1, re1, rv1, p1⟩
  cases rv1 with
  | nil => exact False.elim p1
  | @cons v x vs xs r t =>
    cases t with
    | nil => cases x <;> exact False.elim p1
    | @cons v2 y vs2 ys r2 t2 =>
      cases t2 with
      | cons r3 t3 => cases x <;> cases y <;> exact False.elim p1
      | nil =>
        cases x with
        | int i =>
          cases y with
          | int j =>
            rw [RV.int' r, RV.int' r2]
            by_cases hj : (inR i && inR j) = true
            · simp only [hj, if_true] at p1
              rw [Bool.and_eq_true] at hj
              obtain ⟨a1, a2⟩ := inR_ok hj.1
              obtain ⟨b1, b2⟩ := inR_ok hj.2
              exact ⟨i, j, rfl, ⟨a1, a2, b1, b2⟩, p1 S1 _ (Le.refl S1) rp1 walk_rng⟩
            · simp only [hj] at p1
              exact False.elim p1
          | _ => exact False.elim p1
        | _ => exact False.elim p1
/-! ### for -/
def forGo (w : Walk) (g : FG) (f : FS) : Nat → Nat → Env → Store → RS
  | 0, _, _, _ => .stuck
  | n + 1, i, e, h => match w.at h with
    | none => .stuck
    | some xs => match xs[i]? with
      | none => .next e h
      | some x => match (g x e h).only with
        | .next e1 h1 => (match f e1 h1 with
          | .next e2 h2 => forGo w g f n (i + 1) e2 h2
          | .cont e2 h2 => forGo w g f n (i + 1) e2 h2
          | .brk e2 h2 => .next e2 h2
          | r => r)
        | r => r
def RS.ofW (r : R Walk) (k : Walk → Store → RS) (e : Env) : RS := match r with
  | .ok x h => k x h
  | .exc c w h => .exc c w e h
  | .stuck => .stuck
def fFor (it : FI) (g : FG) (f : FS) : FS := fun e h => RS.ofW (it e h) (fun w h1 => match w.at h1 with
  | none => .stuck
  | some xs => forGo w g f (xs.length + 1) 0 e h1) e
theorem PSt.ofW {K : PySem.W.Frag} {S : Sg} {σ : L2.St} {D : Ends} {e : Env} {r : R Walk} {k : Walk → Store → RS} (re : REnv K xi S σ e) (p : PSt K C xi W S (RS.ofW r k e) D) :
    PI' K C W S σ r (fun J H1 => ∃ S1 w h1, S1.H = H1 ∧ Le S S1 ∧ Rep K C S1 h1 ∧ REnv K xi S1 σ e ∧ WalkJ K C S1 w J ∧ PSt K C xi W S1 (k w h1) D) := by
  cases r with
  | ok x h => exact fun S' J l rp wj => ⟨S', x, h, rfl, l, rp, re.mono l, wj, PSt.mono l p⟩
  | exc c w h => exact fun S' d wv l rp hd rv => p S' σ d wv l rp (re.mono l) hd rv
  | stuck => exact p
theorem PI'.imp {K : PySem.W.Frag} {S : Sg} {σ : L2.St} {r : R Walk} {Q Q' : It → Hp → Prop} (p : PI' K C W S σ r Q) (k : ∀ v H, Q v H → Q' v H) : PI' K C W S σ r Q' := by
  cases r with
  | ok x h => exact fun S' J l rp wj => k _ _ (p S' J l rp wj)
  | exc c w h => exact p
  | stuck => exact p
theorem xs_for {tg iter : Expr} {body : List Stmt} {it : FI} {g : FG} (hp : PassesOwn (model X.prog X.w) X.A X.env X.xe) (hc : X.calm = true) (hi : PI X tg iter (rI X.K C xi W it)) (hg : PG X tg (rG X.K C xi W g)) (hb : PSs X body (rS X.K C xi W f))
    (hs : ∀ x, foldedSetIterable iter X.env x = pure x := by intro _; rfl) : PS X (.For tg iter body [] pos) (rS X.K C xi W (fFor it g f)) := by
  refine PS_mono (ps_for hp hc hi hg hb hs) ?_
  rintro D σ H ⟨S, e, h, rfl, rp, re, p⟩
  refine ⟨S, e, h, rfl, rp, re, (PSt.ofW re p).imp ?_⟩
  rintro J H1 ⟨S1, w, h1, rfl, l1, rp1, re1, wj, p1⟩
  cases q : w.at h1 with
  | none => simp only [q] at p1; exact False.elim p1
  | some xs =>
    simp only [q] at p1
    refine ⟨fun i m σ H => ∃ S e h, S.H = H ∧ Le S1 S ∧ Rep X.K C S h ∧ REnv X.K xi S σ e ∧ PSt X.K C xi W S (forGo w g f m i e h) D, ⟨_, S1, e, h1, rfl, Le.refl S1, rp1, re1, p1⟩, ?_⟩
    rintro i m σ2 H2 ⟨S2, e2, h2, rfl, l2, rp2, re2, p2⟩
    cases m with
    | zero => exact False.elim p2
    | succ m =>
      unfold forGo at p2
      cases q2 : w.at h2 with
      | none => simp only [q2] at p2; exact False.elim p2
      | some ys =>
        simp only [q2] at p2
        cases q3 : ys[i]? with
        | none =>
          simp only [q3] at p2
          exact .inl ⟨wj.stop S2 h2 ys i l2 rp2 q2 q3, p2 S2 σ2 (Le.refl S2) rp2 re2⟩
        | some x =>
          simp only [q3] at p2
          refine .inr ⟨wj.go S2 h2 ys i x l2 rp2 q2 q3, fun σ' H' => ∃ S e h, S.H = H' ∧ Le S1 S ∧ Rep X.K C S h ∧ REnv X.K xi S σ' e ∧ PSt X.K C xi W S (forGo w g f m (i + 1) e h) D, fun σ' H' z => ⟨m, Nat.lt_succ_self m, z⟩, fun v H' y => ?_⟩
          obtain ⟨S3, rfl, l3, rp3, rv3⟩ := wj.yld S2 h2 ys i x v H' l2 rp2 q2 q3 y
          refine ⟨S3, e2, h2, x, rfl, rp3, re2.mono l3, rv3, ?_⟩
          have p3 := PSt.mono l3 p2
          show PSt X.K C xi W S3 (g x e2 h2).only _
          generalize g x e2 h2 = r at p3 ⊢
          cases r with
          | next e4 h4 =>
            intro S4 σ4 l4 rp4 re4
            refine ⟨S4, e4, h4, rfl, rp4, re4, ?_⟩
            have p4 := PSt.mono l4 p3
            have p4 : PSt X.K C xi W S4 (match f e4 h4 with
              | .next e2 h2 => forGo w g f m (i + 1) e2 h2
              | .cont e2 h2 => forGo w g f m (i + 1) e2 h2
              | .brk e2 h2 => .next e2 h2
              | r => r) D := p4
            show PSt X.K C xi W S4 (f e4 h4) _
            have l14 : Le S1 S4 := (l2.trans l3).trans l4
            generalize f e4 h4 = r at p4 ⊢
            cases r with
            | next e5 h5 => exact fun S5 σ5 l5 rp5 re5 => ⟨S5, e5, h5, rfl, l14.trans l5, rp5, re5, PSt.mono l5 p4⟩
            | cont e5 h5 => exact fun S5 σ5 l5 rp5 re5 => ⟨S5, e5, h5, rfl, l14.trans l5, rp5, re5, PSt.mono l5 p4⟩
            | brk e5 h5 => exact p4
            | ret v h5 => exact p4
            | exc c w e5 h5 => exact p4
            | stuck => exact p4
          | exc c w e4 h4 => exact p3
          | ret v h4 => exact p3
          | brk e4 h4 => exact p3
          | cont e4 h4 => exact p3
          | stuck => exact p3
end
end Fn
end
section
namespace Fn
open PySem PySem.Spec PyProof.Rows L2
abbrev FF := List Val → Store → R Val
/-! ## defs -/
def PF (K : PySem.W.Frag) (C : CTb) (S : Sg) (r : R Val) (Q : VK) (E : XK) : Prop := match r with
  | .ok x h => ∀ S' v, Le S S' → Rep K C S' h → RV K S' v x → Q v S'.H
  | .exc c w h => ∀ S' d wv, Le S S' → Rep K C S' h → S'.H d = some (.xd [(whatS, wv)]) → RV K S' wv w → E (.ref (C c)) (some d) S'.H
  | .stuck => False
/-- what a def promises: its function -/
def spF (K : PySem.W.Frag) (C : CTb) (n : Nat) (F : FF) : Sp := fun vs H Q E => ∃ S h xs, S.H = H ∧ Rep K C S h ∧ RVs K S vs xs ∧ xs.length = n ∧ PF K C S (F xs h) Q E
/-- a body run -/
def runF (N : Nat) (f : FS) : FF := fun xs h => match f (xs.map some ++ List.replicate (N - xs.length) none) h with
  | .ret v h1 => .ok v h1
  | .next _ h1 => .ok .non h1
  | .exc c w _ h1 => .exc c w h1
  | _ => .stuck
theorem env0 {K : PySem.W.Frag} {S : Sg} {N : List Str} : ∀ {vs : List V} {xs : List Val}, RVs K S vs xs → REnv K none S (L2.start N vs) (xs.map some ++ List.replicate (N.length - xs.length) none) := fun {vs xs} r => by
  refine ⟨?_, fun i x q => ?_, True.intro⟩
  · unfold L2.start
    rw [List.length_append, List.length_append, List.length_map, List.length_map, List.length_replicate, List.length_replicate, r.length]
  · unfold L2.start
    by_cases hi : i < xs.length
    · rw [List.getElem?_append_left (by rw [List.length_map]; exact hi), List.getElem?_map] at q
      cases qx : xs[i]? with
      | none => rw [qx] at q; cases q
      | some y =>
        rw [qx] at q
        cases q
        obtain ⟨v, hv, rv⟩ := r.get qx
        refine ⟨v, ?_, rv⟩
        rw [List.getElem?_append_left (by rw [List.length_map, r.length]; exact hi), List.getElem?_map, hv]
        rfl
    · rw [List.getElem?_append_right (by rw [List.length_map]; omega), List.getElem?_replicate] at q
      by_cases hj : i - (xs.map some).length < N.length - xs.length
      · rw [if_pos hj] at q
        cases q
      · rw [if_neg hj] at q
        cases q
section
variable {P : Program} {w : World} {K : PySem.W.Frag} {mg : Str → Option Value} {base : Heap} {C : CTb}
theorem body_go {f : FS} {n : Nat} {N : List Str} {vs : List V} {H : Hp} {Q : VK} {E : XK} (h : spF K C n (runF N.length f) vs H Q E) : rS K C none (fun cls d _ H => E cls d H) f { nx := fun _ H' => Q .non H', rt := Q } (L2.start N vs) H := by
  obtain ⟨S, st, xs, rfl, rp, rv, hl, p⟩ := h
  refine ⟨S, _, st, rfl, rp, env0 rv, ?_⟩
  have p : PF K C S (match f (xs.map some ++ List.replicate (N.length - xs.length) none) st with
    | .ret v h1 => .ok v h1
    | .next _ h1 => .ok .non h1
    | .exc c w _ h1 => .exc c w h1
    | _ => .stuck) Q E := p
  show PSt K C none _ S (f (xs.map some ++ List.replicate (N.length - xs.length) none) st) _
  generalize f (xs.map some ++ List.replicate (N.length - xs.length) none) st = r at p ⊢
  cases r with
  | next e h => exact fun S' σ' l rp' re' => p S' _ l rp' .non
  | ret v h => exact p
  | exc c w e h => exact fun S' σ' d wv l rp' re' hd rv' => p S' d wv l rp' hd rv'
  | brk e h => exact False.elim p
  | cont e h => exact False.elim p
  | stuck => exact False.elim p
theorem spF_len {n : Nat} {F : FF} {ps : List Str} (hn : n = ps.length) : ∀ vs H Q E, spF K C n F vs H Q E → vs.length = ps.length := by
  rintro vs H Q E ⟨S, st, xs, rfl, rp, rv, hl, p⟩
  rw [rv.length, hl, hn]
theorem fn_ok {x qual : Str} {st : Stmt} {f : Addr} {fd : FuncData} {N ps : List Str} {k n : Nat} {b : FS} (F : L2.Fun K x qual st f fd) (S : FnScope N ps (defScope st)) (hn : n = ps.length)
    (hbody : ∀ (cdv : Value) (A : Around) (outer : List PySem.Env) (s : Shared) (H : Hp) (E : XK), Room k (A.deeper (envOfC qual (defScope st) s.heap.objs.size f cdv)) →
      PSs (cxOf (L2.CX P w) P w K mg base N qual (defScope st) f cdv A outer s H E) (defBody st) (rS K C none (fun cls d _ H => E cls d H) b)) : FnOk P w K mg base (L2.CX P w) (k + 1) f fd ps (spF K C n (runF N.length b)) :=
  F.okX S (spF_len hn) fun cdv A outer s H vs Q E hr h => ⟨_, hbody cdv A outer s H E hr, body_go h⟩
end
/-! ## calls -/
def pick {α : Type} (idx : List Nat) (l : List α) : List α := idx.filterMap fun i => l[i]?
theorem pick_vals {vs : List V} {us : List Value} (r : Vals vs us) : ∀ idx : List Nat, Vals (pick idx vs) (pick idx us)
  | [] => .nil
  | i :: idx => by
    unfold pick
    rw [List.filterMap_cons, List.filterMap_cons]
    cases q : vs[i]? with
    | none =>
      rw [Vals.none_of r q]
      exact pick_vals r idx
    | some v =>
      obtain ⟨u, hu, ru⟩ := Vals.get r q
      rw [hu]
      exact .cons ru (pick_vals r idx)
theorem pick_rv {K : PySem.W.Frag} {S : Sg} {vs : List V} {us : List Val} (r : RVs K S vs us) : ∀ idx : List Nat, RVs K S (pick idx vs) (pick idx us)
  | [] => .nil
  | i :: idx => by
    unfold pick
    rw [List.filterMap_cons, List.filterMap_cons]
    cases q : vs[i]? with
    | none =>
      have hlen := r.length
      have h2 : vs.length ≤ i := List.getElem?_eq_none_iff.mp q
      rw [List.getElem?_eq_none_iff.mpr (by omega : us.length ≤ i)]
      exact pick_rv r idx
    | some v =>
      obtain ⟨u, hu, ru⟩ := r.getR q
      rw [hu]
      exact .cons ru (pick_rv r idx)
theorem kbn {K : PySem.W.Frag} {x qual : Str} {st : Stmt} {f : Addr} {fd : FuncData} {ps : List Str} (F : L2.Fun K x qual st f fd) (n : Nat) (ks : List Str) (idx : List Nat)
    (h : ∀ (kV doc pm : Value) (an : Option Addr) (cdv ct : Value) (us ws : List Value), us.length = n → ws.length = ks.length → bindArgs (PySem.W.fnOf x qual (defArgs st) (defBody st) (defScope st) .none kV doc pm an cdv ct) ⟨us, ks.zip ws⟩ = pure (ps.zip (pick idx (us ++ ws)))) :
    KBn K fd ps n ks (fun us ws => pick idx (us ++ ws)) (fun vs zs => pick idx (vs ++ zs)) := by
  obtain ⟨oc, od, kV, doc, pm, an, cdv, ct, osl, rfl, lk, hcd⟩ := F.ex
  exact ⟨fun s us ws _ h1 h2 => .of_eq (h kV doc pm an cdv ct us ws h1 h2), fun r1 r2 => pick_vals (r1.append r2) idx⟩
def fCall (F : FF) (n : Nat) (fs : FA) : FE := fun e h => (fs e h).bind fun xs h1 => if xs.length = n then F xs h1 else .stuck
def fCallK (F : FF) (n m : Nat) (idx : List Nat) (fs fk : FA) : FE := fun e h => (fs e h).bind fun xs h1 => (fk e h1).bind fun ys h2 => if xs.length = n ∧ ys.length = m then F (pick idx (xs ++ ys)) h2 else .stuck
section
variable {X : Cx} {C : CTb} {xi : XI} {W : WX} {a : Expr} {es : List Expr} {kws : List Keyword} {fs fk : FA} {fa : FE} {k n : Nat} {f : Addr} {fd : FuncData} {ps ks : List Str} {F : FF} {x : Str} {p pos : Pos} {idx : List Nat}
theorem xk_nil : PK X [] (rA X.K C xi W fNil) := by
  have b := pk_nil (X := X)
  refine ⟨fun pos pins s σ H Q I q => b.run pos pins s σ H Q I ?_⟩
  obtain ⟨S, e, h, rfl, rp, re, p⟩ := q
  exact p S [] (Le.refl S) rp .nil
theorem xk_cons {nm : Option Str} {kpos : Pos} (ha : PE X a (rE X.K C xi W fa)) (hr : PK X kws (rA X.K C xi W fk)) : PK X (⟨nm, a, kpos⟩ :: kws) (rA X.K C xi W (fCons fa fk)) := by
  have b := pk_cons (nm := nm) (kpos := kpos) ha hr
  exact ⟨fun pos pins s σ H Q I q => b.run pos pins s σ H Q I (cons_go q)⟩
/-- the promise, from the function's answer -/
theorem sp_of {K : PySem.W.Frag} {S : Sg} {σ : L2.St} {h : Store} {vs : List V} {xs : List Val} {Q : VK} (rp : Rep K C S h) (rv : RVs K S vs xs) (hl : xs.length = n) (q : PV K C W S σ (F xs h) Q) : spF K C n F vs S.H Q (WE W σ) := by
  refine ⟨S, h, xs, rfl, rp, rv, hl, ?_⟩
  generalize F xs h = r at q ⊢
  cases r with
  | ok x h1 => exact q
  | exc c w h1 => exact q
  | stuck => exact q
theorem xe_call (G : FnOk X.prog X.w X.K X.mg X.base (L2.CX X.prog X.w) k f fd ps (spF X.K C n F)) (hr : Room k X.A) (hm : X.mg x = some (.ref f)) (hk : PySem.W.keepIn X.K (.ref f) = true) (hb : L2.Binds X.K fd ps []) (tk : Takes X W)
    (ha : PA X (a :: es) (rA X.K C xi W fs)) (hg : Gl X x := by rfl) (hdb : (x == ("__debug__" : Str)) = false := by decide) (he : starEach (a :: es) X.env = (false, eval a X.env) :: starEach es X.env := by rfl) (hpl : (backTo pos (starEach es X.env)).any (·.1) = false := by rfl) :
    PE X (.Call (.Name x p) (a :: es) [] pos) (rE X.K C xi W (fCall F n fs)) := by
  refine PE_mono (pe_callS G hr hg hm hk hb (fun σ => passAt tk σ) ha hdb he hpl) ?_
  rintro σ H Q ⟨S, e, h, rfl, rp, re, p⟩
  refine ⟨S, e, h, rfl, rp, re, (PL.bind re p).imp ?_⟩
  rintro vs H1 ⟨S1, xs, h1, rfl, l1, rp1, re1, rv1, p1⟩
  by_cases hl : xs.length = n
  · simp only [hl, if_true] at p1
    exact sp_of rp1 rv1 hl p1
  · simp only [hl, if_false] at p1
    exact False.elim p1
theorem run_kw {pins : List (Addr × Obj)} {σ : L2.St} {H : Hp} {s : Shared} {Q : VK} {us ws : List Value} {vs zs : List V} {m : Nat} (G : FnOk X.prog X.w X.K X.mg X.base (L2.CX X.prog X.w) k f fd ps (spF X.K C m F)) (hr : Room k X.A)
    (hb : KBn X.K fd ps n ks (fun us ws => pick idx (us ++ ws)) (fun vs zs => pick idx (vs ++ zs))) (tk : Takes X W) (I : Inv X pins σ H s) (r : Vals vs us) (rz : Vals zs ws) (l1 : vs.length = n) (l2 : zs.length = ks.length) (h : spF X.K C m F (pick idx (vs ++ zs)) H Q (WE W σ)) :
    wpAny (model X.prog X.w) X.A (call (.ref f) us (ks.zip ws)) (EP X pins σ Q) X.xe s := by
  have b := hb.to s us ws I.kIn (r.length.symm.trans l1) (rz.length.symm.trans l2)
  refine wpAny_call (codeAny_mono (G.run _ _ s H _ _ _ Q (WE W σ) hr I.env0 b (hb.rel r rz) h) fun res s' hq => ?_)
  cases res with
  | error e => exact passAt tk σ pins H s e s' I hq
  | ok fl =>
    cases fl with
    | ret u => exact I.after hq
    | next => exact False.elim hq
    | brk => exact False.elim hq
    | cont => exact False.elim hq
theorem xe_callK0 {m : Nat} (G : FnOk X.prog X.w X.K X.mg X.base (L2.CX X.prog X.w) k f fd ps (spF X.K C m F)) (hr : Room k X.A) (hm : X.mg x = some (.ref f)) (hk : PySem.W.keepIn X.K (.ref f) = true)
    (hb : KBn X.K fd ps 0 ks (fun us ws => pick idx (us ++ ws)) (fun vs zs => pick idx (vs ++ zs))) (hi : ∀ l : List Val, l.length = 0 + ks.length → (pick idx l).length = m) (tk : Takes X W)
    (hkw : PK X kws (rA X.K C xi W fk)) (hg : Gl X x := by rfl) (hall : (backToKw pos (keywordEach kws X.env)).all (·.1.isSome) = true := by rfl) (hks : (backToKw pos (keywordEach kws X.env)).filterMap (·.1) = ks := by rfl)
    (hdb : (x == ("__debug__" : Str)) = false := by decide) (hpl : ((backTo pos (starEach [] X.env)).any (·.1) || (backToKw pos (keywordEach kws X.env)).any (·.1.isNone)) = false := by rfl) :
    PE X (.Call (.Name x p) [] kws pos) (rE X.K C xi W (fCallK F 0 ks.length idx fNil fk)) := by
  refine ⟨fun pins s σ H Q I q => ?_⟩
  obtain ⟨S, e, h, rfl, rp, re, p⟩ := q
  refine wpAny_Call_Name_kw (ld_glob I hg hm ?_ hdb)
  refine PySem.W.callWith_KW0 (h₀ := X.base) I.ok.mod.kin hk hall ?_ hpl
  have p : PV X.K C W S σ ((fk e h).bind fun ys h2 => if ([] : List Val).length = 0 ∧ ys.length = ks.length then F (pick idx ([] ++ ys)) h2 else .stuck) Q := p
  refine thn (hkw.run pos pins s σ S.H _ I ⟨S, e, h, rfl, rp, re, PL.bind re p⟩) fun ws s2 ⟨zs, H2, I2, rz, q⟩ => ⟨I2.kIn, ?_⟩
  obtain ⟨S2, ys, h2, rfl, l2, rp2, re2, rv2, p2⟩ := q
  rw [hks]
  by_cases hl : ys.length = ks.length
  · simp only [List.length_nil, hl, and_self, if_true] at p2
    refine run_kw (us := []) (vs := []) G hr hb tk I2 .nil rz rfl (rv2.length.trans hl) (sp_of rp2 (pick_rv (.append .nil rv2) idx) (hi _ (by rw [List.length_append, hl]; rfl)) p2)
  · rw [if_neg (fun z => hl z.2)] at p2
    exact False.elim p2
/-! ### built-ins, by their names -/
def fB (g : List Val → Store → OR) (fs : FA) : FE := fun e h => (fs e h).bind fun xs h1 => R.of (g xs h1)
theorem B_go {g : List Val → Store → OR} {r : List V → Hp → VK → Prop} {K : PySem.W.Frag} (hg : OpN K C g r) {σ : L2.St} {H : Hp} {Q : VK} (q : rE K C xi W (fB g fs) σ H Q) : tCB r (rA K C xi W fs) σ H Q := by
  obtain ⟨S, e, h, rfl, rp, re, p⟩ := q
  refine ⟨S, e, h, rfl, rp, re, (PL.bind re p).imp ?_⟩
  rintro vs H1 ⟨S1, xs, h1, rfl, l1, rp1, re1, rv1, p1⟩
  exact hg S1 h1 vs xs Q rp1 rv1 (PO.of p1)
theorem xe_B {id : String} {r : List V → Hp → VK → Prop} {g : List Val → Store → OR} (hc : CallR X (.builtin id) r) (hgo : OpN X.K C g r) (hv : bootBuiltins x = some (.builtin id)) (hm : X.mg x = none) (ha : PA X (a :: es) (rA X.K C xi W fs)) (hg : Gl X x := by rfl)
    (hn : x ≠ "__name__" := by decide) (hdb : (x == ("__debug__" : Str)) = false := by decide) (he : starEach (a :: es) X.env = (false, eval a X.env) :: starEach es X.env := by rfl) (hpl : (backTo pos (starEach es X.env)).any (·.1) = false := by rfl) :
    PE X (.Call (.Name x p) (a :: es) [] pos) (rE X.K C xi W (fB g fs)) := PE_mono (pe_callB hc hg hm hv ha hn hdb he hpl) fun _ _ _ q => B_go hgo q
theorem xe_Ty {id : String} {r : List V → Hp → VK → Prop} {g : List Val → Store → OR} (hc : CallR X (.type id) r) (hgo : OpN X.K C g r) (hv : bootBuiltins x = some (.type id)) (hm : X.mg x = none) (ha : PA X (a :: es) (rA X.K C xi W fs)) (hg : Gl X x := by rfl)
    (hn : x ≠ "__name__" := by decide) (hdb : (x == ("__debug__" : Str)) = false := by decide) (he : starEach (a :: es) X.env = (false, eval a X.env) :: starEach es X.env := by rfl) (hpl : (backTo pos (starEach es X.env)).any (·.1) = false := by rfl) :
    PE X (.Call (.Name x p) (a :: es) [] pos) (rE X.K C xi W (fB g fs)) := PE_mono (pe_callTy hc hg hm hv ha hn hdb he hpl) fun _ _ _ q => B_go hgo q
end
end Fn
end
section
namespace Fn
open PySem PySem.Spec PyProof.Rows L2
/-! ## list comprehensions -/
def wipeE (e : Env) : List Nat → Env
  | [] => e
  | v :: vs => (wipeE e vs).set v none
inductive CT where
  | nm (j : Nat) | tp (js : List Nat)
def setAll : List Nat → List Val → Env → Option Env
  | [], [], e => some e
  | j :: js, x :: xs, e => setAll js xs (e.set j (some x))
  | _, _, _ => none
def ctSet (c : CT) (x : Val) (e : Env) : Option Env := match c with
  | .nm j => some (e.set j (some x))
  | .tp js => match x with
    | .tup xs => setAll js xs e
    | .wtup xs => setAll js xs e
    | .ftup xs => setAll js xs e
    | _ => none
def CT.sub (c : CT) (vs : List Nat) : Bool := match c with
  | .nm j => vs.contains j
  | .tp js => js.all fun j => vs.contains j
abbrev W0 : WX := fun _ _ _ _ => False
def fYes : FT := fun _ h => .ok true h
section
variable {X : Cx} {C : CTb} {W : WX} {a : Expr} {t : FT} {f : FE} {it : FI} {pos : Pos}
end
end Fn
end
section
namespace Fn
open PySem PySem.Spec PyProof.Rows L2
/-! ## keys -/
def asKey : Val → Option Key
  | .int i => some (.inl i)
  | .str s => some (.inr s)
  | _ => none
def asKeys : List Val → Option (List Key)
  | [] => some []
  | x :: r => match asKey x with
    | some k => (asKeys r).map (k :: ·)
    | none => none
section
variable {κ : Type} [DecidableEq κ]
def getK : List (κ × Val) → κ → Option Val
  | [], _ => none
  | (j, x) :: r, k => if j = k then some x else getK r k
def hasK (kvs : List (κ × Val)) (k : κ) : Bool := kvs.any fun kv => decide (kv.1 = k)
def setK (kvs : List (κ × Val)) (k : κ) (x : Val) : List (κ × Val) := if hasK kvs k = true then kvs.map (fun kv => if kv.1 = k then (kv.1, x) else kv) else kvs ++ [(k, x)]
def delK (kvs : List (κ × Val)) (k : κ) : List (κ × Val) := kvs.filter fun kv => decide (kv.1 ≠ k)
variable {K : PySem.W.Frag} {S : Sg}
theorem RKs.val (k : κ) : ∀ {ws : List (κ × V)} {kvs : List (κ × Val)}, RKs K S ws kvs → (∀ x, getK kvs k = some x → ∃ v, valV ws k = some v ∧ RV K S v x) ∧ (getK kvs k = none → valV ws k = none)
  | _, _, .nil => ⟨fun x e => (nomatch e), fun _ => rfl⟩
  | _, _, .cons (k := j) (v := v) (x := x) r t => by
    have ih := RKs.val k t
    unfold getK
    by_cases e : j = k
    · rw [if_pos e]
      exact ⟨fun y ey => ⟨v, valV_pos (p := (j, v)) e, by cases ey; exact r⟩, fun h => (nomatch h)⟩
    · rw [if_neg e, valV_neg (p := (j, v)) e]
      exact ih
theorem RKs.has (k : κ) : ∀ {ws : List (κ × V)} {kvs : List (κ × Val)}, RKs K S ws kvs → (ws.any fun kv => decide (kv.1 = k)) = hasK kvs k
  | _, _, .nil => rfl
  | _, _, .cons r t => by
    unfold hasK
    rw [List.any_cons, List.any_cons, RKs.has k t]
    rfl
theorem RKs.snoc {k : κ} {v : V} {x : Val} (rv : RV K S v x) : ∀ {ws : List (κ × V)} {kvs : List (κ × Val)}, RKs K S ws kvs → RKs K S (ws ++ [(k, v)]) (kvs ++ [(k, x)])
  | _, _, .nil => .cons rv .nil
  | _, _, .cons r t => .cons r (RKs.snoc rv t)
theorem RKs.repl {k : κ} {v : V} {x : Val} (rv : RV K S v x) : ∀ {ws : List (κ × V)} {kvs : List (κ × Val)}, RKs K S ws kvs → RKs K S (ws.map fun kv => if kv.1 = k then (kv.1, v) else kv) (kvs.map fun kv => if kv.1 = k then (kv.1, x) else kv)
  | _, _, .nil => .nil
  | _, _, .cons (k := j) r t => by
    rw [List.map_cons, List.map_cons]
    by_cases e : j = k
    · rw [if_pos e, if_pos e]
      exact .cons rv (RKs.repl rv t)
    · rw [if_neg e, if_neg e]
      exact .cons r (RKs.repl rv t)
theorem RKs.put {k : κ} {v : V} {x : Val} (rv : RV K S v x) {ws : List (κ × V)} {kvs : List (κ × Val)} (r : RKs K S ws kvs) : RKs K S (putK ws k v) (setK kvs k x) := by
  unfold putK setK
  rw [RKs.has k r]
  by_cases h : hasK kvs k = true
  · rw [if_pos h, if_pos h]
    exact RKs.repl rv r
  · rw [if_neg h, if_neg h]
    exact RKs.snoc rv r
theorem RKs.del (k : κ) : ∀ {ws : List (κ × V)} {kvs : List (κ × Val)}, RKs K S ws kvs → RKs K S (dropK ws k) (delK kvs k)
  | _, _, .nil => .nil
  | _, _, .cons (k := j) (v := v) (x := x) r t => by
    have ih := RKs.del k t
    unfold dropK delK at ih ⊢
    by_cases e : j = k
    · rw [List.filter_cons_of_neg (by simpa using e), List.filter_cons_of_neg (by simpa using e)]
      exact ih
    · rw [List.filter_cons_of_pos (by simpa using e), List.filter_cons_of_pos (by simpa using e)]
      exact .cons r ih
end
/-! ## d[k], k in d -/
section
variable {K : PySem.W.Frag} {C : CTb} {S : Sg} {h : Store}
theorem dK_at {i : Nat} {xs : List (Key × Val)} (rp : Rep K C S h) (e : h[i]? = some (.dK xs)) : ∃ ws, S.H (S.rho i) = some (.dK ws) ∧ RKs K S ws xs := rp.obj i _ e
theorem dT_at {i : Nat} {xs : List (List Key × Val)} (rp : Rep K C S h) (e : h[i]? = some (.dT xs)) : ∃ ws, S.H (S.rho i) = some (.dT ws) ∧ RKs K S ws xs := rp.obj i _ e
theorem DGet.z {H : Hp} {a b : Addr} {od : Obj} {kvs : List (List Key × V)} {k : List Key} (e : H a = some (.frz od (.dT kvs))) (eb : H b = some (.tup (k.map kV))) : DGet H a (.ref b) (valV kvs k) := .inr ⟨kvs, k, b, .inr ⟨od, e⟩, rfl, eb, rfl⟩
/-- what stands at the key y of the dict at l; none: no dict, no key -/
def look (h : Store) (l : Nat) (y : Val) : Option (Option Val) := match h[l]? with
  | some (.dK kvs) => (asKey y).map (getK kvs)
  | some (.dT kvs) => match y with
    | .tup xs => (asKeys xs).map (getK kvs)
    | _ => none
  | some (.zT kvs) => match y with
    | .tup xs => (asKeys xs).map (getK kvs)
    | _ => none
  | _ => none
def oDGet : Val → Val → Store → OR := fun a b h => match a with
  | .loc l => match look h l b with
    | some (some x) => some (x, h)
    | _ => none
  | _ => none
/-- x in d, x in a flat list or tuple -/
def asFlat : Val → Option V
  | .non => some .non
  | .bl b => some (.bl b)
  | .int i => some (.int i)
  | .str s => some (.str s)
  | _ => none
def asFlats : List Val → Option (List V)
  | [] => some []
  | x :: r => match asFlat x with
    | some k => (asFlats r).map (k :: ·)
    | none => none
/-- the items of a list or a tuple -/
def items (h : Store) : Val → Option (List Val)
  | .tup xs => some xs
  | .wtup xs => some xs
  | .ftup xs => some xs
  | .ro xs => some xs
  | .loc l => match h[l]? with
    | some (.lst xs) => some xs
    | _ => none
  | _ => none
theorem items_v {x : Val} {v : V} {xs : List Val} (rp : Rep K C S h) (r : RV K S v x) (e : items h x = some xs) : ∃ a vs, v = .ref a ∧ (SqL K S.H a vs ∨ SqT K S.H a vs) ∧ RVs K S vs xs := by
  cases x with
  | tup ys =>
    cases e
    obtain ⟨a, vs, rfl, ha, rs⟩ := RV.tup' r
    exact ⟨a, vs, rfl, .inr (SqT.of ha), rs⟩
  | wtup ys =>
    cases e
    obtain ⟨a, vs, rfl, ha, rs⟩ := RV.wtup' r
    exact ⟨a, vs, rfl, .inr ha, rs⟩
  | ftup ys =>
    cases e
    obtain ⟨a, vs, rfl, ha, rs⟩ := RV.ftup' r
    exact ⟨a, vs, rfl, .inr ha, rs⟩
  | ro ys =>
    cases e
    obtain ⟨a, vs, rfl, ha, rs⟩ := RV.ro' r
    exact ⟨a, vs, rfl, .inl ha, rs⟩
  | loc l =>
    obtain ⟨rfl, hl⟩ := RV.loc' r
    unfold items at e
    cases q : h[l]? with
    | none => simp [q] at e
    | some o =>
      cases o with
      | lst ys =>
        simp only [q] at e
        cases e
        obtain ⟨vs, hv, rs⟩ := list_at rp q
        exact ⟨_, vs, rfl, .inl (SqL.of hv), rs⟩
      | _ => simp [q] at e
  | _ => cases e
def oIn0 (neg : Bool) : Val → Val → Store → OR := fun a b h => match items h b with
  | some xs => match asFlat a, asFlats xs with
    | some u, some us => some (.bl (if neg then !inV u us else inV u us), h)
    | _, _ => none
  | none => match b with
    | .loc l => match look h l a with
      | some o => some (.bl (if neg then !o.isSome else o.isSome), h)
      | none => none
    | _ => none
end
section
variable {X : Cx} {C : CTb} {xi : XI} {W : WX} {a b : Expr} {fa fb : FE} {pos : Pos}
end
/-! ### o[i] = v -/
def sLst : Val → Val → Val → Store → Option Store := fun a b v h => match a, b with
  | .loc l, .int i => match h[l]? with
    | some (.lst xs) => (ixN xs.length i).map fun j => h.set l (.lst (xs.set j v))
    | _ => none
  | _, _ => none
def sDic : Val → Val → Val → Store → Option Store := fun a b v h => match a with
  | .loc l => match h[l]? with
    | some (.dK kvs) => match asKey b with
      | some k => if room kvs.length then some (h.set l (.dK (setK kvs k v))) else none
      | none => none
    | some (.dT kvs) => match b with
      | .tup xs => match asKeys xs with
        | some k => if room kvs.length then some (h.set l (.dT (setK kvs k v))) else none
        | none => none
      | _ => none
    | _ => none
  | _ => none
section
variable {K : PySem.W.Frag} {C : CTb}
theorem f_setL : SetOk K C sLst rSetL := by
  intro S h o i v x y z Q rp ro ri rv p
  unfold sLst at p
  cases x with
  | loc l =>
    obtain ⟨rfl, hl⟩ := RV.loc' ro
    cases y with
    | int k =>
      obtain rfl := RV.int' ri
      cases q : h[l]? with
      | none => simp only [q] at p
      | some ob =>
        cases ob with
        | lst xs =>
          simp only [q] at p
          obtain ⟨vs, hv, rs⟩ := list_at rp q
          cases e : ixN xs.length k with
          | none => simp [e] at p
          | some j =>
            simp only [e, Option.map_some] at p
            have l1 := rp.le_set q (.lst (vs.set j v))
            exact ⟨_, vs, k, j, rfl, rfl, hv, by rw [rs.length]; exact e, p _ l1 (rp.set q (.lst (vs.set j v)) ⟨_, upd_same, (rs.set rv j).mono l1⟩)⟩
        | _ => simp only [q] at p
    | _ => exact False.elim p
  | _ => exact False.elim p
end
section
variable {X : Cx} {C : CTb} {xi : XI} {W : WX} {o i : Expr} {fo fi : FE} {pos : Pos}
theorem xg_setL (ho : PE X o (rE X.K C xi W fo)) (hi : PE X i (rE X.K C xi W fi))
    (ha : ∀ v, assign (.Subscript o i pos) X.env v = (do
      let ov ← holding [v] (eval o X.env)
      let iv ← holding [v, ov] (eval i X.env)
      standAt pos
      holding [v, ov, iv] (setItem ov iv v)
      release [v, ov, iv] []) := by intro _; rfl) : PG X (.Subscript o i pos) (rG X.K C xi W (gSb fo fi sLst)) := xg_sub set_list f_setL ho hi ha
/-! ### new dicts -/
end
end Fn
end
section
namespace Fn
open PySem PySem.Spec PyProof.Rows L2
/-! ## sorted -/
section
variable {α : Type}
end
/-! ### the built-in -/
section
variable {X : Cx}
end
end Fn
end
section
namespace Fn
open PySem PySem.Spec PyProof.Rows L2
/-! ## built-ins and methods -/
def tI (ns : List Int) : Val := .tup (ns.map Val.int)
section
variable {K : PySem.W.Frag} {C : CTb} {S : Sg} {h : Store}
theorem RVs.mem {x : V} : ∀ {vs : List V} {xs : List Val}, RVs K S vs xs → x ∈ vs → ∃ y ∈ xs, RV K S x y
  | _, _, .cons r t, hm => by
    rcases List.mem_cons.mp hm with rfl | hm
    · exact ⟨_, List.mem_cons_self .., r⟩
    · obtain ⟨y, h1, h2⟩ := RVs.mem t hm
      exact ⟨y, List.mem_cons_of_mem _ h1, h2⟩
def newL (xs : List Val) (h : Store) : OR := some (.loc h.length, h ++ [.lst xs])
def one (g : Val → Store → OR) : List Val → Store → OR := fun xs h => match xs with
  | [x] => g x h
  | _ => none
def two (g : Val → Val → Store → OR) : List Val → Store → OR := fun xs h => match xs with
  | [x, y] => g x y h
  | _ => none
theorem f_one {g : Val → Store → OR} {r : List V → Hp → VK → Prop} (hg : ∀ S h x a (Q : VK), Rep K C S h → RV K S x a → PO K C S (g a h) Q → r [x] S.H Q) : OpN K C (one g) r := by
  intro S h vs xs Q rp rv p
  cases rv with
  | nil => exact False.elim p
  | @cons v x vs xs r1 t =>
    cases t with
    | nil => exact hg S h v x Q rp r1 p
    | cons a b => exact False.elim p
theorem f_two {g : Val → Val → Store → OR} {r : List V → Hp → VK → Prop} (hg : ∀ S h x y a b (Q : VK), Rep K C S h → RV K S x a → RV K S y b → PO K C S (g a b h) Q → r [x, y] S.H Q) : OpN K C (two g) r := by
  intro S h vs xs Q rp rv p
  cases rv with
  | nil => exact False.elim p
  | @cons v x vs xs r1 t =>
    cases t with
    | nil => exact False.elim p
    | @cons w y vs xs r2 t =>
      cases t with
      | nil => exact hg S h v w x y Q rp r1 r2 p
      | cons a b => exact False.elim p
def bInt : Val → Store → OR := fun x h => match x with
  | .int i => some (.int i, h)
  | .bl k => some (.int (if k then 1 else 0), h)
  | _ => none
def bMax2 : Val → Val → Store → OR := fun x y h => match x, y with
  | .int i, .int j => some (.int (if j > i then j else i), h)
  | _, _ => none
def bMin2 : Val → Val → Store → OR := fun x y h => match x, y with
  | .int i, .int j => some (.int (if j < i then j else i), h)
  | _, _ => none
def bLen : Val → Store → OR := fun x h => match items h x with
  | some xs => some (.int xs.length, h)
  | none => match x with
    | .str s => if fits s.length then some (.int s.length, h) else none
    | .loc l => match h[l]? with
      | some (.dK kvs) => some (.int kvs.length, h)
      | some (.dT kvs) => some (.int kvs.length, h)
      | _ => none
    | _ => none
theorem f_int : OpN K C (one bInt) (fun xs H Q => (∃ i, xs = [.int i] ∧ Q (.int i) H) ∨ ∃ k, xs = [.bl k] ∧ Q (.int (if k then 1 else 0)) H) := f_one fun S h x a Q rp r p => by
  cases a with
  | int i => rw [RV.int' r]; exact .inl ⟨i, rfl, p.here rp (.int _)⟩
  | bl i => rw [RV.bl' r]; exact .inr ⟨i, rfl, p.here rp (.int _)⟩
  | _ => exact False.elim p
theorem f_max2 : OpN K C (two bMax2) (fun xs H Q => ∃ i j, xs = [.int i, .int j] ∧ Q (.int (if j > i then j else i)) H) := f_two fun S h x y a b Q rp r1 r2 p => by
  cases a with
  | int i =>
    cases b with
    | int j => rw [RV.int' r1, RV.int' r2]; exact ⟨i, j, rfl, p.here rp (.int _)⟩
    | _ => exact False.elim p
  | _ => exact False.elim p
theorem f_min2 : OpN K C (two bMin2) (fun xs H Q => ∃ i j, xs = [.int i, .int j] ∧ Q (.int (if j < i then j else i)) H) := f_two fun S h x y a b Q rp r1 r2 p => by
  cases a with
  | int i =>
    cases b with
    | int j => rw [RV.int' r1, RV.int' r2]; exact ⟨i, j, rfl, p.here rp (.int _)⟩
    | _ => exact False.elim p
  | _ => exact False.elim p
def rLenAll (K : PySem.W.Frag) : List V → Hp → VK → Prop := fun xs H Q => (∃ x n, xs = [x] ∧ LenV K x H n ∧ Q (.int n) H) ∨ ((∃ a kvs, xs = [V.ref a] ∧ H a = some (.dK kvs) ∧ Q (.int kvs.length) H) ∨ rLenT xs H Q)
theorem call_lenAll {X : Cx} : CallR X (.builtin "len") (rLenAll X.K) := CallR.or call_len (CallR.or call_lenD call_len_dT)
theorem f_len : OpN K C (one bLen) (rLenAll K) := f_one fun S h x a Q rp r p => by
  unfold bLen at p
  cases q : items h a with
  | some xs =>
    rw [q] at p
    obtain ⟨d, vs, rfl, hd, rs⟩ := items_v rp r q
    refine .inl ⟨_, vs.length, rfl, ?_, by rw [rs.length]; exact PO.here p rp (.int _)⟩
    rcases hd with hd | hd
    · exact .inl ⟨vs, hd, rfl⟩
    · exact .inr ⟨vs, hd, rfl⟩
  | none =>
    rw [q] at p
    cases a with
    | str s =>
      rw [RV.str' r]
      by_cases hf : fits s.length = true
      · simp only [hf, if_true] at p
        exact .inl ⟨_, s.length, rfl, ⟨fits_le hf, rfl⟩, PO.here p rp (.int _)⟩
      · simp only [hf] at p
        exact False.elim p
    | loc l =>
      obtain ⟨rfl, hl⟩ := RV.loc' r
      cases q1 : h[l]? with
      | none => simp only [q1] at p; exact False.elim p
      | some ob =>
        cases ob with
        | dK kvs =>
          simp only [q1] at p
          obtain ⟨ws, hw, rs⟩ := dK_at rp q1
          exact .inr (.inl ⟨_, ws, rfl, hw, by rw [rs.length]; exact PO.here p rp (.int _)⟩)
        | dT kvs =>
          simp only [q1] at p
          obtain ⟨ws, hw, rs⟩ := dT_at rp q1
          exact .inr (.inr ⟨_, ws, rfl, hw, by rw [rs.length]; exact PO.here p rp (.int _)⟩)
        | _ => simp only [q1] at p; exact False.elim p
    | _ => exact False.elim p
end
end Fn
end
section
namespace Fn
open PySem PySem.Spec PyProof.Rows L2
/-! ## built-ins by name -/
section
variable {X : Cx} {C : CTb} {xi : XI} {W : WX} {a b c : Expr} {fa fb fc : FE} {fs : FA} {es : List Expr} {p pos : Pos}
theorem xe_int1 (hm : X.mg "int" = none) (ha : PA X [a] (rA X.K C xi W fs)) (hg : Gl X "int" := by rfl) (he : starEach (a :: []) X.env = (false, eval a X.env) :: starEach [] X.env := by rfl) :
    PE X (.Call (.Name "int" p) [a] [] pos) (rE X.K C xi W (fB (one bInt) fs)) := xe_Ty call_int1 f_int (by decide +kernel) hm ha hg (by decide) (by decide) he rfl
theorem xe_len (hm : X.mg "len" = none) (ha : PA X [a] (rA X.K C xi W fs)) (hg : Gl X "len" := by rfl) (he : starEach (a :: []) X.env = (false, eval a X.env) :: starEach [] X.env := by rfl) :
    PE X (.Call (.Name "len" p) [a] [] pos) (rE X.K C xi W (fB (one bLen) fs)) := xe_B call_lenAll f_len (by decide +kernel) hm ha hg (by decide) (by decide) he rfl
theorem xe_max2 (hc : X.calm = true) (hm : X.mg "max" = none) (ha : PA X [a, b] (rA X.K C xi W fs)) (hg : Gl X "max" := by rfl) (he : starEach (a :: [b]) X.env = (false, eval a X.env) :: starEach [b] X.env := by rfl) (hpl : (backTo pos (starEach [b] X.env)).any (·.1) = false := by rfl) :
    PE X (.Call (.Name "max" p) [a, b] [] pos) (rE X.K C xi W (fB (two bMax2) fs)) := xe_B (call_max2 hc) f_max2 (by decide +kernel) hm ha hg (by decide) (by decide) he hpl
theorem xe_min2 (hc : X.calm = true) (hm : X.mg "min" = none) (ha : PA X [a, b] (rA X.K C xi W fs)) (hg : Gl X "min" := by rfl) (he : starEach (a :: [b]) X.env = (false, eval a X.env) :: starEach [b] X.env := by rfl) (hpl : (backTo pos (starEach [b] X.env)).any (·.1) = false := by rfl) :
    PE X (.Call (.Name "min" p) [a, b] [] pos) (rE X.K C xi W (fB (two bMin2) fs)) := xe_B (call_min2 hc) f_min2 (by decide +kernel) hm ha hg (by decide) (by decide) he hpl
/-! ### isinstance(x, T), T a built-in type -/
def tyN (h : Store) : Val → Option String
  | .non => some "NoneType"
  | .bl _ => some "bool"
  | .int _ => some "int"
  | .str _ => some "str"
  | .tup _ => some "tuple"
  | .wtup _ => some "tuple"
  | .ftup _ => none
  | .ro _ => some "list"
  | .loc l => match h[l]? with
    | some (.lst _) => some "list"
    | some (.dK _) => some "dict"
    | some (.dT _) => some "dict"
    | _ => none
theorem tyN_v {K : PySem.W.Frag} {S : Sg} {h : Store} {x : Val} {v : V} {n : String} (rp : Rep K C S h) (r : RV K S v x) (e : tyN h x = some n) : TyX K S.H v (.type n) := by
  cases x with
  | non => cases e; rw [RV.non' r]; exact .base .non
  | bl b => cases e; rw [RV.bl' r]; exact .base (.bl _)
  | int b => cases e; rw [RV.int' r]; exact .base (.int _)
  | str b => cases e; rw [RV.str' r]; exact .base (.str _)
  | tup xs =>
    cases e
    obtain ⟨a, vs, rfl, ha, rs⟩ := RV.tup' r
    exact .base (.tup ha)
  | wtup xs =>
    cases e
    cases r with
    | wtup hw rs =>
      obtain ⟨o, its, n, h1, h2, _⟩ := hw
      exact .kTuple h1 h2
  | ftup xs => cases e
  | ro xs =>
    cases e
    cases r with
    | ro hw rs =>
      rcases hw with ⟨o, ho⟩ | ⟨o, its, n, h1, h2, _⟩
      · exact .base (.frz ho)
      · exact .kList h1 h2
  | loc l =>
    obtain ⟨rfl, hl⟩ := RV.loc' r
    unfold tyN at e
    cases q : h[l]? with
    | none => simp [q] at e
    | some o =>
      cases o with
      | lst ys =>
        simp only [q] at e
        cases e
        obtain ⟨vs, hv, rs⟩ := list_at rp q
        exact .base (.lst hv)
      | dK ys =>
        simp only [q] at e
        cases e
        obtain ⟨vs, hv, rs⟩ := dK_at rp q
        exact .base (.dK hv)
      | dT ys =>
        simp only [q] at e
        cases e
        obtain ⟨vs, hv, rs⟩ := dT_at rp q
        exact .base (.dT hv)
      | _ => simp [q] at e
/-- which of the types asked for a type's name is -/
def fIsi (T : String) (fa : FE) : FE := fun e h => (fa e h).bind fun x h1 => match tyN h1 x with
  | some n => match kitB n T with
    | some k => .ok (.bl k) h1
    | none => .stuck
  | none => .stuck
theorem xe_isi {x : Str} {T : String} {k1 p2 : Pos} (hv : bootBuiltins x = some (.type T)) (hmx : X.mg x = none) (hm : X.mg "isinstance" = none) (ha : PE X a (rE X.K C xi W fa)) (hgx : Gl X x := by rfl) (hg : Gl X "isinstance" := by rfl) (hn : x ≠ "__name__" := by decide) (hd : (x == ("__debug__" : Str)) = false := by decide)
    (he : starEach (a :: [.Name x p2]) X.env = (false, eval a X.env) :: starEach [.Name x p2] X.env := by rfl) (hpl : (backTo pos (starEach [.Name x p2] X.env)).any (·.1) = false := by rfl) :
    PE X (.Call (.Name "isinstance" p) [a, .Name x p2] [] pos) (rE X.K C xi W (fIsi T fa)) := by
  refine PE_mono (pe_callB call_isi hg hm boot_isinstance (pa_cons ha (pa_cons (pe_bltn hgx hmx hv (show RelV (.ty T) (.type T) from rfl) hn hd) pa_nil) he) (by decide) (by decide) he hpl) ?_
  rintro σ H Q ⟨S, e, h, rfl, rp, re, p⟩
  refine ⟨S, e, h, rfl, rp, re, (PV.bind re p).imp ?_⟩
  rintro v H1 ⟨S1, x1, h1, rfl, l1, rp1, re1, rv1, p1⟩
  cases q : tyN h1 x1 with
  | none => simp only [q] at p1; exact False.elim p1
  | some n =>
    simp only [q] at p1
    cases q2 : kitB n T with
    | none => simp only [q2] at p1; exact False.elim p1
    | some k =>
      simp only [q2] at p1
      exact ⟨v, .ty T, .type n, .type T, k, rfl, .ty T, tyN_v rp1 rv1 q, kit_ty q2, p1 S1 _ (Le.refl S1) rp1 (.bl k)⟩
/-! ### globals -/
theorem xe_gInt {x : Str} {i : Int} {t : Tok} (hm : X.mg x = some (.int i t)) (hg : Gl X x := by rfl) (hd : (x == ("__debug__" : Str)) = false := by decide) : PE X (.Name x pos) (rE X.K C xi W (fK (.int i))) := by
  refine PE_mono (pe_glob hg hm (show RelV (.int i) (.int i t) from ⟨t, rfl⟩) hd) ?_
  rintro σ H Q ⟨S, e, h, rfl, rp, re, p⟩
  exact p S _ (Le.refl S) rp (.int i)
/-! ### starred items -/
def fStar (f : FE) (g : FA) : FA := fun e h => (f e h).bind fun x h1 => match items h1 x with
  | some xs => (g e h1).bind fun ys h2 => .ok (xs ++ ys) h2
  | none => .stuck
/-! ### list(range(..)) -/
end
/-! ## methods of lists and dicts -/
def fM (ty : Store → Val → Bool) (g : Val → List Val → Store → OR) (fo : FE) (fs : FA) : FE := fun e h => (fo e h).bind fun x h1 => if ty h1 x = true then (fs e h1).bind fun xs h2 => R.of (g x xs h2) else .stuck
def fM0 (ty : Store → Val → Bool) (g : Val → List Val → Store → OR) (fo : FE) : FE := fun e h => (fo e h).bind fun x h1 => if ty h1 x = true then R.of (g x [] h1) else .stuck
section
variable {X : Cx} {C : CTb} {xi : XI} {W : WX} {o a : Expr} {es : List Expr} {fo fa : FE} {fs : FA} {apos cpos : Pos} {name : Str} {id T : String} {r : V → List V → Hp → VK → Prop} {g : Val → List Val → Store → OR} {ty : Store → Val → Bool}
end
section
variable {K : PySem.W.Frag} {C : CTb}
end
end Fn
end
section
namespace Fn
open PySem PySem.Spec PyProof.Rows L2
/-! ## chains of comparisons -/
abbrev FC := Val → Env → Store → R Val
def rC (K : PySem.W.Frag) (C : CTb) (xi : XI) (W : WX) (f : FC) : V → L2.St → Hp → VK → Prop := fun v σ H Q => ∃ S e h x, S.H = H ∧ Rep K C S h ∧ REnv K xi S σ e ∧ RV K S v x ∧ PV K C W S σ (f x e h) Q
def rCT (K : PySem.W.Frag) (C : CTb) (xi : XI) (W : WX) (f : FC) : V → L2.St → Hp → (Bool → Hp → Prop) → Prop := fun v σ H Q => ∃ S e h x, S.H = H ∧ Rep K C S h ∧ REnv K xi S σ e ∧ RV K S v x ∧ PB K C W S σ (toB (f x e h)) Q
structure PCh (X : Cx) (pos : Pos) (ops : List CmpOp) (rs : List (Sem Value)) (C : CTb) (xi : XI) (W : WX) (f : FC) : Prop where
  run : ∀ (pins : List (Addr × Obj)) (s : Shared) (σ : L2.St) (H : Hp) (x : V) (v : Value) (Q : VK), Inv X pins σ H s → RelV x v → rC X.K C xi W f x σ H Q → wpAny (model X.prog X.w) X.A (compareChain pos v ops rs) (EP X pins σ Q) X.xe s
  tst : ∀ (pins : List (Addr × Obj)) (s : Shared) (σ : L2.St) (H : Hp) (x : V) (v : Value) (Q : Bool → Hp → Prop), Inv X pins σ H s → RelV x v → rCT X.K C xi W f x σ H Q → wpAny (model X.prog X.w) X.A (testChain pos v ops rs) (TP X pins σ Q) X.xe s
def fChL (g : Val → Val → Store → OR) (fb : FE) : FC := fun x e h => (fb e h).bind fun y h1 => R.of (g x y h1)
def fChK (g : Val → Val → Store → OR) (fb : FE) (ch : FC) : FC := fun x e h => (fb e h).bind fun y h1 => (toB (R.of (g x y h1))).bind fun k h2 => if k = true then ch y e h2 else .ok (.bl false) h2
def fCmpN (fa : FE) (ch : FC) : FE := fun e h => (fa e h).bind fun x h1 => ch x e h1
section
variable {K : PySem.W.Frag} {C : CTb} {xi : XI} {W : WX} {S : Sg} {σ : L2.St}
theorem PO.link {o : OR} {f : Bool → Store → R Val} {Q : VK} (p : PV K C W S σ ((toB (R.of o)).bind f) Q) : PO K C S o (fun z H2 => ∃ k, z = .bl k ∧ ∃ S2 h2, S2.H = H2 ∧ Le S S2 ∧ Rep K C S2 h2 ∧ PV K C W S2 σ (f k h2) Q) := by
  cases o with
  | none => exact p
  | some q =>
    obtain ⟨x, h⟩ := q
    cases x with
    | bl k => exact fun S' v l rp rv => ⟨k, RV.bl' rv, S', h, rfl, l, rp, PV.mono l p⟩
    | _ => exact False.elim p
theorem PO.linkB {o : OR} {f : Bool → Store → R Val} {Q : Bool → Hp → Prop} (p : PB K C W S σ (toB ((toB (R.of o)).bind f)) Q) : PO K C S o (fun z H2 => ∃ k, z = .bl k ∧ ∃ S2 h2, S2.H = H2 ∧ Le S S2 ∧ Rep K C S2 h2 ∧ PB K C W S2 σ (toB (f k h2)) Q) := by
  cases o with
  | none => exact p
  | some q =>
    obtain ⟨x, h⟩ := q
    cases x with
    | bl k => exact fun S' v l rp rv => ⟨k, RV.bl' rv, S', h, rfl, l, rp, PB.mono l p⟩
    | _ => exact False.elim p
theorem PO.lastB {o : OR} {Q : Bool → Hp → Prop} (p : PB K C W S σ (toB (R.of o)) Q) : PO K C S o (fun z H2 => ∃ k, z = .bl k ∧ Q k H2) := by
  cases o with
  | none => exact p
  | some q =>
    obtain ⟨x, h⟩ := q
    cases x with
    | bl k => exact fun S' v l rp rv => ⟨k, RV.bl' rv, p S' l rp⟩
    | _ => exact False.elim p
theorem toB_bind {r : R Val} {g : Val → Store → R Val} : toB (r.bind g) = r.bind fun x h => toB (g x h) := by cases r <;> rfl
end
section
variable {X : Cx} {C : CTb} {xi : XI} {W : WX} {a b : Expr} {fa fb : FE} {ch : FC} {pos : Pos} {op op' : CmpOp} {ops : List CmpOp} {rs : List (Sem Value)} {r' : Sem Value} {g : Val → Val → Store → OR}
theorem xch_last (o : CmpOk X C op g) (hb : PE X b (rE X.K C xi W fb)) : PCh X pos [op] [eval b X.env] C xi W (fChL g fb) := by
  obtain ⟨r, ho, hg⟩ := o.ok
  refine ⟨fun pins s σ H x v Q I rx q => ?_, fun pins s σ H x v Q I rx q => ?_⟩
  · obtain ⟨S, e, h, y, rfl, rp, re, rv, p⟩ := q
    refine chain_last (thn (hb.run pins s σ S.H _ I ⟨S, e, h, rfl, rp, re, PV.bind re p⟩) fun u s1 ⟨y1, H1, I1, r1, q1⟩ => ?_)
    obtain ⟨S1, z, h1, rfl, l1, rp1, re1, rv1, p1⟩ := q1
    exact ho pins s1 σ S1.H x y1 v u Q I1 rx r1 (hg S1 h1 x y1 y z Q rp1 (rv.mono l1) rv1 (PO.of p1))
  · obtain ⟨S, e, h, y, rfl, rp, re, rv, p⟩ := q
    have p : PB X.K C W S σ (toB ((fb e h).bind fun z h1 => R.of (g y z h1))) Q := p
    rw [toB_bind] at p
    refine test_last (thn (hb.run pins s σ S.H _ I ⟨S, e, h, rfl, rp, re, PV.bindB re p⟩) fun u s1 ⟨y1, H1, I1, r1, q1⟩ => ?_)
    obtain ⟨S1, z, h1, rfl, l1, rp1, re1, rv1, p1⟩ := q1
    refine thn (ho pins s1 σ S1.H x y1 v u _ I1 rx r1 (hg S1 h1 x y1 y z _ rp1 (rv.mono l1) rv1 (PO.lastB p1))) fun c s2 ⟨w, H2, I2, r2, k, e2, q2⟩ => ?_
    subst e2
    cases r2
    exact wpAny_truthy_bool ⟨H2, I2, q2⟩
theorem xch_link (o : CmpOk X C op g) (hb : PE X b (rE X.K C xi W fb)) (hr : PCh X pos (op' :: ops) (r' :: rs) C xi W ch) : PCh X pos (op :: op' :: ops) (eval b X.env :: r' :: rs) C xi W (fChK g fb ch) := by
  obtain ⟨r, ho, hg⟩ := o.ok
  refine ⟨fun pins s σ H x v Q I rx q => ?_, fun pins s σ H x v Q I rx q => ?_⟩
  · obtain ⟨S, e, h, y, rfl, rp, re, rv, p⟩ := q
    refine chain_link (thn (hb.run pins s σ S.H _ I ⟨S, e, h, rfl, rp, re, PV.bind re p⟩) fun u s1 ⟨y1, H1, I1, r1, q1⟩ => ?_)
    obtain ⟨S1, z, h1, rfl, l1, rp1, re1, rv1, p1⟩ := q1
    refine thn (ho pins s1 σ S1.H x y1 v u _ I1 rx r1 (hg S1 h1 x y1 y z _ rp1 (rv.mono l1) rv1 (PO.link p1))) fun c s2 ⟨w, H2, I2, r2, k, e2, q2⟩ => ?_
    subst e2
    cases r2
    obtain ⟨S2, h2, rfl, l2, rp2, p2⟩ := q2
    refine wpAny_truthy_bool ?_
    cases k with
    | false => exact ite_ff ⟨.bl false, S2.H, I2, rfl, p2 S2 _ (Le.refl S2) rp2 (.bl false)⟩
    | true => exact ite_tt (hr.run pins s2 σ S2.H y1 u Q I2 r1 ⟨S2, e, h2, z, rfl, rp2, re1.mono l2, rv1.mono l2, p2⟩)
  · obtain ⟨S, e, h, y, rfl, rp, re, rv, p⟩ := q
    have p : PB X.K C W S σ (toB ((fb e h).bind fun z h1 => (toB (R.of (g y z h1))).bind fun k h2 => if k = true then ch z e h2 else .ok (.bl false) h2)) Q := p
    rw [toB_bind] at p
    refine test_link (thn (hb.run pins s σ S.H _ I ⟨S, e, h, rfl, rp, re, PV.bindB re p⟩) fun u s1 ⟨y1, H1, I1, r1, q1⟩ => ?_)
    obtain ⟨S1, z, h1, rfl, l1, rp1, re1, rv1, p1⟩ := q1
    refine thn (ho pins s1 σ S1.H x y1 v u _ I1 rx r1 (hg S1 h1 x y1 y z _ rp1 (rv.mono l1) rv1 (PO.linkB p1))) fun c s2 ⟨w, H2, I2, r2, k, e2, q2⟩ => ?_
    subst e2
    cases r2
    obtain ⟨S2, h2, rfl, l2, rp2, p2⟩ := q2
    refine wpAny_truthy_bool ?_
    cases k with
    | false => exact ite_ff ⟨S2.H, I2, p2 S2 (Le.refl S2) rp2⟩
    | true => exact ite_tt (hr.tst pins s2 σ S2.H y1 u Q I2 r1 ⟨S2, e, h2, z, rfl, rp2, re1.mono l2, rv1.mono l2, p2⟩)
variable {o1 o2 : CmpOp} {b1 b2 : Expr} {bs : List Expr}
theorem xt_ch (ha : PE X a (rE X.K C xi W fa)) (hr : PCh X pos (o1 :: o2 :: ops) (eval b1 X.env :: eval b2 X.env :: evalEach bs X.env) C xi W ch) (hm : lastMarks (o1 :: o2 :: ops) (b1 :: b2 :: bs) = false := by with_unfolding_all rfl) :
    PT X (.Compare a (o1 :: o2 :: ops) (b1 :: b2 :: bs) pos) (rT X.K C xi W (fTest (fCmpN fa ch))) := by
  refine ⟨fun pins s σ H Q I q => ?_⟩
  obtain ⟨S, e, h, rfl, rp, re, p⟩ := q
  have p : PB X.K C W S σ (toB ((fa e h).bind fun x h1 => ch x e h1)) Q := p
  rw [toB_bind] at p
  refine isTrue_chain (thn (ha.run pins s σ S.H _ I ⟨S, e, h, rfl, rp, re, PV.bindB re p⟩) fun v s1 ⟨x, H1, I1, r1, q1⟩ => ?_) hm
  obtain ⟨S1, z, h1, rfl, l1, rp1, re1, rv1, p1⟩ := q1
  exact hr.tst pins s1 σ S1.H x v Q I1 r1 ⟨S1, e, h1, z, rfl, rp1, re1, rv1, p1⟩
end
/-! ## slices -/
abbrev FO := Env → Store → R (Option Int)
def PP (K : PySem.W.Frag) (C : CTb) (W : WX) (S : Sg) (σ : L2.St) (r : R (Option Int)) (Q : Option Int → Hp → Prop) : Prop := match r with
  | .ok x h => ∀ S', Le S S' → Rep K C S' h → Q x S'.H
  | .exc c w h => PX K C W S σ c w h
  | .stuck => False
def fNoP : FO := fun _ h => .ok none h
def fPt (f : FE) : FO := fun e h => (f e h).bind fun x h1 => match x with
  | .int i => .ok (some i) h1
  | _ => .stuck
def cutE (xs : List Val) (lo hi : Option Int) : List Val := (xs.drop (HT.sIx xs.length 0 lo)).take (HT.sIx xs.length xs.length hi - HT.sIx xs.length 0 lo)
def oSl (x : Val) (lo hi : Option Int) (h : Store) : OR := match x with
  | .tup xs => some (.tup (cutE xs lo hi), h)
  | .ftup xs => if (cutE xs lo hi).length = xs.length then some (.ftup xs, h) else some (.tup (cutE xs lo hi), h)
  | .ro xs => newL (cutE xs lo hi) h
  | .loc l => match h[l]? with
    | some (.lst xs) => newL (cutE xs lo hi) h
    | _ => none
  | _ => none
def fSl (fe : FE) (fl fh : FO) : FE := fun e h => (fe e h).bind fun x h1 => (fl e h1).bind fun lo h2 => (fh e h2).bind fun hi h3 => R.of (oSl x lo hi h3)
section
variable {X : Cx} {C : CTb} {xi : XI} {W : WX} {a : Expr} {lo hi : Option Expr} {fa fe : FE} {fl fh : FO} {pos p2 : Pos}
theorem PP.imp {K : PySem.W.Frag} {S : Sg} {σ : L2.St} {r : R (Option Int)} {Q Q' : Option Int → Hp → Prop} (p : PP K C W S σ r Q) (k : ∀ v H, Q v H → Q' v H) : PP K C W S σ r Q' := by
  cases r with
  | ok x h => exact fun S' l rp => k _ _ (p S' l rp)
  | exc c w h => exact p
  | stuck => exact p
theorem PP.bind {K : PySem.W.Frag} {S : Sg} {σ : L2.St} {e : Env} {r : R (Option Int)} {g : Option Int → Store → R Val} {Q : VK} (re : REnv K xi S σ e) (p : PV K C W S σ (r.bind g) Q) :
    PP K C W S σ r (fun b H1 => ∃ S1 h1, S1.H = H1 ∧ Le S S1 ∧ Rep K C S1 h1 ∧ REnv K xi S1 σ e ∧ PV K C W S1 σ (g b h1) Q) := by
  cases r with
  | ok x h => exact fun S' l rp => ⟨S', h, rfl, l, rp, re.mono l, PV.mono l p⟩
  | exc c w h => exact p
  | stuck => exact p
end
/-! ## d == {}, d != {} -/
section
variable {prog : Program} {w : World} {A : Around} {E : Value → Shared → Prop} {s : Shared}
end
section
variable {X : Cx}
theorem isE {α : Type} (l : List α) : (l.length == 0) = l.isEmpty := by cases l <;> rfl
end
end Fn
end
section
namespace Fn
open PySem PySem.Spec PyProof.Rows L2
/-! ## enumerate(a tuple) -/
section
variable {prog : Program} {w : World} {A : Around} {E : Value → Shared → Prop} {s : Shared}
end
/-- what is walked -/
def enumV : Int → List Val → List Val
  | _, [] => []
  | i, x :: xs => .tup [.int i, x] :: enumV (i + 1) xs
def iEnT (f : FA) : FI := fun e h => (f e h).bind fun xs h1 => match xs with
  | [.tup ys] => .ok (.vals (enumV 0 ys)) h1
  | [.wtup ys] => .ok (.vals (enumV 0 ys)) h1
  | [.ftup ys] => .ok (.vals (enumV 0 ys)) h1
  | _ => .stuck
section
variable {X : Cx} {C : CTb} {xi : XI} {W : WX} {a : Expr} {fs : FA} {p pos tpos : Pos} {elts : List Expr} {kk : Nat}
end
end Fn
end
section
namespace Fn
open PySem PySem.Spec PyProof.Rows L2
/-! ## try, with clauses of both kinds -/
abbrev SuT := Addr → Value → Option Addr → TS
inductive Hd where
  | pl (c : Value) (ts : SuT)
  | nm (c : Value) (i : Nat) (ts : SuT)
def Ends.drop (D : Ends) (i : Nat) : Ends := { nx := fun σ' H' => D.nx (σ'.set i none) H', rt := D.rt, bk := fun σ' H' => D.bk (σ'.set i none) H', ct := fun σ' H' => D.ct (σ'.set i none) H' }
def wHs (K : PySem.W.Frag) (Wout : WX) (D : Ends) : List Hd → WX
  | [] => Wout
  | .pl c ts :: r => fun cls d σ H => ∃ b, PySem.W.exmOne K cls c = some b ∧ (b = true → ∀ a, H a = none → ts a cls d D σ H) ∧ (b = false → wHs K Wout D r cls d σ H)
  | .nm c i ts :: r => fun cls d σ H => ∃ b, PySem.W.exmOne K cls c = some b ∧ (b = true → ∀ a, H a = none → ts a cls d (Ends.drop D i) (σ.set i (some (.ref a))) H) ∧ (b = false → wHs K Wout D r cls d σ H)
abbrev SuiteOk (X : Cx) (l : List Stmt) (ts : SuT) : Prop := ∀ (a : Addr) (oe : Obj) (cls : Value) (d : Option Addr) (pn : List (Addr × Obj)), Zc cls d oe → (∃ vs, oe.data = .fields vs) → PSs (X.suite a ((a, oe) :: pn)) l (ts a cls d)
inductive HsOk (X : Cx) : List ExceptHandler → List Hd → Prop
  | nil : HsOk X [] []
  | pl {x : Str} {c : Value} {ts : SuT} {b₀ : Stmt} {suite : List Stmt} {np pos' : Pos} {hds : List ExceptHandler} {l : List Hd} (hc : Names X x c) (hsu : SuiteOk X (b₀ :: suite) ts) (r : HsOk X hds l) :
      HsOk X (.ExceptHandler (some (.Name x np)) none (b₀ :: suite) pos' :: hds) (.pl c ts :: l)
  | nm {x n : Str} {c : Value} {i : Nat} {ts : SuT} {b₀ : Stmt} {suite : List Stmt} {np pos' : Pos} {hds : List ExceptHandler} {l : List Hd} (hi : X.N[i]? = some n) (hln : X.env.kindOf n = some .local) (hc : Names X x c) (hsu : SuiteOk X (b₀ :: suite) ts) (r : HsOk X hds l) :
      HsOk X (.ExceptHandler (some (.Name x np)) (some n) (b₀ :: suite) pos' :: hds) (.nm c i ts :: l)
section
variable {X : Cx}
theorem ps_try_hs {body : List Stmt} {h₀ : ExceptHandler} {hds : List ExceptHandler} {l : List Hd} {pos : Pos} {tb : WX → TS} {Wout : WX} (hs : X.stack = X.env :: X.outer) (hf : X.env.frame = some X.env.locals) (hN : X.N.Nodup) (tk : Takes X Wout)
    (hb : ∀ (W : WX) (pn : List (Addr × Obj)) (xe : Value → Shared → Prop), Takes (X.tr pn xe) W → PassesOwn (model X.prog X.w) X.A X.env xe → PSs (X.tr pn xe) body (tb W))
    (hh : HsOk X (h₀ :: hds) l) : PS X (.Try body (h₀ :: hds) [] [] pos) (fun D σ H => tb (wHs X.K Wout D l) D σ H) := by
  refine ⟨fun pins s σ H D I h => ?_⟩
  have ok := I.ok
  have hfr : X.A.frames = some (X.env :: X.outer) := ok.frames.trans (congrArg some hs)
  refine wpAny_Try_except ?_
  have caught : ∀ u s', XE (X.tr (X.pn ++ pins) (fun e s₁ => wpAny (model X.prog X.w) X.A (noteFrame e X.env) (fun _ s₂ => wpAny (model X.prog X.w) X.A (setFlight e none) (fun _ s₃ =>
      wpAny (model X.prog X.w) X.A (handleBy e X.env (h₀ :: hds)) (SP X pins D) X.xe s₃) X.xe s₂) X.xe s₁)) (wHs X.K Wout D l) u s' →
      wpAny (model X.prog X.w) X.A (noteFrame u X.env) (fun _ s₂ => wpAny (model X.prog X.w) X.A (setFlight u none) (fun _ s₃ => wpAny (model X.prog X.w) X.A (handleBy u X.env (h₀ :: hds)) (SP X pins D) X.xe s₃) X.xe s₂) X.xe s' := by
    rintro u s' ⟨a, B, sI, pins', σ', H', cls, d, rfl, J', nb, up, sky, na, os, ag, w⟩
    have J : Inv X pins σ' H' sI := J'.ofTry ok
    refine Sky.land Zc.steady hfr hf (show Sky B (X.env :: X.outer) a (Zc cls d) X.env.locals s'.heap by rw [← hs]; exact sky) fun h3 fl3 up3 => ?_
    have J3 : Inv X pins σ' H' { s' with heap := h3 } := J.landed nb fl3.1 (up.trans up3) os ag
    obtain ⟨oe3, vs3, he3, hz3, hd3⟩ := fl3.there
    have nfr : a ∉ frs (X.env :: X.outer) := fun hm => by
      obtain ⟨_, o', e', hnf⟩ := fl3.2.2.1.mem hm
      rw [he3] at e'
      cases e'
      exact hnf _ hd3
    have nL : a ≠ X.env.locals := fun z => nfr (List.mem_filterMap.mpr ⟨X.env, List.mem_cons_self, by rw [hf, z]⟩)
    have nF : a ∉ X.fs := fun hm => by
      obtain ⟨e, he, q⟩ := List.mem_filterMap.mp hm
      exact nfr (List.mem_filterMap.mpr ⟨e, List.mem_cons_of_mem _ he, q⟩)
    have S3 := J3.suite he3 hd3 na nL nF
    have LT : PySem.W.Looks (model X.prog X.w) h3 (typeOf (.ref a)) cls := fun A Q E s k q => wpAny_typeOf_ref (k _ _ he3) (by rw [hz3.1]; exact q)
    have test : ∀ {x : Str} {c : Value} {np : Pos} (hc : Names X x c) {Q : Value → Shared → Prop} {E : Value → Shared → Prop}, Q c { s' with heap := h3 } → wpAny (model X.prog X.w) (X.A.mark (some (.ref a))) (eval (.Name x np) X.env) Q E { s' with heap := h3 } := fun {x c np} hc {Q E} q => by
      obtain ⟨hg, hdbg, hm | ⟨hm, hv, hnn⟩⟩ := hc
      · exact ld_glob (X := X.suite a ((a, oe3) :: (X.pn ++ pins))) S3 hg hm q hdbg
      · exact ld_blt (X := X.suite a ((a, oe3) :: (X.pn ++ pins))) S3 hg hm hv q hnn hdbg
    have go : ∀ {hds' : List ExceptHandler} {l' : List Hd}, HsOk X hds' l' → wHs X.K Wout D l' cls d σ' H' → wpAny (model X.prog X.w) X.A (handleBy (.ref a) X.env hds') (SP X pins D) X.xe { s' with heap := h3 } := by
      intro hds' l' hk
      induction hk with
      | nil =>
        intro w
        refine wpAny_handleBy_nil ?_
        obtain ⟨k1, k2, k3, oe, vs, T, oT, ts', he, hz, hd, h1, hr⟩ := id fl3
        unfold PySem.passOn
        refine wpAny_bind (wpAny_field he hd h1 ?_)
        rw [if_neg (show ¬ ((Value.ref T == Value.none) = true) by simp)]
        have fin : wpAny (model X.prog X.w) X.A (setFlight (.ref a) X.env.frame) (fun _ s4 => wpAny (model X.prog X.w) X.A (throw (.ref a) : Sem Flow) (SP X pins D) X.xe s4) X.xe { s' with heap := h3 } := by
          rw [hf]
          exact HandSPX.setFlight_upZ fl3 fun h4 hh4 up4 => wpAny_throw (tk _ _ ⟨a, B, sI, pins, σ', H', cls, d, rfl, J, nb, (up.trans up3).trans up4, .inr (.inr (by rw [hs]; exact hh4)), na, os, ag, w⟩)
        first
          | exact wpAny_bind (wpAny_pure (wpAny_bind fin))
          | exact wpAny_bind fin
      | @pl x c ts b₀ suite np pos' hds2 l2 hc hsu r ih =>
        intro w
        obtain ⟨b, hb1, hyes, hno⟩ := w
        refine wpAny_handleBy_cons (codeAny_handlers_test ?_) (by intro q; cases q)
        refine test hc ((PySem.W.exm_one (M := model X.prog X.w) (J3.kIn) LT hb1).here ?_)
        cases b with
        | true =>
          refine codeAny_handlers_suite (HandSPX.lands_againZ fl3 fun h4 fl4 up4 => ?_)
          have J4 : Inv X pins σ' H' { s' with heap := h4 } := J.landed nb fl4.1 ((up.trans up3).trans up4) os ag
          obtain ⟨oe4, vs4, he4, hz4, hd4⟩ := fl4.there
          refine wpAny_mono ((hsu a oe4 cls d (X.pn ++ pins) hz4 ⟨_, hd4⟩).run [] _ _ H' _ (J4.suite he4 hd4 na nL nF) (hyes rfl a na)) (fun f s6 hsp => ?_) (fun _ _ z => False.elim z)
          cases f with
          | ret u => obtain ⟨v6, σ6, H6, S6, r6, q6⟩ := hsp; exact ⟨_, _, _, S6.unsuite ok, r6, q6⟩
          | next => obtain ⟨σ6, H6, S6, q6⟩ := hsp; exact ⟨_, _, S6.unsuite ok, q6⟩
          | brk => obtain ⟨σ6, H6, S6, q6⟩ := hsp; exact ⟨_, _, S6.unsuite ok, q6⟩
          | cont => obtain ⟨σ6, H6, S6, q6⟩ := hsp; exact ⟨_, _, S6.unsuite ok, q6⟩
        | false =>
          show wpAny _ X.A (handleBy (.ref a) X.env hds2) _ _ _
          exact ih (hno rfl)
      | @nm x n c i ts b₀ suite np pos' hds2 l2 hi hln hc hsu r ih =>
        intro w
        obtain ⟨b, hb1, hyes, hno⟩ := w
        refine wpAny_handleBy_cons (codeAny_handlers_test ?_) (by intro q; cases q)
        refine test hc ((PySem.W.exm_one (M := model X.prog X.w) (J3.kIn) LT hb1).here ?_)
        cases b with
        | true =>
          refine codeAny_handlers_suite_as (HandSPX.lands_againZ fl3 fun h4 fl4 up4 => ?_)
          have J4 : Inv X pins σ' H' { s' with heap := h4 } := J.landed nb fl4.1 ((up.trans up3).trans up4) os ag
          obtain ⟨oe4, vs4, he4, hz4, hd4⟩ := fl4.there
          refine store_ok (X := X.suite a ((a, oe4) :: (X.pn ++ pins))) (v := .ref a) (J4.suite he4 hd4 na nL nF) hN hi (.inl hln) rfl (fun s5 S5 => ?_) (.inr hln)
          refine wpAny_mono ((hsu a oe4 cls d (X.pn ++ pins) hz4 ⟨_, hd4⟩).run [] s5 _ H' _ S5 (hyes rfl a na)) (fun f s6 hsp => ?_) (fun _ _ z => False.elim z)
          cases f with
          | ret u => obtain ⟨v6, σ6, H6, S6, r6, q6⟩ := hsp; exact gone_ok (S6.unsuite ok) hN hi hln fun s7 J7 => ⟨_, _, _, J7, r6, q6⟩
          | next => obtain ⟨σ6, H6, S6, q6⟩ := hsp; exact gone_ok (S6.unsuite ok) hN hi hln fun s7 J7 => ⟨_, _, J7, q6⟩
          | brk => obtain ⟨σ6, H6, S6, q6⟩ := hsp; exact gone_ok (S6.unsuite ok) hN hi hln fun s7 J7 => ⟨_, _, J7, q6⟩
          | cont => obtain ⟨σ6, H6, S6, q6⟩ := hsp; exact gone_ok (S6.unsuite ok) hN hi hln fun s7 J7 => ⟨_, _, J7, q6⟩
        | false =>
          show wpAny _ X.A (handleBy (.ref a) X.env hds2) _ _ _
          exact ih (hno rfl)
    exact go hh w
  refine wpAny_mono ((hb (wHs X.K Wout D l) (X.pn ++ pins) _ caught PassesOwn.looking).run [] s σ H D (I.toTry _) h) (fun f s1 hsp => ?_) (fun e s1 he => he)
  cases f with
  | next =>
    obtain ⟨σ', H', J', q⟩ := hsp
    exact wpAny_execs_nil ⟨σ', H', J'.ofTry ok, q⟩
  | brk => obtain ⟨σ', H', J', q⟩ := hsp; exact ⟨σ', H', J'.ofTry ok, q⟩
  | cont => obtain ⟨σ', H', J', q⟩ := hsp; exact ⟨σ', H', J'.ofTry ok, q⟩
  | ret u => obtain ⟨v, σ', H', J', r, q⟩ := hsp; exact ⟨v, σ', H', J'.ofTry ok, r, q⟩
end

/-! ### as functions -/
inductive FHd where
  | pl (t : Nat → Option Bool) (f : Nat → Val → FS)
  | nm (t : Nat → Option Bool) (i : Nat) (f : Nat → Val → FS)
def post0 : RS → RS
  | .exc _ _ _ _ => .stuck
  | r => r
def post (i : Nat) : RS → RS
  | .next e h => .next (e.set i none) h
  | .brk e h => .brk (e.set i none) h
  | .cont e h => .cont (e.set i none) h
  | .ret v h => .ret v h
  | _ => .stuck
def runHs : List FHd → Nat → Val → Env → Store → RS
  | [], c, w, e, h => .exc c w e h
  | .pl t f :: r, c, w, e, h => match t c with
    | some true => post0 (f c w e h)
    | some false => runHs r c w e h
    | none => .stuck
  | .nm t i f :: r, c, w, e, h => match t c with
    | some true => if i < e.length then post i (f c w (e.set i none) h) else .stuck
    | some false => runHs r c w e h
    | none => .stuck
def fTry (f : FS) (hs : List FHd) : FS := fun e h => match f e h with
  | .exc c w e1 h1 => runHs hs c w e1 h1
  | r => r
/-- which classes a clause takes -/
def tab (l : List Bool) : Nat → Option Bool := fun c => l[c]?
def suT (K : PySem.W.Frag) (C : CTb) (t : Nat → Option Bool) (o : Option Nat) (f : Nat → Val → FS) : SuT := fun a cls d D σ H => ∃ c w dd, cls = .ref (C c) ∧ d = some dd ∧ t c = some true ∧ rS K C (match o with
  | some i => some (i, a, dd, w)
  | none => none) W0 (f c w) D σ H
inductive FhOk (X : Cx) (C : CTb) : List ExceptHandler → List Hd → List FHd → Prop
  | nil : FhOk X C [] [] []
  | pl {x : Str} {cv : Value} {t : Nat → Option Bool} {f : Nat → Val → FS} {b₀ : Stmt} {suite : List Stmt} {np pos' : Pos} {hds : List ExceptHandler} {l : List Hd} {fl : List FHd} (hc : Names X x cv) (ht : ∀ c b, t c = some b → PySem.W.exmOne X.K (.ref (C c)) cv = some b)
      (hsu : ∀ (a : Addr) (oe : Obj) (c : Nat) (w : Val) (dd : Addr) (pn : List (Addr × Obj)), t c = some true → Zc (.ref (C c)) (some dd) oe → (∃ vs, oe.data = .fields vs) → PSs (X.suite a ((a, oe) :: pn)) (b₀ :: suite) (rS X.K C none W0 (f c w))) (r : FhOk X C hds l fl) :
      FhOk X C (.ExceptHandler (some (.Name x np)) none (b₀ :: suite) pos' :: hds) (.pl cv (suT X.K C t none f) :: l) (.pl t f :: fl)
  | nm {x n : Str} {i : Nat} {cv : Value} {t : Nat → Option Bool} {f : Nat → Val → FS} {b₀ : Stmt} {suite : List Stmt} {np pos' : Pos} {hds : List ExceptHandler} {l : List Hd} {fl : List FHd} (hi : X.N[i]? = some n) (hln : X.env.kindOf n = some .local) (hc : Names X x cv)
      (ht : ∀ c b, t c = some b → PySem.W.exmOne X.K (.ref (C c)) cv = some b)
      (hsu : ∀ (a : Addr) (oe : Obj) (c : Nat) (w : Val) (dd : Addr) (pn : List (Addr × Obj)), t c = some true → Zc (.ref (C c)) (some dd) oe → (∃ vs, oe.data = .fields vs) → PSs (X.suite a ((a, oe) :: pn)) (b₀ :: suite) (rS X.K C (some (i, a, dd, w)) W0 (f c w))) (r : FhOk X C hds l fl) :
      FhOk X C (.ExceptHandler (some (.Name x np)) (some n) (b₀ :: suite) pos' :: hds) (.nm cv i (suT X.K C t (some i) f) :: l) (.nm t i f :: fl)
theorem FhOk.hs {X : Cx} {C : CTb} {hds : List ExceptHandler} {l : List Hd} {fl : List FHd} (h : FhOk X C hds l fl) : HsOk X hds l := by
  induction h with
  | nil => exact .nil
  | pl hc ht hsu r ih =>
    refine .pl hc (fun a oe cls d pn hz hf => ⟨fun pins s σ H D I q => ?_⟩) ih
    obtain ⟨c, w, dd, rfl, rfl, tc, q⟩ := q
    exact (hsu a oe c w dd pn tc hz hf).run pins s σ H D I q
  | nm hi hln hc ht hsu r ih =>
    refine .nm hi hln hc (fun a oe cls d pn hz hf => ⟨fun pins s σ H D I q => ?_⟩) ih
    obtain ⟨c, w, dd, rfl, rfl, tc, q⟩ := q
    exact (hsu a oe c w dd pn tc hz hf).run pins s σ H D I q
/-! ## raise X(e): X one of the classes that inherit the one __init__ -/
/-- what the written part says of the class number c -/
structure ExF (K : PySem.W.Frag) (C : CTb) (fI : Addr) (c : Nat) : Prop where
  ox : OexC K (C c)
  no : PySem.W.findIn K (.ref (C c)) "what" = some none
  iC : PySem.W.findIn K (.ref (C c)) "__init__" = some (some (.ref fI))
/-- what __init__(self, what) promises -/
def spInit (K : PySem.W.Frag) : Sp := fun vs H Q _ => ∃ (a c : Addr) (y : V), vs = [.ref a, y] ∧ OexC K c ∧ PySem.W.findIn K (.ref c) "what" = some none ∧ H a = some (exo a c none) ∧
  ∀ dx, H dx = none → dx ≠ a → Q .non (upd (upd H dx (exd dx [(whatS, y)])) a (exo a c (some dx)))
def fRaise (c : Nat) (f : FE) : FS := fun e h => RS.ofE (f e h) (fun w h1 => .exc c w e h1) e
theorem xd_eq {H : Hp} {a dx C : Addr} {y : V} (ha : H a = none) (hd : dx ≠ a) : upd (del (upd (upd (upd H a (exo a C none)) dx (exd dx [(whatS, y)])) a (exo a C (some dx))) a) dx (.xd [(whatS, y)]) = upd H dx (.xd [(whatS, y)]) := by
  funext b
  by_cases h1 : b = dx
  · subst h1
    rw [upd_same, upd_same]
  · rw [upd_ne h1, upd_ne h1]
    by_cases h2 : b = a
    · subst h2
      rw [del_same, ha]
    · rw [del_ne h2, upd_ne h2, upd_ne h1, upd_ne h2]
theorem xs_raise {X : Cx} {C : CTb} {W : WX} {c k : Nat} {x : Str} {fI : Addr} {fd : FuncData} {ps : List Str} {a : Expr} {fa : FE} {p pos pos2 : Pos} (hc : X.calm = true) (tk : Takes X W) (E : ExF X.K C fI c) (tI : PySem.W.typeIn X.K (.ref fI) = some (.type "function"))
    (F1 : FnOk X.prog X.w X.K X.mg X.base (L2.CX X.prog X.w) k fI fd ps (spInit X.K)) (hr : Room (k + 1) X.A) (hb : L2.Binds X.K fd ps []) (hm : X.mg x = some (.ref (C c))) (ha : PE X a (rE X.K C none W fa)) (hg : Gl X x := by rfl)
    (hdb : (x == ("__debug__" : Str)) = false := by decide) (he : starEach (a :: []) X.env = (false, eval a X.env) :: starEach [] X.env := by rfl) :
    PS X (.Raise (some (.Call (.Name x p) [a] [] pos)) none pos2) (rS X.K C none W (fRaise c fa)) := by
  refine PS_mono (ps_raise hc tk (pmk_oex E.ox E.iC tI F1 hr hb .nil (passes_call takes0 fun _ _ _ _ z => z) hg hm (pa_cons ha pa_nil he) hdb he rfl)) ?_
  rintro D σ H ⟨S, e, h, rfl, rp, re, p⟩
  refine ⟨S, e, h, rfl, rp, re, (PSt.ofE re p).imp ?_⟩
  rintro y H1 ⟨S1, w, h1, rfl, l1, rp1, re1, rv1, p1⟩
  refine ⟨(Nat.le_of_ble_eq_true rfl : (1 : Nat) ≤ 1000), fun b hb0 => ⟨b, C c, y, rfl, E.ox, E.no, upd_same, fun dx hdx hne => ⟨rfl, dx, [(whatS, y)], upd_same, ?_, ?_, ?_⟩⟩⟩
  · rw [upd_ne hne, upd_same]
  · rw [upd_ne hne] at hdx
    exact hdx
  · rw [xd_eq hb0 hne]
    rw [upd_ne hne] at hdx
    obtain ⟨l, r⟩ := rp1.new (u := .xd [(whatS, y)]) hdx
    exact p1 _ σ dx y l r (re1.mono l) upd_same (rv1.mono l)
/-- e.what in a suite -/
def fWhat (w : Val) : FE := fun _ h => .ok w h
theorem xe_what {X : Cx} {C : CTb} {W : WX} {a dd : Addr} {oe : Obj} {c i : Nat} {w : Val} {pn : List (Addr × Obj)} {n : Str} {pos p2 : Pos} (T : XfC X.K (C c)) (hno : PySem.W.findIn X.K (.ref (C c)) whatS = some none) (hz : Zc (.ref (C c)) (some dd) oe) (hf : ∃ vs, oe.data = .fields vs)
    (hN : X.N[i]? = some n := by rfl) (hv : Vis X.env.scope n := by first | exact Or.inl rfl | exact Or.inr (Or.inl rfl) | exact Or.inr (Or.inr rfl)) (hd : (n == ("__debug__" : Str)) = false := by decide) (hcd : (n == ("__classdict__" : Str)) = false := by decide) :
    PE (X.suite a ((a, oe) :: pn)) (.Attribute (.Name n p2) whatS pos) (rE X.K C (some (i, a, dd, w)) W (fWhat w)) := by
  refine PE_mono (pe_xf (n := whatS) T hno hz hf (pe_var (X := X.suite a ((a, oe) :: pn)) hN hv hd hcd)) ?_
  rintro σ H Q ⟨S, e, h, rfl, rp, re, p⟩
  obtain ⟨h1, wv, h2, h3⟩ := re.xo
  exact ⟨_, h1, rfl, rfl, dd, _, wv, rfl, h2, (by simp [List.lookup]), p S wv (Le.refl S) rp h3⟩
end Fn
end
section
namespace Fn
open PySem PySem.Spec PyProof.Rows L2
/-! ## instances -/
def setF (f : Str) (v : Val) : List (Str × Val) → List (Str × Val)
  | [] => [(f, v)]
  | (g, x) :: r => if g = f then (g, v) :: r else (g, x) :: setF f v r
theorem RKs.setF {K : PySem.W.Frag} {S : Sg} {f : Str} {v : V} {x : Val} (rv : RV K S v x) : ∀ {ws : List (Str × V)} {fs : List (Str × Val)}, RKs K S ws fs → RKs K S (putF f v ws) (setF f x fs)
  | _, _, .nil => .cons rv .nil
  | _, _, .cons (k := g) r t => by
    unfold putF Fn.setF
    by_cases h : g = f
    · rw [if_pos h, if_pos h]
      exact .cons rv t
    · rw [if_neg h, if_neg h]
      exact .cons r (RKs.setF rv t)
def fSetF (c : Nat) (f : Str) (fo fe : FE) : FS := fun e h => RS.ofE (fe e h) (fun y h1 => RS.ofE (fo e h1) (fun x h2 => match x with
  | .loc l => match h2[l]? with
    | some (.ins c' fs) => if c' = c ∧ fs.length < 1000 then .next e (h2.set l (.ins c (setF f y fs))) else .stuck
    | _ => .stuck
  | _ => .stuck) e) e
def fMake (c n : Nat) (F : FF) (fs : FA) : FE := fun e h => (fs e h).bind fun xs h1 => if xs.length = n then (match F (.loc h1.length :: xs) (h1 ++ [.ins c []]) with
  | .ok .non h2 => .ok (.loc h1.length) h2
  | _ => .stuck) else .stuck
section
variable {X : Cx} {C : CTb} {xi : XI} {W : WX} {a o v : Expr} {fe fo : FE} {fs : FA} {es : List Expr} {pos pos' p : Pos} {c k n : Nat} {f x : Str} {F : FF} {fI : Addr} {fd : FuncData} {ps : List Str}
end
/-! ## the __init__ of the errors -/
def selfS : Str := "self"
theorem init_ok {P : Program} {w : World} {K : PySem.W.Frag} {mg : Str → Option Value} {base : Heap} {qual : Str} {st : Stmt} {f : Addr} {fd : FuncData} {p1 p2 p3 p4 : Pos} (F : L2.Fun K "__init__" qual st f fd) (S : FnScope [selfS, whatS] [selfS, whatS] (defScope st))
    (hb : defBody st = [.Assign [.Attribute (.Name selfS p1) whatS p2] (.Name whatS p3) p4]) (hn : (defScope st).names = [(selfS, NameKind.local), (whatS, NameKind.local)]) {k : Nat} : FnOk P w K mg base (L2.CX P w) (k + 1) f fd [selfS, whatS] (spInit K) :=
  F.okX S (by rintro vs H Q E ⟨a, c, y, rfl, _⟩; rfl) fun cdv A outer s H vs Q E hr h => by
    rw [hb]
    obtain ⟨a, c, y, rfl, ox, no, ha, q⟩ := h
    have l0 : (defScope st).names.lookup selfS = some NameKind.local := by rw [hn]; decide +kernel
    have l1 : (defScope st).names.lookup whatS = some NameKind.local := by rw [hn]; decide +kernel
    refine ⟨_, pss_one (ps_ost (pe_var (i := 0) rfl (.inl l0) (by decide +kernel) (by decide +kernel)) (pe_var (i := 1) rfl (.inl l1) (by decide +kernel) (by decide +kernel)) rfl), ?_⟩
    exact ⟨y, rfl, .ref a, rfl, a, c, rfl, ox, no, .inl ⟨ha, fun dx n e => q dx n e⟩⟩
end Fn
end
section
namespace Fn
open PySem PySem.Spec PyProof.Rows L2
/-! ## what the written part says: classes, defs, by names -/
/-- the classes by number -/
def cAdT (K : PySem.W.Frag) (l : List Str) (T : List (Addr × Str)) : CTb := ⟨fun c => match l[c]? with
  | some x => He.ga K x
  | none => 0, T⟩
/-- an own error class that inherits its __init__ -/
def oexB (K : PySem.W.Frag) (x : Str) (fI : Addr) : Bool := (match K.lookup (He.ga K x) with
  | some ⟨.type "type", _, .cls cd, sl⟩ => (match cd.mro, sl.toList with
    | .ref C' :: bm, [_, _, _, _, some (.builtin n), _] => C' == He.ga K x && n == "ValueError.__new__" && !cd.hasDel && cd.hasDict && PySem.HandSPX.refsVE bm
    | _, _ => false)
  | _ => false) && (He.eqO (PySem.W.findIn K (.ref (He.ga K x)) "__setattr__") (some (some (.builtin "object.__setattr__"))) && (decide (PySem.W.subIn K (.ref (He.ga K x)) (.type "BaseException") = some true) &&
  (decide (PySem.W.typeIn K (.ref (He.ga K x)) = some (.type "type")) && (PySem.W.keepIn K (.ref (He.ga K x)) && (He.eqO (PySem.W.findIn K (.ref (He.ga K x)) whatS) (some none) && (He.eqO (PySem.W.findIn K (.ref (He.ga K x)) "__init__") (some (some (.ref fI))) && xfB K (He.ga K x)))))))
structure ExAll (K : PySem.W.Frag) (a fI : Addr) : Prop where
  ox : OexC K a
  no : PySem.W.findIn K (.ref a) whatS = some none
  iC : PySem.W.findIn K (.ref a) "__init__" = some (some (.ref fI))
  xf : XfC K a
theorem oexB_ok {K : PySem.W.Frag} {x : Str} {fI : Addr} (h : oexB K x fI = true) : ExAll K (He.ga K x) fI := by
  obtain ⟨h0, h⟩ := He.ba h
  obtain ⟨h1, h⟩ := He.ba h
  obtain ⟨h2, h⟩ := He.ba h
  obtain ⟨h3, h⟩ := He.ba h
  obtain ⟨h4, h⟩ := He.ba h
  obtain ⟨h5, h⟩ := He.ba h
  obtain ⟨h6, h7⟩ := He.ba h
  refine ⟨⟨?_, He.eqO_ok h1, of_decide_eq_true h2, of_decide_eq_true h3, h4⟩, He.eqO_ok h5, He.eqO_ok h6, xfB_ok h7⟩
  split at h0
  · rename_i dd cd sl ho
    split at h0
    · rename_i C' bm k0 k1 k2 k3 n k5 hm hs
      simp only [Bool.and_eq_true, beq_iff_eq, Bool.not_eq_true'] at h0
      obtain ⟨⟨⟨⟨rfl, rfl⟩, hdel⟩, hdc⟩, hv⟩ := h0
      obtain ⟨nm, bs, mro, ns, qn, hd, sn, sub, ab, col, del⟩ := cd
      dsimp only at hm hdel hdc
      subst hm hdel hdc
      obtain ⟨l⟩ := sl
      simp only at hs
      subst hs
      exact ⟨nm, qn, ns, bs, bm, sn, sub, ab, col, dd, k0, k1, k2, k3, k5, ho, hv⟩
    · cases h0
  · cases h0
theorem ExAll.exF {K : PySem.W.Frag} {C : CTb} {fI : Addr} {c : Nat} (h : ExAll K (C c) fI) : ExF K C fI c := ⟨h.ox, h.no, h.iC⟩
/-! ### the Hook: names, defs, and one more test -/
def obsX (fa : List He.Fa) (fn : List He.DefD) (ex : PySem.W.Frag → Bool) (K : PySem.W.Frag) : He.AlD × Bool := (He.obsD fa fn K, ex K)
def SaysX (fa : List He.Fa) (fn : List He.DefD) (ex : PySem.W.Frag → Bool) (K : PySem.W.Frag) : Prop := obsX fa fn ex K = (He.valD fn, true)
theorem SaysX.d {fa : List He.Fa} {fn : List He.DefD} {ex : PySem.W.Frag → Bool} {K : PySem.W.Frag} (h : SaysX fa fn ex K) : He.SaysD fa fn K := congrArg (fun z : He.AlD × Bool => z.1) h
theorem SaysX.x {fa : List He.Fa} {fn : List He.DefD} {ex : PySem.W.Frag → Bool} {K : PySem.W.Frag} (h : SaysX fa fn ex K) : ex K = true := congrArg (fun z : He.AlD × Bool => z.2) h
/-! ### a def that is ready to be called -/
structure Rdy (P : Program) (w : World) (K : PySem.W.Frag) (mg : Str → Option Value) (base : Heap) (C : CTb) (x : Str) (st : Stmt) (k n : Nat) (F : FF) (ps : List Str) : Prop where
  ex : ∃ fd, L2.Fun K x x st (He.ga K x) fd ∧ FnOk P w K mg base (L2.CX P w) k (He.ga K x) fd ps (spF K C n F)
  gm : mg x = some (.ref (He.ga K x))
abbrev Bnd (x : Str) (st : Stmt) (ps : List Str) : Prop := ∀ (kV doc pm : Value) (an : Option Addr) (cdv ct : Value) (us : List Value), us.length = ps.length → bindArgs (PySem.W.fnOf x x (defArgs st) (defBody st) (defScope st) .none kV doc pm an cdv ct) ⟨us, []⟩ = pure (ps.zip us)
abbrev BndK (x : Str) (st : Stmt) (ps : List Str) (n : Nat) (ks : List Str) (idx : List Nat) : Prop := ∀ (kV doc pm : Value) (an : Option Addr) (cdv ct : Value) (us ws : List Value), us.length = n → ws.length = ks.length → bindArgs (PySem.W.fnOf x x (defArgs st) (defBody st) (defScope st) .none kV doc pm an cdv ct) ⟨us, ks.zip ws⟩ = pure (ps.zip (pick idx (us ++ ws)))
section
variable {X : Cx} {C : CTb} {xi : XI} {W : WX} {a : Expr} {es : List Expr} {kws : List Keyword} {fs fk : FA} {k n : Nat} {ps ks : List Str} {F : FF} {x : Str} {st : Stmt} {p pos : Pos} {idx : List Nat}
theorem xe_cl (R : Rdy X.prog X.w X.K X.mg X.base C x st k n F ps) (hr : Room k X.A) (hb : Bnd x st ps) (tk : Takes X W) (ha : PA X (a :: es) (rA X.K C xi W fs)) (hg : Gl X x := by rfl) (hdb : (x == ("__debug__" : Str)) = false := by decide)
    (he : starEach (a :: es) X.env = (false, eval a X.env) :: starEach es X.env := by rfl) (hpl : (backTo pos (starEach es X.env)).any (·.1) = false := by rfl) : PE X (.Call (.Name x p) (a :: es) [] pos) (rE X.K C xi W (fCall F n fs)) := by
  obtain ⟨fd, Fu, G⟩ := R.ex
  exact xe_call G hr R.gm Fu.kp (Fu.binds hb) tk ha hg hdb he hpl
theorem xe_clK0 {m : Nat} (R : Rdy X.prog X.w X.K X.mg X.base C x st k m F ps) (hr : Room k X.A) (hb : BndK x st ps 0 ks idx) (hi : ∀ l : List Val, l.length = 0 + ks.length → (pick idx l).length = m) (tk : Takes X W) (hkw : PK X kws (rA X.K C xi W fk))
    (hg : Gl X x := by rfl) (hall : (backToKw pos (keywordEach kws X.env)).all (·.1.isSome) = true := by rfl) (hks : (backToKw pos (keywordEach kws X.env)).filterMap (·.1) = ks := by rfl)
    (hdb : (x == ("__debug__" : Str)) = false := by decide) (hpl : ((backTo pos (starEach [] X.env)).any (·.1) || (backToKw pos (keywordEach kws X.env)).any (·.1.isNone)) = false := by rfl) :
    PE X (.Call (.Name x p) [] kws pos) (rE X.K C xi W (fCallK F 0 ks.length idx fNil fk)) := by
  obtain ⟨fd, Fu, G⟩ := R.ex
  exact xe_callK0 G hr R.gm Fu.kp (kbn Fu 0 ks idx hb) hi tk hkw hg hall hks hdb hpl
end
/-- a def's derivation makes it ready -/
theorem rdy_of {P : Program} {w : World} {K : PySem.W.Frag} {mg : Str → Option Value} {base : Heap} {C : CTb} {x : Str} {st : Stmt} {k n : Nat} {N ps : List Str} {b : FS} (gm : mg x = some (.ref (He.ga K x))) (hF : ∃ fd, L2.Fun K x x st (He.ga K x) fd) (S : FnScope N ps (defScope st)) (hn : n = ps.length)
    (hbody : ∀ (cdv : Value) (A : Around) (outer : List PySem.Env) (s : Shared) (H : Hp) (E : XK), Room k (A.deeper (envOfC x (defScope st) s.heap.objs.size (He.ga K x) cdv)) →
      PSs (cxOf (L2.CX P w) P w K mg base N x (defScope st) (He.ga K x) cdv A outer s H E) (defBody st) (rS K C none (fun cls d _ H => E cls d H) b)) : Rdy P w K mg base C x st (k + 1) n (runF N.length b) ps := by
  obtain ⟨fd, F⟩ := hF
  exact ⟨⟨fd, F, fn_ok F S hn hbody⟩, gm⟩
theorem def_fun {fa : List He.Fa} {fn : List He.DefD} {K : PySem.W.Frag} (c : He.SaysD fa fn K) (i : Nat) {x : Str} {st : Stmt} (h : fn[i]? = some ⟨(x, none), x, x, defArgs st, defBody st, defScope st, [], []⟩ := by rfl) : ∃ fd, L2.Fun K x x st (He.ga K x) fd := by
  obtain ⟨fd, F⟩ := c.def_ i h
  exact ⟨fd, He5.fun_of F⟩
/-! ### the law's own start -/
end Fn
end
section
namespace Fn
open PySem PySem.Spec PyProof.Rows L2
/-! ## the last wrappers -/
section
variable {X : Cx} {C : CTb} {xi : XI} {W : WX} {a b : Expr} {fa fb : FE} {es : List Expr} {fs : FA} {pos p pos2 : Pos} {k n c : Nat} {x f : Str} {F : FF} {ps : List Str}
theorem xt_cmpO {op : CmpOp} {g : Val → Val → Store → OR} (o : CmpOk X C op g) (ha : PE X a (rE X.K C xi W fa)) (hb : PE X b (rE X.K C xi W fb)) (hm : behindInMarks op b = false := by first | exact nomark _ | rfl) : PT X (.Compare a [op] [b] pos) (rT X.K C xi W (fTest (fBin g fa fb))) := by
  obtain ⟨r, h1, h2⟩ := o.ok
  exact xt_cmp h1 h2 ha hb hm
/-- the __init__ of the errors, ready -/
structure IniR (P : Program) (w : World) (K : PySem.W.Frag) (mg : Str → Option Value) (base : Heap) (fI : Addr) : Prop where
  ex : ∃ fd, FnOk P w K mg base (L2.CX P w) 1 fI fd [selfS, whatS] (spInit K) ∧ L2.Binds K fd [selfS, whatS] []
  tI : PySem.W.typeIn K (.ref fI) = some (.type "function")
theorem xs_rs {fI : Addr} (R : IniR X.prog X.w X.K X.mg X.base fI) (hc : X.calm = true) (tk : Takes X W) (E : ExAll X.K (C c) fI) (hr : Room 2 X.A) (hm : X.mg x = some (.ref (C c))) (ha : PE X a (rE X.K C none W fa)) (hg : Gl X x := by rfl)
    (hdb : (x == ("__debug__" : Str)) = false := by decide) (he : starEach (a :: []) X.env = (false, eval a X.env) :: starEach [] X.env := by rfl) :
    PS X (.Raise (some (.Call (.Name x p) [a] [] pos)) none pos2) (rS X.K C none W (fRaise c fa)) := by
  obtain ⟨fd, G, hb⟩ := R.ex
  exact xs_raise hc tk E.exF R.tI G hr hb hm ha hg hdb he
/-- a class with its own __init__, ready to be made -/
structure MkR (P : Program) (w : World) (K : PySem.W.Frag) (mg : Str → Option Value) (base : Heap) (C : CTb) (x : Str) (c k n : Nat) (F : FF) (ps : List Str) : Prop where
  ex : ∃ fI fd, Mk K (C c) fI ∧ FnOk P w K mg base (L2.CX P w) k fI fd ps (spF K C (n + 1) F) ∧ L2.Binds K fd ps []
  gm : mg x = some (.ref (C c))
/-! ### methods by name -/
variable {o : Expr} {fo : FE} {apos cpos : Pos}
end
/-! ### targets of comprehensions -/
theorem hu_r {A : Around} {k : Nat} (hr : Room k A) : A.units + 64 < cLine := by have := hr.un; omega
end Fn
end
section
namespace Fn
open PySem PySem.Spec PyProof.Rows L2
section
variable {X : Cx} {C : CTb} {xi : XI} {W : WX} {a : Expr} {fa : FE} {pos : Pos}
theorem xe_gI {x : Str} {i : Int} (hm : ∃ t, X.mg x = some (.int i t)) (hg : Gl X x := by rfl) (hd : (x == ("__debug__" : Str)) = false := by decide) : PE X (.Name x pos) (rE X.K C xi W (fK (.int i))) := by
  obtain ⟨t, h⟩ := hm
  exact xe_gInt h hg hd
/-- x op= e on ints -/
structure IpOk (X : Cx) (C : CTb) (op : Operator) (g : Val → Val → Store → OR) : Prop where
  ok : ∃ r : R2, OpR X (inplaceOp op) r ∧ Op2 X.K C g r
def oAddI := oInt2 fun i j => some (.int (i + j))
def oSubI := oInt2 fun i j => some (.int (i - j))
end
/-! ### over a list or a tuple -/
def iSeq (f : FE) : FI := fun e h => match f e h with
  | .ok (.tup xs) h1 => .ok (.vals xs) h1
  | .ok (.wtup xs) h1 => .ok (.vals xs) h1
  | .ok (.ftup xs) h1 => .ok (.vals xs) h1
  | _ => iLst f e h
theorem xi_seq {X : Cx} {C : CTb} {xi : XI} {W : WX} {a tg : Expr} {fa : FE} (ha : PE X a (rE X.K C xi W fa)) : PI X tg a (rI X.K C xi W (iSeq fa)) := by
  have b1 := xi_list (tg := tg) ha
  have b2 := xi_tup (tg := tg) ha
  refine ⟨fun pins s σ H Q I q => ?_⟩
  obtain ⟨S, e, h, rfl, rp, re, p⟩ := q
  unfold iSeq at p
  cases q : fa e h with
  | ok x h1 =>
    cases x with
    | tup xs => exact b2.run pins s σ S.H Q I ⟨S, e, h, rfl, rp, re, by unfold iTpl; rw [q] at p ⊢; exact p⟩
    | wtup xs => exact b2.run pins s σ S.H Q I ⟨S, e, h, rfl, rp, re, by unfold iTpl; rw [q] at p ⊢; exact p⟩
    | ftup xs => exact b2.run pins s σ S.H Q I ⟨S, e, h, rfl, rp, re, by unfold iTpl; rw [q] at p ⊢; exact p⟩
    | _ => exact b1.run pins s σ S.H Q I ⟨S, e, h, rfl, rp, re, by rw [q] at p; exact p⟩
  | exc c w h1 => exact b1.run pins s σ S.H Q I ⟨S, e, h, rfl, rp, re, by rw [q] at p; exact p⟩
  | stuck => exact b1.run pins s σ S.H Q I ⟨S, e, h, rfl, rp, re, by rw [q] at p; exact p⟩
/-- the statements of a class -/
def clsB : Stmt → List Stmt
  | .ClassDef (body := b) .. => b
  | _ => []
/-! ### the scope of a comprehension, decided -/
end Fn
end
section
namespace Fn
open PySem PySem.Spec PyProof.Rows L2
theorem cx_no {P : Program} {w : World} {outer : List PySem.Env} {H : Hp} {s : Shared} {e : Value} {s' : Shared} (h : L2.CX P w outer H s (fun _ _ _ => False) e s') : False := by
  obtain ⟨_, _, _, _, _, _, _, _, _, _, _, _, z⟩ := h
  exact z
end Fn
end
section
namespace Fn
open PySem PySem.Spec PyProof.Rows L2
/-! ## {k: v} -/
section
variable {X : Cx} {C : CTb} {xi : XI} {W : WX} {k v : Expr} {fk fv : FE} {pos : Pos}
end
end Fn
end
section
namespace Fn
open PySem PySem.Spec PyProof.Rows L2
/-! ## dict comprehensions, keys ints or texts -/
section
variable {X : Cx} {C : CTb} {W : WX} {t : FT} {fk fv : FE} {it : FI} {pos : Pos}
end
end Fn
end
section
namespace Fn
open PySem PySem.Spec PyProof.Rows L2
/-! ## data in a tuple of data -/
section
variable {X : Cx} {C : CTb}
end
end Fn
end
section
namespace Fn
open PySem PySem.Spec PyProof.Rows L2
/-! ## t.index(i) over a tuple of ints -/
end Fn
end
section
namespace Fn
open PySem PySem.Spec PyProof.Rows L2
/-! ## list.pop(), gcd -/
def bGcd : Val → Val → Store → OR := fun x y h => match x, y with
  | .int i, .int j => some (.int ((Nat.gcd i.natAbs j.natAbs : Nat) : Int), h)
  | _, _ => none
section
variable {K : PySem.W.Frag} {C : CTb}
end
section
variable {X : Cx} {C : CTb} {xi : XI} {W : WX} {o a b : Expr} {fo : FE} {fs : FA} {apos cpos pos p : Pos} {x : Str}
end
end Fn
end
section
namespace Fn
open PySem PySem.Spec PyProof.Rows L2
/-! ## tuple(a list), laid so that it stays; its index -/
section
variable {K : PySem.W.Frag} {C : CTb}
end
section
variable {X : Cx} {C : CTb} {xi : XI} {W : WX} {o a : Expr} {fo : FE} {fs : FA} {apos cpos pos p : Pos}
end
end Fn
end
section
namespace Fn
open PySem PySem.Spec PyProof.Rows L2
/-! ## a dict with tuples for keys, walked -/
section
variable {K : PySem.W.Frag} {C : CTb}
end
section
variable {X : Cx} {C : CTb} {xi : XI} {W : WX} {a tg x : Expr} {fa f : FE}
end
/-! ## dict(a list of pairs) -/
section
variable {K : PySem.W.Frag} {C : CTb}
end
/-! ## list.pop(i) -/
section
variable {K : PySem.W.Frag} {C : CTb}
end
/-! ## data in a list of data -/
section
variable {X : Cx} {C : CTb} {xi : XI} {W : WX} {o a : Expr} {fo : FE} {fs : FA} {apos cpos pos p : Pos}
end
/-! ## is None, as a test -/
section
variable {K : PySem.W.Frag} {X : Cx} {C : CTb}
end
/-! ## a, b = a list -/
section
variable {X : Cx} {C : CTb} {xi : XI} {W : WX} {es : List Expr} {gts : FGs} {pos : Pos}
end
end Fn
end
section
namespace Fn
open PySem PySem.Spec PyProof.Rows L2
/-! ## one parameter by name only, its default a number -/
structure RdyD (P : Program) (w : World) (K : PySem.W.Frag) (mg : Str → Option Value) (base : Heap) (C : CTb) (x : Str) (st : Stmt) (k n : Nat) (F : FF) (ps : List Str) (dn : Str) (dv : Int) : Prop where
  ex : ∃ fd, L2.FunD K x x (defArgs st) (defBody st) (defScope st) [] [(dn, .int dv)] (He.ga K x) fd ∧ FnOk P w K mg base (L2.CX P w) k (He.ga K x) fd ps (spF K C n F)
  gm : mg x = some (.ref (He.ga K x))
def fCallD (F : FF) (n : Nat) (dv : Int) (fs : FA) : FE := fun e h => (fs e h).bind fun xs h1 => if xs.length = n then F (xs ++ [.int dv]) h1 else .stuck
section
variable {X : Cx} {C : CTb} {xi : XI} {W : WX} {a : Expr} {es : List Expr} {kws : List Keyword} {fs fk : FA} {k n m : Nat} {ps ks : List Str} {F : FF} {x dn : Str} {dv : Int} {st : Stmt} {p pos : Pos} {idx : List Nat} {f : Addr} {fd : FuncData}
end
end Fn
end
section
namespace Fn
open PySem PySem.Spec PyProof.Rows L2
/-! ## del d[k], tuples for keys -/
def delD (o i : Val) (h : Store) : Option Store := match o, i with
  | .loc l, .tup xs => match h[l]? with
    | some (.dT kvs) => match asKeys xs with
      | some k => match getK kvs k with
        | some _ => some (h.set l (.dT (delK kvs k)))
        | none => none
      | none => none
    | _ => none
  | _, _ => none
def fDel (fo fi : FE) : FS := fun e h => RS.ofE (fo e h) (fun o h1 => RS.ofE (fi e h1) (fun i h2 => match delD o i h2 with
  | some h3 => .next e h3
  | none => .stuck) e) e
section
variable {X : Cx} {C : CTb} {xi : XI} {W : WX} {o i a : Expr} {fo fi fa : FE} {pos tpos : Pos}
/-! ## d[k] op= e, ints -/
def fAugD (fo fi fv : FE) (g : Val → Val → Store → OR) : FS := fun e h => RS.ofE (fo e h) (fun o h1 => RS.ofE (fi e h1) (fun i h2 => RS.ofE (R.of (oDGet o i h2)) (fun x h3 => RS.ofE (fv e h3) (fun y h4 => RS.ofE (R.of (g x y h4)) (fun z h5 => match sDic o i z h5 with
  | some h6 => .next e h6
  | none => .stuck) e) e) e) e) e
end
end Fn
end
section
namespace Fn
open PySem PySem.Spec PyProof.Rows L2
/-! ## dict comprehensions, tuples for keys -/
section
variable {X : Cx}
end
end Fn
end
section
namespace Fn
open PySem PySem.Spec PyProof.Rows L2
/-! ## their function -/
section
variable {X : Cx} {C : CTb} {W : WX} {t : FT} {fk fv : FE} {it : FI} {pos : Pos}
end
end Fn
end
section
namespace Fn
open PySem PySem.Spec PyProof.Rows L2
/-! ## instances of one class: isinstance, and == and != by their own __eq__ -/
section
variable {X : Cx} {C : CTb} {xi : XI} {W : WX} {a : Expr} {fa : FE} {p p2 pos : Pos} {x : Str} {c k : Nat} {f : Addr} {fd : FuncData} {ps : List Str} {F : FF}
end
/-- the class has its own __eq__, which is f, and no __ne__ of its own, and stands under object alone -/
structure OwnNe (K : PySem.W.Frag) (C f : Addr) : Prop where
  cls : ∃ nm q N bs hdct sn sub ab col dd k0 k1 k2 k3 k5 newId oN es ep, K.lookup C = some (excClassObj nm q C N bs [.type "object"] hdct sn sub ab col dd k0 k1 k2 k3 k5 newId) ∧ K.lookup N = some oN ∧ oN.data = .dict es ep ∧ StrKeys es ∧ nsFind es ("__eq__" : Str) = some (.ref f) ∧ nsFind es ("__ne__" : Str) = none
  fn : ∃ of, K.lookup f = some of ∧ of.cls = .type "function"
end Fn
end
section
namespace Fn
open PySem PySem.Spec PyProof.Rows L2
/-! ## the facts of a class, from the heap's fragment -/
/-- what is known of an own __eq__ -/
structure EqR (P : Program) (w : World) (K : PySem.W.Frag) (mg : Str → Option Value) (base : Heap) (C : CTb) (c k : Nat) (F : FF) (ps : List Str) : Prop where
  ex : ∃ f fd, OwnNe K (C c) f ∧ FnOk P w K mg base (L2.CX P w) k f fd ps (spF K C 2 F) ∧ L2.Binds K fd ps []
end Fn
end
section
namespace Fn
open PySem PySem.Spec PyProof.Rows L2
/-! ## a name of the module that is a built-in -/
def bltB (K : PySem.W.Frag) (x : Str) (id : String) : Bool := He.eqO (PySem.W.nsIn K mainGlobals x) (some (some (.builtin id)))
theorem blt_ok {K : PySem.W.Frag} {h : Heap} {mg : Str → Option Value} (X : K.In h) (G : h.Ns mainGlobals mg) {x : Str} {id : String} (c : bltB K x id = true) : mg x = some (.builtin id) := PySem.W.mg_of X G (He.eqO_ok c)
end Fn
end
section
namespace Fn
open PySem PySem.Spec PyProof.Rows L2
/-! ## y = {k: v for ..}, y a plain local name -/
section
variable {X : Cx}
end
section
variable {X : Cx} {C : CTb} {W : WX} {t : FT} {fk fv : FE} {it : FI}
end
end Fn
end
section
namespace Fn
open PySem PySem.Spec PyProof.Rows L2
/-! ## comb, isqrt, factorial; reversed(a list) walked; x *= e -/
def combB (i j : Int) : Bool := decide (0 ≤ i) && (decide (0 ≤ j) && (decide (i < 18446744073709551616) && (decide (j ≤ 9000) || decide (i ≤ 18000))))
theorem combB_ok {i j : Int} (h : combB i j = true) : 0 ≤ i ∧ 0 ≤ j ∧ i < 2 ^ 64 ∧ (j ≤ 9000 ∨ i ≤ 18000) := by
  unfold combB at h
  simp only [Bool.and_eq_true, Bool.or_eq_true, decide_eq_true_eq] at h
  obtain ⟨h1, h2, h3, h4⟩ := h
  exact ⟨h1, h2, by omega, h4⟩
def bComb : Val → Val → Store → OR := fun x y h => match x, y with
  | .int i, .int j => if combB i j then some (.int (PySem.W.mcComb i j), h) else none
  | _, _ => none
def rComb : List V → Hp → VK → Prop := fun vs H Q => ∃ a b : Int, vs = [.int a, .int b] ∧ combB a b = true ∧ Q (.int (PySem.W.mcComb a b)) H
section
variable {X : Cx}
theorem cr_comb : CallR X (.builtin "math.comb") rComb := by
  intro pins s σ H vs us Q I r h
  obtain ⟨a, b, rfl, c, q⟩ := h
  obtain ⟨t, u, rfl⟩ := Vals.int2 r
  obtain ⟨c1, c2, c3, c4⟩ := combB_ok c
  exact PySem.W.mc_comb c1 c2 c3 c4 fun _ => ⟨.int _, H, I.tok _, ⟨_, rfl⟩, q⟩
end
section
variable {K : PySem.W.Frag} {C : CTb}
theorem f_comb : OpN K C (two bComb) rComb := f_two fun S h x y a b Q rp ra rb p => by
  cases a with
  | int i =>
    cases b with
    | int j =>
      rw [RV.int' ra, RV.int' rb]
      unfold bComb at p
      by_cases c : combB i j = true
      · simp only [c, if_true] at p
        exact ⟨i, j, rfl, c, PO.here p rp (.int _)⟩
      · simp only [c] at p
        exact False.elim p
    | _ => exact False.elim p
  | _ => exact False.elim p
end
section
variable {X : Cx} {C : CTb} {xi : XI} {W : WX} {a b : Expr} {fs : FA} {apos cpos pos p : Pos} {x : Str}
theorem xe_comb (hm : X.mg x = some (.builtin "math.comb")) (ha : PA X [a, b] (rA X.K C xi W fs)) (hg : Gl X x := by rfl) (hdb : (x == ("__debug__" : Str)) = false := by decide)
    (he : starEach (a :: [b]) X.env = (false, eval a X.env) :: starEach [b] X.env := by rfl) (hpl : (backTo pos (starEach [b] X.env)).any (·.1) = false := by rfl) :
    PE X (.Call (.Name x p) [a, b] [] pos) (rE X.K C xi W (fB (two bComb) fs)) := by
  refine PE_mono (pe_callBfun cr_comb hg hm ha hdb he hpl) ?_
  rintro σ H Q ⟨S, e, h, rfl, rp, re, p⟩
  refine ⟨S, e, h, rfl, rp, re, (PL.bind re p).imp ?_⟩
  rintro vs H1 ⟨S1, xs, h1, rfl, l1, rp1, re1, rv1, p1⟩
  exact f_comb S1 h1 vs xs Q rp1 rv1 (PO.of p1)
end
/-! ### reversed(a list) -/
section
variable {K : PySem.W.Frag} {C : CTb}
end
def iRvL (f : FA) : FI := fun e h => (f e h).bind fun xs h1 => match xs with
  | [.loc l] => match h1[l]? with
    | some (.lst ys) => .ok (.rev l ys.length) h1
    | _ => .stuck
  | _ => .stuck
section
variable {X : Cx} {C : CTb} {xi : XI} {W : WX} {a tg : Expr} {fs : FA} {fa : FE} {p pos : Pos}
end
end Fn
end
section
namespace Fn
open PySem PySem.Spec PyProof.Rows L2
/-! ## zip of two tuples; a def that calls itself -/
def zipV : List Val → List Val → List Val
  | x :: xs, y :: ys => .tup [x, y] :: zipV xs ys
  | _, _ => []
/-- the items of a tuple -/
def tupI : Val → Option (List Val)
  | .tup xs => some xs
  | .wtup xs => some xs
  | .ftup xs => some xs
  | _ => none
def iZpT (f : FA) : FI := fun e h => (f e h).bind fun xs h1 => match xs with
  | [a, b] => match tupI a, tupI b with
    | some xs, some ys => .ok (.vals (zipV xs ys)) h1
    | _, _ => .stuck
  | _ => .stuck
section
variable {X : Cx} {C : CTb} {xi : XI} {W : WX} {a b : Expr} {fs : FA} {p pos tpos : Pos} {elts : List Expr} {kk : Nat}
end
end Fn
end
section
namespace Fn
open PySem PySem.Spec PyProof.Rows L2
/-! ## range(i, j, -1) -/
section
variable {X : Cx} {C : CTb} {xi : XI} {W : WX} {a b c tg : Expr} {fs : FA} {p pos : Pos}
end
end Fn
end
section
namespace Fn
open PySem PySem.Spec PyProof.Rows L2
/-! ## e is True, e is False -/
section
variable {K : PySem.W.Frag} {C : CTb}
end
section
variable {X : Cx} {C : CTb}
end
end Fn
end
section
namespace Fn
open PySem PySem.Spec PyProof.Rows L2
/-! ## [e for a in x if .. for b in y if ..] -/
section
variable {X : Cx} {C : CTb} {W : WX} {it it1 : FI} {t t1 : FT} {f : FE} {pos : Pos}
end
end Fn
end
section
namespace Fn
open PySem PySem.Spec PyProof.Rows L2
/-! ## == of two instances by their own __eq__ -/
end Fn
end
section
namespace Fn
open PySem PySem.Spec PyProof.Rows L2
/-! ## a statement that walks a dict of tuple keys -/
theorem REnv.mono2 {K : PySem.W.Frag} {S S' : Sg} {σ : L2.St} {e : Env} (l : Le2 S S') (r : REnv K none S σ e) : REnv K none S' σ e :=
  ⟨r.len, fun i x q => let ⟨v, a, b⟩ := r.at_ i x q; ⟨v, a, b.mono2 l⟩, True.intro⟩
section
variable {X : Cx} {C : CTb} {W : WX} {f : FS} {st : Stmt}
end
end Fn
end
section
namespace Fn
open PySem PySem.Spec PyProof.Rows L2
/-! ## a display with tuples as keys -/
section
variable {X : Cx} {C : CTb} {xi : XI} {W : WX} {k v k2 v2 : Expr} {fk fv fk2 fv2 : FE} {pos : Pos}
end
/-! ## dict(d), the keys tuples of ints of which no two hash alike -/
section
variable {K : PySem.W.Frag} {C : CTb}
end
section
variable {X : Cx} {C : CTb} {xi : XI} {W : WX} {a : Expr} {fs : FA} {p pos : Pos}
end
end Fn
end
section
namespace Fn
open PySem PySem.Spec PyProof.Rows L2
/-! ## max and min of three ints -/
section
variable {K : PySem.W.Frag} {C : CTb}
end
section
variable {X : Cx} {C : CTb} {xi : XI} {W : WX} {a b c : Expr} {fs : FA} {p pos : Pos}
end
end Fn
end
section
namespace Fn
open PySem PySem.Spec PyProof.Rows L2
/-! ## a tuple, so many times -/
/-! ## reversed(a tuple) -/
section
variable {X : Cx} {C : CTb} {xi : XI} {W : WX} {a b tg : Expr} {fa fb : FE} {fs : FA} {p pos : Pos}
end
/-! ## data in a list of data -/
/-! ## == by an own __eq__, as a comparison -/
structure EqE (P : Program) (w : World) (K : PySem.W.Frag) (mg : Str → Option Value) (base : Heap) (C : CTb) (c k : Nat) (F : FF) (ps : List Str) : Prop where
  ex : ∃ f fd, (PySem.W.findIn K (.ref (C c)) "__eq__" = some (some (.ref f)) ∧ PySem.W.isFn K (.ref f) = true) ∧ FnOk P w K mg base (L2.CX P w) k f fd ps (spF K C 2 F) ∧ L2.Binds K fd ps []
end Fn
end
section
namespace Fn
open PySem PySem.Spec PyProof.Rows L2
/-! ## sum(d.values()), the keys of d tuples -/
/-! ### over the store -/
def allI : List (List Key × Val) → Option (List Int)
  | [] => some []
  | (_, .int i) :: r => (allI r).map (i :: ·)
  | _ => none
theorem RKs.ints {K : PySem.W.Frag} {S : Sg} : ∀ {ws : List (List Key × V)} {kvs : List (List Key × Val)} {ns : List Int}, RKs K S ws kvs → allI kvs = some ns → ws.map (·.2) = ns.map V.int
  | _, _, ns, .nil, e => by cases e; rfl
  | _, _, ns, .cons (x := x) r t, e => by
    cases x with
    | int i =>
      obtain ⟨m, hm, rfl⟩ := map_some (show (allI _).map (i :: ·) = some ns from e)
      rw [List.map_cons, List.map_cons, RKs.ints t hm, RV.int' r]
    | _ => cases e
section
variable {X : Cx} {C : CTb} {xi : XI} {W : WX} {a : Expr} {fa : FE} {p pos apos cpos : Pos}
end
end Fn
end
section
namespace Fn
open PySem PySem.Spec PyProof.Rows L2
/-! ## a display of any number of pairs with tuples as keys -/
section
variable {X : Cx} {C : CTb} {xi : XI} {W : WX} {pos : Pos}
end
end Fn
end
section
namespace Fn
open PySem PySem.Spec PyProof.Rows L2
/-! ## d.pop(k, x), the keys tuples -/
section
variable {K : PySem.W.Frag} {C : CTb}
end
section
variable {X : Cx} {C : CTb} {xi : XI} {W : WX} {o a b : Expr} {fo : FE} {fs : FA} {apos cpos : Pos}
end
end Fn
end
section
namespace Fn
open PySem PySem.Spec PyProof.Rows L2
/-! ## y = {k: v for ..}, the keys tuples -/
section
variable {X : Cx}
end
section
variable {X : Cx} {C : CTb} {W : WX} {t : FT} {fk fv : FE} {it : FI}
end
end Fn
end
section
namespace Fn
open PySem PySem.Spec PyProof.Rows L2
/-! ## sets of ints made by a comprehension; how many -/
section
variable {X : Cx}
end
end Fn
end
section
namespace Fn
open PySem PySem.Spec PyProof.Rows L2
/-! ## len({x[c] for x in xs}), xs a tuple of tuples -/
section
variable {X : Cx} {C : CTb} {W : WX}
end
end Fn
end
section
namespace Fn
open PySem PySem.Spec PyProof.Rows L2
/-! ## xs[k] op= e, xs a list -/
section
variable {X : Cx} {C : CTb} {xi : XI} {W : WX} {o i a : Expr} {fo fi fa : FE} {pos tpos : Pos}
end
end Fn
namespace Fn
open PySem PySem.Spec PyProof.Rows L2
end Fn
end
section
namespace Fn
open PySem PySem.Spec PyProof.Rows L2
/-! ## max(t), t a tuple of ints -/
section
variable {prog : Program} {w : World} {A : Around} {E : Value → Shared → Prop} {s : Shared} {l : Addr} {its : List Value} {ns : List Int} {Q : Value → Shared → Prop}
end
section
variable {K : PySem.W.Frag} {C : CTb}
end
section
variable {X : Cx} {C : CTb} {xi : XI} {W : WX} {a : Expr} {fs : FA} {p pos : Pos}
end
end Fn
end
section
namespace Fn
open PySem PySem.Spec PyProof.Rows L2
/-! ## sum(t), t a tuple of ints -/
section
variable {prog : Program} {w : World} {A : Around} {E : Value → Shared → Prop} {s : Shared} {l : Addr} {its : List Value} {ns : List Int} {Q : Value → Shared → Prop}
end
section
variable {K : PySem.W.Frag} {C : CTb}
end
section
variable {X : Cx} {C : CTb} {xi : XI} {W : WX} {a : Expr} {fs : FA} {p pos : Pos}
end
end Fn
end
section
namespace Fn
open PySem PySem.Spec PyProof.Rows L2
/-! ## a tuple display laid so that it stays; its sum, its count; sorted(set(t)) -/
section
variable {X : Cx} {es : List Expr} {t : TA} {pos : Pos}
end
section
variable {X : Cx} {C : CTb} {xi : XI} {W : WX} {es : List Expr} {fs : FA} {pos : Pos}
end
section
variable {K : PySem.W.Frag} {C : CTb}
end
section
variable {X : Cx} {C : CTb} {xi : XI} {W : WX} {a : Expr} {fs : FA} {p pos : Pos}
end
/-! ### t.count(k) -/
section
variable {K : PySem.W.Frag} {C : CTb}
end
section
variable {X : Cx} {C : CTb} {xi : XI} {W : WX} {o a : Expr} {fo : FE} {fs : FA} {apos cpos pos p : Pos}
end
/-! ### sorted(set(t)) -/
def insI (k : Int) : List Int → List Int
  | [] => [k]
  | x :: r => if k < x then k :: x :: r else if k = x then x :: r else x :: insI k r
def sset (l : List Int) : List Int := l.foldr insI []
section
variable {X : Cx} {C : CTb} {xi : XI} {W : WX} {a : Expr} {fs : FA} {p p2 pos pos2 : Pos}
end
/-! ### x *= y, great numbers -/
end Fn
end
section
namespace Fn
open PySem PySem.Spec PyProof.Rows L2
/-! ## xs.extend(ys); t >= u of tuples of ints -/
section
variable {K : PySem.W.Frag} {C : CTb}
end
section
variable {K : PySem.W.Frag} {C : CTb}
end
section
variable {X : Cx} {C : CTb} {xi : XI} {W : WX} {o a : Expr} {fo : FE} {fs : FA} {apos cpos pos p : Pos}
end
end Fn
end
section
namespace Fn
open PySem PySem.Spec PyProof.Rows L2
/-! ## repr of an int; t + u of tuples laid so that they stay -/
theorem strOk_of (s : String) : PyData.strOk (Str.ofString s) = true := by
  rw [Str.ofString_eq_toList]
  unfold PyData.strOk
  rw [Array.all_eq_true_iff_forall_mem]
  intro n hn
  have hn : n ∈ s.toList.map Char.toNat := by simpa using hn
  obtain ⟨c, _, rfl⟩ := List.mem_map.mp hn
  have h := c.valid
  have h2 : c.toNat < 0x110000 := by
    unfold Char.toNat
    rcases h with h | h
    · have : c.val.toNat < 0xd800 := h
      omega
    · exact h.2
  exact decide_eq_true h2
def bReprI : Val → Store → OR := fun x h => match x with
  | .int i => if Nat.blt i.natAbs.log2 1920 then some (.str (toString i), h) else none
  | _ => none
def rReprI : List V → Hp → VK → Prop := fun xs H Q => ∃ i : Int, xs = [.int i] ∧ i.natAbs.log2 < 1920 ∧ Q (.str (toString i)) H
section
variable {K : PySem.W.Frag} {C : CTb}
theorem f_reprI : OpN K C (one bReprI) rReprI := f_one fun S h x a Q rp r p => by
  unfold bReprI at p
  cases a with
  | int i =>
    rw [RV.int' r]
    by_cases c : Nat.blt i.natAbs.log2 1920 = true
    · simp only [c, if_true] at p
      exact ⟨i, rfl, by simpa [Nat.blt_eq] using c, PO.here p rp (.str _)⟩
    · simp only [c] at p
      exact False.elim p
  | _ => exact False.elim p
end
section
variable {X : Cx} {C : CTb} {xi : XI} {W : WX} {a : Expr} {fs : FA} {p pos : Pos}
end
/-! ### t + u -/
section
variable {K : PySem.W.Frag} {C : CTb}
end
section
variable {X : Cx} {C : CTb} {xi : XI} {W : WX} {a b : Expr} {fa fb : FE} {pos : Pos}
end
end Fn
end
section
namespace Fn
open PySem PySem.Spec PyProof.Rows L2
/-! ## defs that are called where no container is being shown: room and guards -/
structure RoomG (k : Nat) (A : Around) : Prop where
  r : Room k A
  g : A.guards = some []
theorem RoomG.mono {j k : Nat} {A : Around} (h : RoomG k A) (l : j ≤ k) : RoomG j A := ⟨h.r.mono l, h.g⟩
/-- what a def promises where it is called from A -/
def FnAt (P : Program) (w : World) (K : PySem.W.Frag) (mg : Str → Option Value) (base : Heap) (CX : CXT) (A : Around) (f : Addr) (fd : FuncData) (ps : List Str) (sp : Sp) : Prop :=
  ∀ (outer : List PySem.Env) (s : Shared) (H : Hp) (as : Args) (us : List Value) (vs : List V) (Q : VK) (E : XK), Env0 P w K mg base A outer s H → BindsTo s fd as (ps.zip us) → Vals vs us → sp vs H Q E →
    codeAny (model P w) A (.call (.ref f) as) (CR CX outer P w H s Q E) s
/-! ### the law's call -/
section
variable {P : Program} {w : World} {K : PySem.W.Frag} {mg mb : Str → Option Value} {CX : CXT} {fa a : Addr} {cs : List (Addr × Addr)} {fd : FuncData} {x : Str} {sp : Sp} {s0 : Shared} {vs : List Value} {ns : List Int}
/-- what is tracked at the start: the tables, and the script where the program does not hold it -/
def H0 (K : PySem.W.Frag) (T : List Addr) (a : Addr) (o : Obj) (xs : List V) : Hp := fun b => if b ∈ T then some (.tbl #[]) else if b = a ∧ K.lookup a = none then some (.frz o (.lst xs)) else none
theorem H0_cases {T : List Addr} {a b : Addr} {o : Obj} {xs : List V} : (b ∈ T ∧ H0 K T a o xs b = some (.tbl #[])) ∨ (b ∉ T ∧ b = a ∧ K.lookup a = none ∧ H0 K T a o xs b = some (.frz o (.lst xs))) ∨ (b ∉ T ∧ (b = a → K.lookup a ≠ none) ∧ H0 K T a o xs b = none) := by
  unfold H0
  by_cases h1 : b ∈ T
  · exact .inl ⟨h1, if_pos h1⟩
  · by_cases h2 : b = a ∧ K.lookup a = none
    · exact .inr (.inl ⟨h1, h2.1, h2.2, by rw [if_neg h1, if_pos h2]⟩)
    · exact .inr (.inr ⟨h1, fun e z => h2 ⟨e, z⟩, by rw [if_neg h1, if_neg h2]⟩)
theorem law_callG
    (KX : K.In s0.heap) (gns : s0.heap.Ns mainGlobals mg) (bns : s0.heap.Ns builtinsNs mb) (bok : ∀ y : Str, y ≠ "__name__" → mb y = bootBuiltins y) (lim : s0.heap.NoLimit) (gens0 : s0.gens = #[])
    (tabs : ∀ p ∈ cs, s0.heap.get? p.2 = some { cls := .none, data := .fields #[] }) (tabK : ∀ p ∈ cs, K.lookup p.2 = none) (codes : ∀ p ∈ cs, PySem.W.CodeHd s0.heap p.1 p.2)
    (bmod : cs ≠ [] → ∃ (m : Addr) (o : Obj), mg "__builtins__" = some (.ref m) ∧ m ≠ builtinsNs ∧ s0.heap.get? m = some o ∧ o.cls = .type "module" ∧ o.dict = some builtinsNs ∧ o.data = .plain)
    (scr : s0.heap.get? a = some { cls := .type "list", data := .seq vs.toArray }) (iar : IntsAre vs ns) (short : ns.length ≤ sizeLine)
    (F : ∀ base : Heap, K.In base → base.Ns mainGlobals mg → (∀ p ∈ cs, LamX.TabB base mg p.1 p.2) → FnAt P w K mg base CX callerA fa fd [x] sp) (bind : ∀ (s : Shared) (u : Value), BindsTo s fd ⟨[u], []⟩ [(x, u)])
    (spec : ∀ H : Hp, (∀ p ∈ cs, H p.2 = some (.tbl #[])) → SqF K H a (ns.map V.int) → sp [.ref a] H (fun v _ => v = .bl true) fun _ _ _ => False)
    (noX : ∀ H e s', CX [] H s0 (fun _ _ _ => False) e s' → False) :
    codeAny (model P w) callerA (.call (.ref fa) ⟨[.ref a], []⟩) (fun r s' => r = .ok (.ret (.bool true)) ∧ OldK s0.heap s'.heap ∧ s'.os = s0.os ∧ AllBare s'.gens) s0 := by
  have rel : Vals (ns.map V.int) vs := vals_ints iar
  have inT : ∀ p ∈ cs, p.2 ∈ cs.map (·.2) := fun p hp => List.mem_map.mpr ⟨p, hp, rfl⟩
  have ofT : ∀ b ∈ cs.map (·.2), s0.heap.get? b = some { cls := .none, data := .fields #[] } ∧ K.lookup b = none := fun b hb => by
    obtain ⟨p, hp, rfl⟩ := List.mem_map.mp hb
    exact ⟨tabs p hp, tabK p hp⟩
  generalize hTs : cs.map (·.2) = T at inT ofT
  have aT : a ∉ T := fun z => by
    have h1 := (ofT a z).1
    rw [scr] at h1
    injection h1 with h1
    injection h1 with _ _ h1
    cases h1
  generalize hob : ({ cls := .type "list", data := .seq vs.toArray } : Obj) = ob at scr
  generalize hH : H0 K T a ob (ns.map V.int) = H
  have cases' : ∀ b, (b ∈ T ∧ H b = some (.tbl #[])) ∨ (b ∉ T ∧ b = a ∧ K.lookup a = none ∧ H b = some (.frz ob (.lst (ns.map V.int)))) ∨ (b ∉ T ∧ (b = a → K.lookup a ≠ none) ∧ H b = none) := fun b => by subst hH; exact H0_cases
  have hids : ∀ {b : Addr} {o : Obj}, s0.heap.get? b = some o → (∀ z n, o.data ≠ .seq z n) → o.data ≠ .fields #[] → H b = none := fun {b o} e d1 d2 => by
    rcases cases' b with ⟨h1, _⟩ | ⟨_, h2, _, _⟩ | ⟨_, _, h3⟩
    · rw [(ofT b h1).1] at e
      cases e
      exact absurd rfl d2
    · rw [h2, scr, ← hob] at e
      cases e
      exact absurd rfl (d1 _ _)
    · exact h3
  have low : ∀ {b : Addr} {o : Obj}, s0.heap.get? b = some o → (∀ z n, o.data ≠ .seq z n) → o.data ≠ .fields #[] → (hidT s0.heap H).get? b = some o := fun e d1 d2 => hidT_get e (hids e d1 d2)
  have lowN : ∀ {b : Addr} {m : Str → Option Value}, s0.heap.Ns b m → (hidT s0.heap H).Ns b m := fun {b m} ⟨o, es, ep, e, d, r⟩ => ⟨o, es, ep, low e (fun z n q => by rw [d] at q; cases q) (fun q => by rw [d] at q; cases q), d, r⟩
  have lowK : K.In (hidT s0.heap H) := fun b o e => by
    refine hidT_get (KX b o e) ?_
    rcases cases' b with ⟨h1, _⟩ | ⟨_, h2, h3, _⟩ | ⟨_, _, h3⟩
    · rw [(ofT b h1).2] at e; cases e
    · rw [h2, h3] at e; cases e
    · exact h3
  have modB : L2.Mod K mg (hidT s0.heap H) := by
    obtain ⟨mc, l1, l2⟩ := lim
    exact ⟨lowK, lowN gns, ⟨mb, lowN bns, bok⟩, mc, lowN l1, l2⟩
  have modNe : ∀ {m : Addr} {o : Obj}, s0.heap.get? m = some o → o.data = .plain → m ≠ mainGlobals := fun {m o} e d z => by
    obtain ⟨o', es, ep, e', hd, _⟩ := gns
    rw [z, e'] at e
    cases e
    rw [hd] at d
    cases d
  have tabB : ∀ p ∈ cs, LamX.TabB (hidT s0.heap H) mg p.1 p.2 := fun p hp => by
    have tp := tabs p hp
    constructor
    · obtain ⟨o, us, file, tf, flags, tg, inF, text, tt, e1, r1, r2, r3, rest⟩ := codes p hp
      refine ⟨o, us, file, tf, flags, tg, inF, text, tt, low e1 (fun z n q => by rw [r2] at q; cases q) (fun q => ?_), r1, r2, r3, rest⟩
      rw [r2] at q
      injection q with q
      subst q
      simp at r3
    · obtain ⟨m, o, b1, b2, b3, b4, b5, b6⟩ := bmod (List.ne_nil_of_mem hp)
      refine ⟨m, o, b1, b2, modNe b3 b6, fun z => ?_, low b3 (fun z n q => by rw [b6] at q; cases q) (fun q => by rw [b6] at q; cases q), b4, b5, b6⟩
      rw [z, tp] at b3
      cases b3
      cases b6
    · intro z
      obtain ⟨o', es, ep, e', hd, _⟩ := gns
      rw [z, tp] at e'
      cases e'
      cases hd
  have held : HOk P w H s0.heap := fun b u e => by
    rcases cases' b with ⟨h1, h2⟩ | ⟨_, h2, _, h3⟩ | ⟨_, _, h3⟩
    · rw [h2] at e
      cases e
      exact (ofT b h1).1
    · rw [h3] at e
      cases e
      subst hob h2
      exact ⟨scr, by rw [List.length_map]; exact short, vs, _, rel, scr⟩
    · rw [h3] at e
      cases e
  have seqF : SqF K H a (ns.map V.int) := by
    rcases cases' a with ⟨h1, _⟩ | ⟨_, _, _, h3⟩ | ⟨_, h2, _⟩
    · exact absurd h1 aT
    · exact .inl ⟨ob, h3⟩
    · cases hk : K.lookup a with
      | none => exact absurd hk (h2 rfl)
      | some o =>
        have e := KX a o hk
        rw [scr] at e
        cases e
        subst hob
        have hz : vs.toArray.size ≤ sizeLine := by rw [List.size_toArray, iar.length]; exact short
        exact .inr ⟨_, _, _, hk, rfl, rfl, rfl, hz, by simpa using rel⟩
  have env : Env0 P w K mg (hidT s0.heap H) callerA [] s0 H := ⟨rfl, modB, fun b o e => of_hidT e, Nat.le_of_eq (hidT_size _ _), trivial, fun b q => (nomatch (show b ∈ ([] : List Addr) from q)), held, .of_eq gens0⟩
  have tblH : ∀ p ∈ cs, H p.2 = some (.tbl #[]) := fun p hp => by
    rcases cases' p.2 with ⟨_, h⟩ | ⟨h, _⟩ | ⟨h, _⟩
    · exact h
    · exact absurd (inT p hp) h
    · exact absurd (inT p hp) h
  refine codeAny_mono (F _ lowK (lowN gns) tabB [] s0 H ⟨[.ref a], []⟩ [.ref a] [.ref a] _ _ env (bind s0 (.ref a)) (.cons rfl .nil) (spec H tblH seqF)) fun r s' post => ?_
  cases r with
  | error e => exact (noX H e s' post).elim
  | ok fl =>
    cases fl with
    | ret u =>
      obtain ⟨v, H', hos, hbare, un, hok', hv, hq⟩ := post
      obtain rfl : v = .bl true := hq
      obtain rfl : u = Value.bool true := hv
      have tab' : ∀ b ∈ T, ∃ more : Array Value, s'.heap.get? b = some { cls := .none, data := .fields more } := fun b hb => by
        rcases cases' b with ⟨_, h⟩ | ⟨h, _⟩ | ⟨h, _⟩
        · obtain ⟨more, z⟩ := un.tbls b #[] h
          exact ⟨_, hok' b _ z⟩
        · exact absurd hb h
        · exact absurd hb h
      have old' : ∀ b o, b ∉ T → s0.heap.get? b = some o → s'.heap.get? b = some o := fun b o nb e => by
        rcases cases' b with ⟨h, _⟩ | ⟨_, _, _, h⟩ | ⟨_, _, h⟩
        · exact absurd h nb
        · obtain ⟨g1, _⟩ := held b _ h
          obtain ⟨g2, _⟩ := hok' b _ (un.frzs b ob _ h)
          rw [e] at g1
          cases g1
          exact g2
        · exact un.keep b o e h (fun q => (nomatch (show b ∈ ([] : List Addr) from q))) (by simp)
      refine ⟨rfl, ⟨fun b o e => ?_, fun b o e => ?_⟩, hos, hbare⟩
      · by_cases hb : b ∈ T
        · obtain ⟨more, hm⟩ := tab' b hb
          have hb2 := hb
          rw [← hTs] at hb2
          obtain ⟨p, hp, rfl⟩ := List.mem_map.mp hb2
          rw [tabs p hp] at e
          cases e
          exact .inr (.inl ⟨((codes p hp).tab (tabs p hp)).isCodeTable, rfl, #[], more, rfl, by rw [Array.empty_append]; exact hm⟩)
        · exact .inl (old' b o hb e)
      · by_cases hb : b ∈ T
        · obtain ⟨more, hm⟩ := tab' b hb
          exact ⟨_, hm⟩
        · exact ⟨o, old' b o hb e⟩
    | next => exact False.elim post
    | brk => exact False.elim post
    | cont => exact False.elim post
end
end Fn
end
section
namespace Fn
open PySem PySem.Spec PyProof.Rows L2
/-! ## repr of data, where no container is being shown -/
mutual
def dataOf : Val → Option PyData
  | .non => some .none
  | .bl b => some (.bool b)
  | .int i => some (.int i)
  | .str s => some (.str s)
  | .tup xs => (dataL xs).map .tuple
  | .wtup xs => (dataL xs).map .tuple
  | .ftup xs => (dataL xs).map .tuple
  | .loc _ => none
  | .ro _ => none
def dataL : List Val → Option (List PyData)
  | [] => some []
  | x :: xs => match dataOf x, dataL xs with
    | some d, some ds => some (d :: ds)
    | _, _ => none
end
section
variable {X : Cx} {pins : List (Addr × Obj)} {σ : L2.St} {s : Shared}
theorem tup_sq {K : PySem.W.Frag} {H : Hp} {a : Addr} {xs : List V} (h : H a = some (.tup xs)) : SqT K H a xs := .inl (.inl h)
mutual
theorem reads_of {S : Sg} (I : Inv X pins σ S.H s) : ∀ {v : V} {x : Val}, RV X.K S v x → ∀ {d : PyData} {u : Value}, dataOf x = some d → RelV v u → ∃ as, Reads s.heap u d as
  | _, _, .non, d, u, e, r => by
    unfold dataOf at e
    cases e
    obtain rfl : u = Value.none := r
    exact ⟨_, .none⟩
  | _, _, .bl b, d, u, e, r => by
    unfold dataOf at e
    cases e
    obtain rfl : u = Value.bool b := r
    exact ⟨_, .bool b⟩
  | _, _, .int i, d, u, e, r => by
    unfold dataOf at e
    cases e
    obtain ⟨t, rfl⟩ := r
    exact ⟨_, .int i t⟩
  | _, _, .str x, d, u, e, r => by
    unfold dataOf at e
    cases e
    obtain ⟨t, rfl⟩ := r
    exact ⟨_, .str x t⟩
  | _, _, .tup (a := a) h rs, d, u, e, r => by
    unfold dataOf at e
    obtain ⟨ds, e1, rfl⟩ := Option.map_eq_some_iff.mp e
    obtain rfl : u = Value.ref a := r
    obtain ⟨its, r1, ⟨o, g1, g2, n, g3⟩, _⟩ := I.tuple (tup_sq h)
    obtain ⟨as, q⟩ := reads_all I rs e1 r1
    exact ⟨_, .tuple g1 g2 g3 (by simpa using q)⟩
  | _, _, .wtup (a := a) h rs, d, u, e, r => by
    unfold dataOf at e
    obtain ⟨ds, e1, rfl⟩ := Option.map_eq_some_iff.mp e
    obtain rfl : u = Value.ref a := r
    obtain ⟨its, r1, ⟨o, g1, g2, n, g3⟩, _⟩ := I.tuple (.inr h)
    obtain ⟨as, q⟩ := reads_all I rs e1 r1
    exact ⟨_, .tuple g1 g2 g3 (by simpa using q)⟩
  | _, _, .ftup (a := a) h rs, d, u, e, r => by
    unfold dataOf at e
    obtain ⟨ds, e1, rfl⟩ := Option.map_eq_some_iff.mp e
    obtain rfl : u = Value.ref a := r
    obtain ⟨its, r1, ⟨o, g1, g2, n, g3⟩, _⟩ := I.tuple h.t
    obtain ⟨as, q⟩ := reads_all I rs e1 r1
    exact ⟨_, .tuple g1 g2 g3 (by simpa using q)⟩
  | _, _, .loc _, d, u, e, r => by unfold dataOf at e; cases e
  | _, _, .ro _ _, d, u, e, r => by unfold dataOf at e; cases e
theorem reads_all {S : Sg} (I : Inv X pins σ S.H s) : ∀ {vs : List V} {xs : List Val}, RVs X.K S vs xs → ∀ {ds : List PyData} {us : List Value}, dataL xs = some ds → Vals vs us → ∃ as, ReadsAll s.heap us ds as
  | _, _, .nil, ds, us, e, r => by
    unfold dataL at e
    cases e
    cases r
    exact ⟨_, .nil⟩
  | _, _, .cons (x := x) (xs := xs) h t, ds, us, e, r => by
    unfold dataL at e
    cases q1 : dataOf x with
    | none => rw [q1] at e; cases e
    | some d =>
      cases q2 : dataL xs with
      | none => rw [q1, q2] at e; cases e
      | some dl =>
        rw [q1, q2] at e
        cases e
        cases r with
        | cons ra rb =>
          obtain ⟨as, z1⟩ := reads_of I h q1 ra
          obtain ⟨bs, z2⟩ := reads_all I t q2 rb
          exact ⟨_, .cons z1 z2⟩
end
end
/-- data that may be shown -/
def okRD (d : PyData) : Bool := d.showable && (!d.hasDict && (Nat.ble d.shown.length sizeLine && Nat.ble d.depth 64))
def isTupD : PyData → Bool
  | .tuple _ => true
  | _ => false
def bReprD : Val → Store → OR := fun x h => match dataOf x with
  | some d => if (isTupD d && okRD d) = true then some (.str d.shown, h) else none
  | none => none
def rReprD (X : Cx) : List V → Hp → VK → Prop := fun xs H Q => ∃ (a : Addr) (S : Sg) (x : Val) (d : PyData), xs = [.ref a] ∧ S.H = H ∧ RV X.K S (.ref a) x ∧ dataOf x = some d ∧ okRD d = true ∧ Q (.str d.shown) H
theorem call_reprD {X : Cx} (hg : X.A.guards = some []) (hu : X.A.units + 100 < cLine) : CallR X (.builtin "repr") (rReprD X) := by
  intro pins s σ H xs us Q I r h
  obtain ⟨a, S, x, d, rfl, rfl, rx, e, ok, q⟩ := h
  obtain ⟨u, rfl, ru⟩ := vals1 r
  have ru' : u = Value.ref a := ru
  subst ru'
  unfold okRD at ok
  obtain ⟨k1, ok⟩ := Bool.and_eq_true_iff.mp ok
  obtain ⟨k2, ok⟩ := Bool.and_eq_true_iff.mp ok
  obtain ⟨k3, k4⟩ := Bool.and_eq_true_iff.mp ok
  obtain ⟨as, rd⟩ := reads_of I rx e (show RelV (.ref a) (.ref a) from rfl)
  have k2 : d.hasDict = false := by simpa using k2
  have k3 := Nat.le_of_ble_eq_true k3
  have k4 := Nat.le_of_ble_eq_true k4
  refine repr_of_reads' (h₀ := s.heap) rd k1 (fun z => by rw [k2] at z; cases z) hg (by omega) (fun _ _ z => z) (fun h' t tk hk => ?_) k3
  exact ⟨.str d.shown, S.H, I.kept (t' := tk) hk, ⟨t, rfl⟩, q⟩
section
variable {X : Cx} {C : CTb}
theorem f_reprD : OpN X.K C (one bReprD) (rReprD X) := f_one fun S h x a Q rp r p => by
  unfold bReprD at p
  cases q : dataOf a with
  | none => rw [q] at p; exact False.elim p
  | some d =>
    rw [q] at p
    by_cases c : (isTupD d && okRD d) = true
    · simp only [c, if_true] at p
      obtain ⟨c1, c2⟩ := Bool.and_eq_true_iff.mp c
      have hx : ∃ b, x = .ref b := by
        cases r with
        | non => unfold dataOf at q; cases q; cases c1
        | bl b => unfold dataOf at q; cases q; cases c1
        | int i => unfold dataOf at q; cases q; cases c1
        | str s => unfold dataOf at q; cases q; cases c1
        | tup h r => exact ⟨_, rfl⟩
        | wtup h r => exact ⟨_, rfl⟩
        | ftup h r => exact ⟨_, rfl⟩
        | loc h => exact ⟨_, rfl⟩
        | ro h r => exact ⟨_, rfl⟩
      obtain ⟨b, rfl⟩ := hx
      exact ⟨b, S, a, d, rfl, rfl, r, q, c2, PO.here p rp (.str _)⟩
    · simp only [c] at p
      exact False.elim p
end
section
variable {X : Cx} {C : CTb} {xi : XI} {W : WX} {a : Expr} {fs : FA} {p pos : Pos}
end
/-! ## defs that are called where no container is being shown -/
structure RdyG (P : Program) (w : World) (K : PySem.W.Frag) (mg : Str → Option Value) (base : Heap) (C : CTb) (x : Str) (st : Stmt) (k n : Nat) (F : FF) (ps : List Str) : Prop where
  ex : ∃ fd, L2.Fun K x x st (He.ga K x) fd ∧ ∀ A, RoomG k A → FnAt P w K mg base (L2.CX P w) A (He.ga K x) fd ps (spF K C n F)
  gm : mg x = some (.ref (He.ga K x))
  hn : n = ps.length
theorem rdyG_of {P : Program} {w : World} {K : PySem.W.Frag} {mg : Str → Option Value} {base : Heap} {C : CTb} {x : Str} {st : Stmt} {k n : Nat} {N ps : List Str} {b : FS} (gm : mg x = some (.ref (He.ga K x))) (hF : ∃ fd, L2.Fun K x x st (He.ga K x) fd) (S : FnScope N ps (defScope st)) (hn : n = ps.length)
    (hbody : ∀ (cdv : Value) (A : Around) (outer : List PySem.Env) (s : Shared) (H : Hp) (E : XK), RoomG k (A.deeper (envOfC x (defScope st) s.heap.objs.size (He.ga K x) cdv)) →
      PSs (cxOf (L2.CX P w) P w K mg base N x (defScope st) (He.ga K x) cdv A outer s H E) (defBody st) (rS K C none (fun cls d _ H => E cls d H) b)) : RdyG P w K mg base C x st (k + 1) n (runF N.length b) ps := by
  obtain ⟨fd, F⟩ := hF
  refine ⟨⟨fd, F, ?_⟩, gm, hn⟩
  obtain ⟨oc, od, kV, doc, pm, an, cdv, ct, osl, rfl, lk, hcd⟩ := F.ex
  intro A hr outer s H as us vs Q E e0 hb r hsp
  have hl := spF_len hn _ _ _ _ hsp
  exact LamX.run_ofS lk hcd S hr.r e0 hb r hl fun hr' => ⟨_, hbody cdv A outer s H E ⟨hr', hr.g⟩, body_go hsp⟩
section
variable {X : Cx} {C : CTb} {xi : XI} {W : WX} {a : Expr} {es : List Expr} {fs : FA} {k n : Nat} {ps : List Str} {F : FF} {x : Str} {st : Stmt} {p pos : Pos}
theorem xe_clG (R : RdyG X.prog X.w X.K X.mg X.base C x st k n F ps) (hr : RoomG k X.A) (hb : Bnd x st ps) (tk : Takes X W) (ha : PA X (a :: es) (rA X.K C xi W fs)) (hg : Gl X x := by rfl) (hdb : (x == ("__debug__" : Str)) = false := by decide)
    (he : starEach (a :: es) X.env = (false, eval a X.env) :: starEach es X.env := by rfl) (hpl : (backTo pos (starEach es X.env)).any (·.1) = false := by rfl) : PE X (.Call (.Name x p) (a :: es) [] pos) (rE X.K C xi W (fCall F n fs)) := by
  obtain ⟨fd, Fu, G⟩ := R.ex
  refine ⟨fun pins s σ H Q I q => ?_⟩
  obtain ⟨S, e, h, rfl, rp, re, p⟩ := q
  refine wpAny_Call_Name_kw (ld_glob I hg R.gm ?_ hdb)
  refine PySem.W.callWith_K (h₀ := X.base) I.ok.mod.kin Fu.kp (thn (ha.run pos pins s σ S.H _ I ⟨S, e, h, rfl, rp, re, PL.bind re p⟩) fun us s1 ⟨vs, H1, I1, r, q⟩ => ⟨I1.kIn, ?_⟩) he hpl
  obtain ⟨S1, xs, h1, rfl, l1, rp1, re1, rv1, p1⟩ := q
  by_cases hl : xs.length = n
  · simp only [hl, if_true] at p1
    have hus : us.length = ps.length := by rw [← r.length, rv1.length, hl, R.hn]
    have b := (Fu.binds hb) s1 us I1.kIn (by rw [List.append_nil]; exact hus)
    rw [List.append_nil] at b
    refine wpAny_call (codeAny_mono (G X.A hr _ s1 S1.H _ _ _ Q (WE W σ) I1.env0 b r (sp_of rp1 rv1 hl p1)) fun res s' hq => ?_)
    cases res with
    | error e => exact passAt tk σ pins S1.H s1 e s' I1 hq
    | ok fl =>
      cases fl with
      | ret u => exact I1.after hq
      | next => exact False.elim hq
      | brk => exact False.elim hq
      | cont => exact False.elim hq
  · simp only [hl, if_false] at p1
    exact False.elim p1
end
theorem hu_g {A : Around} {k : Nat} (hr : RoomG k A) : A.units + 100 < cLine := by have := hr.r.un; omega
end Fn
end
section
namespace Fn
open PySem PySem.Spec PyProof.Rows L2
theorem law_spG {K : PySem.W.Frag} {C : CTb} {F : FF} {H : Hp} {a : Addr} {ns : List Int} (hT : LamX.Tabs C.T H) (hf : SqF K H a (ns.map V.int)) {h' : Store} (e : F [.ro (ns.map .int)] [] = .ok (.bl true) h') : spF K C 1 F [.ref a] H (fun v _ => v = .bl true) fun _ _ _ => False := by
  refine ⟨⟨fun _ => 0, 0, H⟩, [], [.ro (ns.map .int)], rfl, ⟨rfl, fun i j h => absurd h (Nat.not_lt_zero _), fun i o h => by simp at h, hT⟩, .cons (.ro hf (RVs.ofInts ns)) .nil, rfl, ?_⟩
  rw [e]
  exact fun S' v l rp rv => RV.bl' rv
end Fn
end
section
set_option maxHeartbeats 4000000
namespace PySem.W
open PySem PySem.Spec PySem.Calls PyProof.Rows
/-! ## isinstance of a caught error that has a dict of its own -/
section
variable {prog : Program} {w : World} {A : Around} {E : Value → Shared → Prop} {s : Shared} {K : Frag} {x D : Addr} {ox : Obj} {od : Option Obj}
theorem seekD {a g : Value} {nm : Str} (c : (clsIn K D).isSome = true) (h1 : findIn K (.ref D) nm = some (some a)) (h2 : specialIn K a "__get__" = some (some g)) (h3 : takesIn K a = some true) : findObj K D od nm = some (.bind g a) := by
  obtain ⟨cd, c⟩ := Option.isSome_iff_exists.mp c
  unfold findObj
  simp [c, h1, h2, h3]
/-- what the class says of __class__ -/
structure ClsQ (K : Frag) (D : Addr) : Prop where
  at_ : findIn K (.ref D) "__class__" = some (some (.builtin "object.__class__"))
  sp : specialIn K (.builtin "object.__class__") "__get__" = some (some (.builtin "getset_descriptor.__get__"))
  tk : takesIn K (.builtin "object.__class__") = some true
  ob : mroIn K D (.type "object") = some true
theorem isome_of (h : hasDictIn K D = true) : (clsIn K D).isSome = true := by
  obtain ⟨cd, e, _⟩ := any_some h
  rw [e]; rfl
theorem askD {Q : Option Value → Shared → Prop} (T : L2.XfC K D) (C : ClsQ K D) (KX : K.In s.heap) (J : InstAt s.heap x ox D od) (q : Q (some (.ref D)) { s with toks := s.toks + 1 }) : wpAny (model prog w) A (getAttr? (.ref x) "__class__") Q E s := by
  have f0 := seekD (od := od) (isome_of T.hdC) C.at_ C.sp C.tk
  obtain ⟨hp, gn, dr, tk, os⟩ := s
  have l0 := J.type (M := model prog w)
  have l1 := looks_findIn (M := model prog w) KX T.ga; have l2 := looks_findIn (M := model prog w) KX T.gg
  have l3 := looks_find (M := model prog w) KX J f0
  have isE : Looks (model prog w) hp (isInstance (.ref x) (.type "BaseException")) true := l0.andThen (looks_subIn KX T.exC)
  have ne : (Value.builtin "BaseException.__getattribute__" == Value.builtin "object.__getattribute__") = false := by decide +kernel
  have ne2 : (onTheHeap (Value.ref D) && Value.builtin "BaseException.__getattribute__" == Value.builtin "object.__getattribute__") = false := by rw [ne]; rfl
  have ne3 : (false && onTheHeap (Value.builtin "BaseException.__getattribute__")) = false := rfl
  unfold getAttr? getAttrBy? getAttrBy
  refine wpAny_bind (wpAny_mkText (wpAny_bind (wpAny_attempt (wpAny_holding (wpAny_bind (l0.at (wpAny_bind (l1.at ?_))))))))
  show wpAny _ _ (if (onTheHeap (Value.ref D) && Value.builtin "BaseException.__getattribute__" == Value.builtin "object.__getattribute__") = true then _ else _) _ _ _
  rw [ne2, if_neg (fun z => nomatch z)]; unfold getAttrByItsOwn hookBefore
  refine wpAny_bind ?_
  rw [if_pos (show onTheHeap (Value.ref D) = true from rfl)]; refine l2.at (wpAny_bind (wpAny_attempt (wpAny_holding ?_)))
  unfold callGetattribute
  rw [ne3, if_neg (fun z => nomatch z)]; unfold boundAndCalled
  rw [PySem.F.excAttr_ValueError.ga.bind (.ref x)]; refine wpAny_bind (wpAny_pure ?_)
  show wpAny _ _ (call (.builtin "BaseException.__getattribute__") [.ref x, .str "__class__" tk]) _ _ _
  refine wpAny_call (codeAny_call_builtin PySem.F.excAttr_ValueError.ga.plain PySem.F.entry_bexc_ga (@check_slot (model prog w) _ _ ⟨hp, gn, dr, tk + 1, os⟩ "BaseException.__getattribute__" "BaseException" "__getattribute__" (.ref x) [.str "__class__" tk] [] _ (by decide +kernel) (by decide +kernel) isE (PySem.F.args_bexc_ga (.ref x) (.str "__class__" tk)) ?_))
  unfold Builtin.«object.__getattribute__»; refine wpAny_bind (wpAny_of_eq (a := ((Value.ref x : Value), [Value.str "__class__" tk])) (by first | rfl | (simp only [slotArgs]; rfl)) (wpAny_bind (wpAny_pure (wpAny_bind (l0.at (wpAny_bind (l3.at ?_)))))))
  show wpAny _ _ (holding [Value.builtin "object.__class__"] (call (.builtin "getset_descriptor.__get__") [.builtin "object.__class__", .ref x, .ref D]) >>= ret) _ _ _
  refine wpAny_bind (wpAny_holding (wpAny_call (class_get (s := ⟨hp, gn, dr, tk + 1, os⟩) (ox := ox) (od := od) KX J C.ob (wpAny_pure ?_))))
  show wpAny _ _ (handedOut (.ref D)) _ _ _
  rw [handedOut_of (v := .ref D) rfl]
  first
    | exact wpAny_pure (wpAny_pure q)
    | exact wpAny_pure q
    | exact wpAny_pure (wpAny_bind (wpAny_pure (wpAny_pure q)))
theorem kitD (T : L2.XfC K D) (C : ClsQ K D) : KitX K (.ref x) (.ref D) (fun h => InstAt h x ox D od) where
  ty := fun _ _ _ J => J.type
  it := fun _ _ KX _ => by
    obtain ⟨cd, c, _⟩ := any_some T.hdC
    unfold clsIn at c
    split at c
    · rename_i _ _ _ _ e
      intro _ _ _ _ k q
      unfold isType loadHead; exact wpAny_bind (wpAny_loadPart (k _ _ (KX _ _ e)) (wpAny_pure q))
    · cases c
  ne := fun h tp dd its n sl KX e => by
    obtain ⟨cd, c, _⟩ := any_some T.hdC
    refine Bool.eq_false_iff.mpr fun q => ?_
    obtain rfl : D = tp := Value.ref.inj (beq_iff_eq.mp q)
    unfold clsIn at c
    split at c
    · rename_i _ _ _ _ e2
      cases (KX _ _ e2).symm.trans e
    · cases c
  ca := fun KX J q => askD T C KX J q
end
end PySem.W
end
section
namespace Fn
open PySem PySem.Spec PyProof.Rows L2
/-! ## isinstance(e, X) of a caught error; list.index of an int -/
def fIsD (t : Nat → Option Bool) (c : Nat) : FE := fun _ h => match t c with
  | some b => .ok (.bl b) h
  | none => .stuck
def rIsD (K : PySem.W.Frag) (D a dd : Addr) : List V → Hp → VK → Prop := fun xs H Q => ∃ (c : V) (cv : Value) (b : Bool) (fs : List (Str × V)), xs = [.ref a, c] ∧ (∀ u, RelV c u → u = cv) ∧ PySem.W.kitOne K (.ref D) cv = some b ∧ H dd = some (.xd fs) ∧ Q (.bl b) H
theorem call_isD {X : Cx} {a D dd : Addr} {oe : Obj} {pn : List (Addr × Obj)} (T : XfC X.K D) (C : PySem.W.ClsQ X.K D) (hz : Zc (.ref D) (some dd) oe) (hf : ∃ vs, oe.data = .fields vs) : CallR (X.suite a ((a, oe) :: pn)) (.builtin "isinstance") (rIsD X.K D a dd) := by
  intro pins s σ H xs us Q I r h
  obtain ⟨c, cv, b, fs, rfl, hcv, e, hd, q⟩ := h
  cases r with
  | cons rx rr =>
    cases rr with
    | cons rt rr =>
      cases rr
      cases rx
      have ec := hcv _ rt
      subst ec
      obtain ⟨hget, _⟩ := I.pin (a, oe) (List.mem_append_left _ List.mem_cons_self)
      obtain ⟨vs, hv⟩ := hf
      have ho : ObjOk X.prog X.w H s.heap dd (.xd fs) := I.hok dd _ hd
      obtain ⟨mA, hns, _⟩ := ho
      obtain ⟨od, hod, _⟩ := lookIn_ns hns
      have J : PySem.W.InstAt s.heap a oe D (some od) := ⟨hget, hz.1, by unfold PySem.W.notCls; rw [hv] <;> rfl, by rw [hz.2]; exact hod⟩
      exact PySem.W.kia_one (PySem.W.kitD T C) I.kIn J e (fun z => nomatch z) fun tk => ⟨.bl b, H, I.kept (t' := tk) fun _ _ z => z, rfl, q⟩
/-- what except says of two classes, isinstance says too -/
theorem kit_of_exm {K : PySem.W.Frag} {D E : Addr} {b : Bool} (h : PySem.W.exmOne K (.ref D) (.ref E) = some b) (hr : PySem.W.exmOne K (.ref D) (.ref D) = some true) : PySem.W.kitOne K (.ref D) (.ref E) = some b := by
  unfold PySem.W.kitOne
  by_cases e : ((Value.ref D) == (Value.ref E)) = true
  · rw [if_pos e]
    have e2 : D = E := Value.ref.inj (beq_iff_eq.mp e)
    subst e2
    rw [← h, hr]
  · rw [if_neg e]
    unfold PySem.W.exmOne at h
    split at h
    · exact h
    · cases h
section
variable {X : Cx} {C : CTb} {W : WX} {a dd : Addr} {oe : Obj} {c i : Nat} {w : Val} {pn : List (Addr × Obj)} {n x : Str} {pos p p2 p3 : Pos} {t : Nat → Option Bool} {E : Addr}
theorem xe_isD (T : XfC X.K (C c)) (Q : PySem.W.ClsQ X.K (C c)) (hz : Zc (.ref (C c)) (some dd) oe) (hf : ∃ vs, oe.data = .fields vs) (ht : ∀ b, t c = some b → PySem.W.kitOne X.K (.ref (C c)) (.ref E) = some b) (hm : X.mg "isinstance" = none) (hx : X.mg x = some (.ref E))
    (hN : X.N[i]? = some n := by rfl) (hv : Vis X.env.scope n := by first | exact Or.inl rfl | exact Or.inr (Or.inl rfl) | exact Or.inr (Or.inr rfl)) (hd : (n == ("__debug__" : Str)) = false := by decide) (hcd : (n == ("__classdict__" : Str)) = false := by decide)
    (hg : Gl X "isinstance" := by rfl) (hgx : Gl X x := by rfl) (hdx : (x == ("__debug__" : Str)) = false := by decide)
    (he : starEach (.Name n p2 :: [.Name x p3]) X.env = (false, eval (.Name n p2) X.env) :: starEach [.Name x p3] X.env := by rfl) (hpl : (backTo pos (starEach [.Name x p3] X.env)).any (·.1) = false := by rfl) :
    PE (X.suite a ((a, oe) :: pn)) (.Call (.Name "isinstance" p) [.Name n p2, .Name x p3] [] pos) (rE X.K C (some (i, a, dd, w)) W (fIsD t c)) := by
  refine PE_mono (pe_callB (X := X.suite a ((a, oe) :: pn)) (call_isD T Q hz hf) hg hm boot_isinstance (pa_cons (pe_var (X := X.suite a ((a, oe) :: pn)) hN hv hd hcd) (pa_cons (C8.pe_gc (X := X.suite a ((a, oe) :: pn)) (v := .ref E) hgx ⟨_, hx, rfl⟩ hdx) pa_nil) he) (by decide) (by decide) he hpl) ?_
  rintro σ H R ⟨S, e, h, rfl, rp, re, p⟩
  obtain ⟨h1, wv, h2, h3⟩ := re.xo
  unfold fIsD at p
  cases q : t c with
  | none => rw [q] at p; exact False.elim p
  | some b =>
    rw [q] at p
    exact ⟨_, h1, .ref E, .ref E, b, _, rfl, fun u z => z, ht b q, h2, p S _ (Le.refl S) rp (.bl b)⟩
end
/-! ### list.index -/
section
variable {K : PySem.W.Frag} {C : CTb}
end
section
variable {X : Cx} {C : CTb} {xi : XI} {W : WX} {o a : Expr} {fo : FE} {fs : FA} {apos cpos pos p : Pos}
end
def clsQB (K : PySem.W.Frag) (C : Addr) : Bool := He.eqO (PySem.W.findIn K (.ref C) "__class__") (some (some (.builtin "object.__class__"))) && (He.eqO (PySem.W.specialIn K (.builtin "object.__class__") "__get__") (some (some (.builtin "getset_descriptor.__get__"))) &&
  (decide (PySem.W.takesIn K (.builtin "object.__class__") = some true) && decide (PySem.W.mroIn K C (.type "object") = some true)))
theorem clsQB_ok {K : PySem.W.Frag} {C : Addr} (h : clsQB K C = true) : PySem.W.ClsQ K C := by
  obtain ⟨h0, h⟩ := He.ba h
  obtain ⟨h1, h⟩ := He.ba h
  obtain ⟨h2, h3⟩ := He.ba h
  exact ⟨He.eqO_ok h0, He.eqO_ok h1, of_decide_eq_true h2, of_decide_eq_true h3⟩
end Fn
end
section
namespace Fn
open PySem PySem.Spec PyProof.Rows L2
/-! ## told(lambda: e), told: try: return deed() / except X as e: ..: the clause's reading is asked of slots of the right number alone -/
def gdT (n : Nat) (ts : SuT) : SuT := fun a cls d D σ H => σ.length = n → ts a cls d D σ H
theorem suite_gd {X : Cx} {l : List Stmt} {ts : SuT} (h : SuiteOk X l ts) : SuiteOk X l (gdT X.N.length ts) := fun a oe cls d pn hz hf => by
  have b := h a oe cls d pn hz hf
  exact ⟨fun pins s σ H D I q => b.run pins s σ H D I (q I.len)⟩
/-- no slot is known -/
theorem env_none {K : PySem.W.Frag} {S : Sg} {σ : L2.St} {n : Nat} (h : σ.length = n) : REnv K none S σ (List.replicate n none) := by
  refine ⟨by rw [List.length_replicate, h], fun i x q => ?_, True.intro⟩
  rw [List.getElem?_replicate] at q
  split at q <;> cases q
/-- what the told def makes of a thunk's answer: a number of slots, the clause's table, its slot, its suite -/
def toldLF (n i : Nat) (t : Nat → Option Bool) (f : Nat → Val → FS) : R Val → R Val
  | .ok v h => .ok v h
  | .exc c w h => match t c with
    | some true => (match f c w (List.replicate n none) h with
      | .ret v h1 => .ok v h1
      | _ => .stuck)
    | _ => .stuck
  | .stuck => .stuck
/-- an error that the clause takes, and whose suite leads to Q -/
def ETold (K : PySem.W.Frag) (C : CTb) (n : Nat) (t : Nat → Option Bool) (f : Nat → Val → FS) (Q : VK) : XK := fun cls d H => ∃ (S : Sg) (c : Nat) (w : Val) (dd : Addr) (wv : V) (h : Store), S.H = H ∧ Rep K C S h ∧ cls = .ref (C c) ∧ d = some dd ∧ S.H dd = some (.xd [(whatS, wv)]) ∧ RV K S wv w ∧ t c = some true ∧
  ∃ v h1, f c w (List.replicate n none) h = .ret v h1 ∧ ∀ S' u, Le S S' → Rep K C S' h1 → RV K S' u v → Q u S'.H
/-- .. is what the clause wants -/
theorem told_hs {X : Cx} {C : CTb} {Wout : WX} {D : Ends} {n i : Nat} {cv : Value} {t : Nat → Option Bool} {f : Nat → Val → FS} {Q : VK} (ht : ∀ c b, t c = some b → PySem.W.exmOne X.K (.ref (C c)) cv = some b) (hi : i < n) (hQ : D.rt = Q) {cls : Value} {d : Option Addr} {H : Hp}
    (h : ETold X.K C n t f Q cls d H) (σ : L2.St) : wHs X.K Wout D [.nm cv i (gdT n (suT X.K C t (some i) f))] cls d σ H := by
  obtain ⟨S, c, w, dd, wv, st, rfl, rp, rfl, rfl, hd, hw, tc, v, h1, e, q⟩ := h
  refine ⟨true, ht c true tc, fun _ a na => fun hl => ?_, fun z => nomatch z⟩
  have hl2 : σ.length = n := by rw [List.length_set] at hl; exact hl
  have r0 : REnv X.K none S σ (List.replicate n none) := env_none hl2
  have r1 : REnv X.K none S (σ.set i (some (.ref a))) ((List.replicate n none).set i none) := r0.unset i rfl
  have er : (List.replicate n (none : Option Val)).set i none = List.replicate n none := by
    refine List.ext_getElem? fun j => ?_
    rw [List.getElem?_set]
    split
    · rename_i hij
      subst hij
      rw [List.length_replicate, if_pos hi, List.getElem?_replicate, if_pos hi]
    · rfl
  rw [er] at r1
  refine ⟨c, w, dd, rfl, rfl, tc, S, List.replicate n none, st, rfl, rp, ⟨r1.len, r1.at_, ?_, wv, hd, hw⟩, ?_⟩
  · exact List.getElem?_set_self (by rw [hl2]; exact hi)
  · show PSt X.K C (some (i, a, dd, w)) W0 S (f c w (List.replicate n none) st) (Ends.drop D i)
    rw [e]
    intro S' u l rp' rv'
    show D.rt u S'.H
    rw [hQ]
    exact q S' u l rp' rv'
end Fn
end
section
namespace Fn
open PySem PySem.Spec PyProof.Rows L2
/-- def told(deed): try: return deed() / except X as e: .. -/
theorem gives_told {X : Cx} {C : CTb} {Ng : List Str} {x a e y q : Str} {sg : Scope} {g : Addr} {cdg cv : Value} {i : Nat} {t : Nat → Option Bool} {f : Nat → Val → FS} {b₀ : Stmt} {suite : List Stmt} {p1 p2 p3 p4 p7 p8 : Pos}
    (hN : Ng.Nodup) (hi : Ng[i]? = some e) (hln : sg.names.lookup e = some .local) (hc : ∀ (s : Shared) (H : Hp), Names (cxOf C8.CX0 X.prog X.w X.K X.mg X.base Ng x sg g cdg X.A X.stack s H C8.E0).nox y cv)
    (ht : ∀ c b, t c = some b → PySem.W.exmOne X.K (.ref (C c)) cv = some b) (h0 : ∀ u : Addr, (L2.start Ng [V.ref u])[0]? = some (some (V.ref u)))
    (hsu : ∀ (s : Shared) (H : Hp) (a : Addr) (oe : Obj) (c : Nat) (w : Val) (dd : Addr) (pn : List (Addr × Obj)), t c = some true → Zc (.ref (C c)) (some dd) oe → (∃ vs, oe.data = .fields vs) →
      PSs ((cxOf C8.CX0 X.prog X.w X.K X.mg X.base Ng x sg g cdg X.A X.stack s H C8.E0).nox.suite a ((a, oe) :: pn)) (b₀ :: suite) (rS X.K C (some (i, a, dd, w)) W0 (f c w))) :
    LamX.GivesTo X Ng x sg g cdg [.Try [.Return (some (.Call (.Name a p1) [] [] p2)) p3] [.ExceptHandler (some (.Name y p4)) (some e) (b₀ :: suite) p7] [] [] p8] a q (fun tl H Q => tl (ETold X.K C Ng.length t f Q) H Q) := by
  intro u c' s H Q tl act hco h
  have hS : SuiteOk (cxOf C8.CX0 X.prog X.w X.K X.mg X.base Ng x sg g cdg X.A X.stack s H C8.E0).nox (b₀ :: suite) (suT X.K C t (some i) f) := fun a oe cls d pn hz hf => ⟨fun pins s1 σ H1 D I q => by
    obtain ⟨c, w, dd, rfl, rfl, tc, q⟩ := q
    exact (hsu s H a oe c w dd pn tc hz hf).run pins s1 σ H1 D I q⟩
  refine ⟨_, pss_one (ps_try_hs (X := (cxOf C8.CX0 X.prog X.w X.K X.mg X.base Ng x sg g cdg X.A X.stack s H C8.E0).nox) (Wout := fun _ _ _ _ => False) (l := [.nm cv i (gdT Ng.length (suT X.K C t (some i) f))])
      (tb := fun W D σ H => ∃ Ech : XK, (∀ cls d σ' H', Ech cls d H' → W cls d σ' H') ∧ σ[0]? = some (some (.ref u)) ∧ H c' = some (LamX.CodeO c' q) ∧ tl Ech H D.rt)
      rfl rfl hN LamX.takes0 (fun W pn xe tk _ => ?_) (.nm hi hln (hc s H) (suite_gd hS) .nil)), ?_⟩
  · refine ⟨fun pins s' σ H' D I h' => ?_⟩
    obtain ⟨Ech, hW, h1, h2, h3⟩ := h'
    have hq := pss_one (ps_ret (pos := p3) (act W pn xe Ech p1 p2 tk hW))
    exact hq.run pins s' σ H' D I ⟨h1, h2, h3⟩
  · have hin : i < Ng.length := (List.getElem?_eq_some_iff.mp hi).1
    exact ⟨ETold X.K C Ng.length t f Q, fun cls d σ' H' he => told_hs ht hin rfl he σ', h0 u, hco, h⟩
end Fn
end
section
namespace Fn
open PySem PySem.Spec PyProof.Rows L2
theorem le_ext {S : Sg} {H1 : Hp} (e : LamX.ExtN S.H H1) : Le S (S.withH H1) :=
  ⟨Nat.le_refl _, fun _ _ => rfl, fun a xs q => e _ _ q fun ps z => (nomatch z), fun a o u q => e _ _ q fun ps z => (nomatch z), fun a fs q => e _ _ q fun ps z => (nomatch z)⟩
theorem ro_notTbl {K : PySem.W.Frag} {C : CTb} {S : Sg} {a : Addr} {o : Ob} (h : RO K C S a o) : ∃ u, S.H a = some u ∧ ∀ ps, u ≠ .tbl ps := by
  cases o with
  | lst xs => obtain ⟨vs, e, _⟩ := h; exact ⟨_, e, fun ps z => nomatch z⟩
  | dK xs => obtain ⟨vs, e, _⟩ := h; exact ⟨_, e, fun ps z => nomatch z⟩
  | dT xs => obtain ⟨vs, e, _⟩ := h; exact ⟨_, e, fun ps z => nomatch z⟩
  | zT xs => obtain ⟨od, vs, e, _⟩ := h; exact ⟨_, e, fun ps z => nomatch z⟩
  | ins c xs => obtain ⟨d, vs, e, _⟩ := h; exact ⟨_, e, fun ps z => nomatch z⟩
theorem rep_ext {K : PySem.W.Frag} {C : CTb} {S : Sg} {h : Store} {H1 : Hp} (r : Rep K C S h) (e : LamX.ExtN S.H H1) (t : LamX.Tabs C.T H1) : Rep K C (S.withH H1) h := by
  refine ⟨r.len, r.inj, fun j p ej => (r.obj j p ej).move (le_ext e) ?_, t⟩
  obtain ⟨u, hu, hn⟩ := ro_notTbl (r.obj j p ej)
  show H1 (S.rho j) = S.H (S.rho j)
  rw [hu]
  exact e _ _ hu hn
def fLam (n i : Nat) (t : Nat → Option Bool) (f : Nat → Val → FS) (thunk : FE) : FE := fun e h => toldLF n i t f (thunk e h)
/-- the reading of told(lambda: body), from the function -/
theorem lam_go {X : Cx} {C : CTb} {W : WX} {n i : Nat} {t : Nat → Option Bool} {f : Nat → Val → FS} {thunk : FE} {σ : L2.St} {H : Hp} {Q : VK} (h : rE X.K C none W (fLam n i t f thunk) σ H Q) :
    LamX.tLam C.T (fun tl H Q => tl (ETold X.K C n t f Q) H Q) (fun E => rE X.K C none (fun cls d _ H => E cls d H) thunk) σ H Q := by
  obtain ⟨S, e, st, rfl, rp, re, p⟩ := h
  refine ⟨rp.tb, fun H1 eN T1 => ?_⟩
  have l := le_ext eN
  refine ⟨S.withH H1, e, st, rfl, rep_ext rp eN T1, re.mono l, ?_⟩
  have p : PV X.K C W S σ (toldLF n i t f (thunk e st)) Q := p
  show PV X.K C (fun cls d _ H => ETold X.K C n t f Q cls d H) (S.withH H1) σ (thunk e st) Q
  generalize thunk e st = r at p ⊢
  cases r with
  | ok v h1 => exact fun S' u l2 rp2 rv2 => p S' u (l.trans l2) rp2 rv2
  | stuck => exact False.elim p
  | exc c w h1 =>
    unfold toldLF at p
    cases tc : t c with
    | none => simp only [tc] at p; exact False.elim p
    | some b =>
      cases b with
      | false => simp only [tc] at p; exact False.elim p
      | true =>
        simp only [tc] at p
        intro S' d wv l2 rp2 hd hw
        cases fe : f c w (List.replicate n none) h1 with
        | ret v h2 =>
          simp only [fe] at p
          exact ⟨S', c, w, d, wv, h1, rfl, rp2, rfl, rfl, hd, hw, tc, v, h2, fe, fun S2 u l3 rp3 rv3 => p S2 u ((l.trans l2).trans l3) rp3 rv3⟩
        | _ => simp only [fe] at p; exact False.elim p
end Fn
end
section
namespace Fn
open PySem PySem.Spec PyProof.Rows L2
/-! ## defs that make lambdas: told(lambda: ..) -/
/-- told(deed): what it makes of a thunk -/
structure ToldR (P : Program) (w : World) (K : PySem.W.Frag) (mg : Str → Option Value) (base : Heap) (C : CTb) (x a : Str) (st : Stmt) (Ng : List Str) (n i : Nat) (t : Nat → Option Bool) (f : Nat → Val → FS) : Prop where
  u : ∃ fd, L2.Fun K x x st (He.ga K x) fd
  gm : mg x = some (.ref (He.ga K x))
  sc : FnScope Ng [a] (defScope st)
  b : Bnd x st [a]
  gv : ∀ (X : Cx), X.prog = P → X.w = w → X.K = K → X.mg = mg → X.base = base → ∀ (cdg : Value) (q : Str), LamX.GivesTo X Ng x (defScope st) (He.ga K x) cdg (defBody st) a q (fun tl H Q => tl (ETold K C n t f Q) H Q)
/-- the maker's code object and its table are known -/
def LamR (X : Cx) (T : List (Addr × Str)) : Prop := ∃ c P, LamX.TabB X.base X.mg c P ∧ X.env.code = .ref c ∧ (P, X.env.qual ++ "<lambda>") ∈ T ∧ ∀ p ∈ T, p.1 = P → p.2 = X.env.qual ++ "<lambda>"
/-- told(lambda: body) -/
theorem xe_lam {X : Cx} {C : CTb} {W : WX} {x a : Str} {st : Stmt} {Ng : List Str} {n i k : Nat} {t : Nat → Option Bool} {f : Nat → Val → FS} {thunk : FE} {params : Arguments} {body : Expr} {scope : Scope} {p lpos pos : Pos}
    (Tl : ToldR X.prog X.w X.K X.mg X.base C x a st Ng n i t f) (Lm : LamR X C.T) (hr : Room (k + 2) X.A)
    (hbody : ∀ (A : Around) (outer : List PySem.Env) (s : Shared) (H : Hp) (E : XK) (f c' : Addr), Room k (A.deeper (LamX.lamEnv X scope s.heap.objs.size f c')) → PE (LamX.lamCx X A outer s H E scope f c') body (rE X.K C none (fun cls d _ H => E cls d H) thunk))
    (L : LamX.lamSB X.env.scope scope = true := by decide +kernel) (hg : Gl X x := by rfl) (hNg : Ng[0]? = some a := by rfl) (hva : Vis (defScope st) a := by first | exact Or.inl rfl | exact Or.inr (Or.inl rfl)) (hdef : defaultsOf params X.env = ([], []) := by rfl)
    (hbind : ∀ (q : Str) (cl : List (Str × Addr)) (pm cv ctv : Value), bindArgs (PySem.W.kla_fn "<lambda>" q params body scope cl pm cv ctv) ⟨[], []⟩ = pure [] := by intros; rfl)
    (hdb : (x == ("__debug__" : Str)) = false := by decide) (hd : (a == ("__debug__" : Str)) = false := by decide) (hcd : (a == ("__classdict__" : Str)) = false := by decide) :
    PE X (.Call (.Name x p) [.Lambda params body scope lpos] [] pos) (rE X.K C none W (fLam n i t f thunk)) := by
  obtain ⟨⟨fd, Fu⟩, gm, sc, b, gv⟩ := Tl
  obtain ⟨c, P, TB, hcode, hmT, hu⟩ := Lm
  have hB := Fu.binds b
  obtain ⟨oc, od, kV, doc, pm, an, cdv, ct, osl, rfl, lk, hcd'⟩ := Fu.ex
  exact PE_mono (LamX.pe_lamcall (T := C.T) (TT := fun tl H Q => tl (ETold X.K C n t f Q) H Q) (t := fun E => rE X.K C none (fun cls d _ H => E cls d H) thunk) hg gm Fu.kp lk hcd' hB sc hNg hva (gv X rfl rfl rfl rfl rfl cdv _) TB hcode hmT hu hr (LamX.lamS_by L) hdef hbind hbody hdb hd hcd) (fun σ H Q h => lam_go h)
/-! ### what the head says -/
/-- the written part without the tables -/
def noT (K : PySem.W.Frag) : PySem.W.Frag := K.filter fun p => match p.2.cls, p.2.data with
  | .none, .fields _ => false
  | _, _ => true
def tabNone (K : PySem.W.Frag) (P : Addr) : Bool := match K.lookup P with
  | some ⟨.none, none, .fields vs, sl⟩ => vs.toList.isEmpty && sl.toList.isEmpty
  | _ => false
def lamAt (K : PySem.W.Frag) (x : Str) : Addr × Addr := (PySem.W.tabIn K x).getD (0, 0)
def lamT (K : PySem.W.Frag) (Ln : List Str) : List (Addr × Str) := Ln.map fun x => ((lamAt K x).2, x ++ ".<locals>." ++ "<lambda>")
def lamOk (K : PySem.W.Frag) (Ln : List Str) : Bool := (Ln.all fun x => (PySem.W.tabIn (noT K) x).isSome && (PySem.W.codeHdIn (noT K) (lamAt (noT K) x).1 (lamAt (noT K) x).2 && tabNone K (lamAt (noT K) x).2)) && decide ((Ln.map fun x => (lamAt (noT K) x).2).Nodup)
/-- all that it holds -/
def FIn (K : PySem.W.Frag) (h : Heap) : Prop := ∀ p ∈ K, h.get? p.1 = some p.2
theorem FIn.frG {s : Shared} {as : List Addr} : FIn (He.frG s.heap.get? as) s.heap := fun p hp => by
  unfold He.frG at hp
  obtain ⟨a, _, e⟩ := List.mem_filterMap.mp hp
  obtain ⟨o, e1, rfl⟩ := Option.map_eq_some_iff.mp e
  exact e1
theorem FIn.kin {K : PySem.W.Frag} {h : Heap} (x : FIn K h) : K.In h := fun a o e => x (a, o) (PySem.W.mem_of_lookupK e)
theorem FIn.noT {K : PySem.W.Frag} {h : Heap} (x : FIn K h) : FIn (noT K) h := fun p hp => x p (List.mem_filter.mp hp).1
def obsTG (n : Nat) (fa : List He.Fa) (fn : List He.DefD) (ex : PySem.W.Frag → Bool) (Ln : List Str) (g : Addr → Option Obj) : (He.AlD × Bool) × Bool := (obsX fa fn ex (noT (He.frG g (He.asD g n))), lamOk (He.frG g (He.asD g n)) Ln)
def hookT (n : Nat) (fa : List He.Fa) (fn : List He.DefD) (ex : PySem.W.Frag → Bool) (Ln : List Str) : PySem.W.Hook where
  α := (He.AlD × Bool) × Bool
  obs := fun s => obsTG n fa fn ex Ln s.heap.get?
  val := fun _ => ((He.valD fn, true), true)
  says := fun _ h => ∃ K : PySem.W.Frag, FIn K h ∧ SaysX fa fn ex (noT K) ∧ lamOk K Ln = true
  of := fun _ _ e => ⟨_, .frG, congrArg Prod.fst e, congrArg Prod.snd e⟩
  keeps := fun _ _ _ ⟨K, hK, c⟩ k => ⟨K, fun p hp => k _ _ (hK p hp), c⟩
theorem obsTG_eq {n : Nat} {fa : List He.Fa} {fn : List He.DefD} {ex : PySem.W.Frag → Bool} {Ln : List Str} {g : Addr → Option Obj} {s : Shared} (h : ∀ a, g a = s.heap.get? a) : obsTG n fa fn ex Ln g = (hookT n fa fn ex Ln).obs s := by
  have e : g = s.heap.get? := funext h
  rw [e] <;> rfl
theorem tabNone_ok {K : PySem.W.Frag} {P : Addr} {h : Heap} (x : FIn K h) (e : tabNone K P = true) : h.get? P = some { cls := .none, data := .fields #[] } := by
  unfold tabNone at e
  split at e
  · rename_i vs sl q
    have q2 := x _ (PySem.W.mem_of_lookupK q)
    obtain ⟨e1, e2⟩ := Bool.and_eq_true_iff.mp e
    obtain ⟨vs⟩ := vs
    obtain ⟨sl⟩ := sl
    cases vs with
    | nil => cases sl with
      | nil => exact q2
      | cons a b => cases e2
    | cons a b => cases e1
  · cases e
theorem noT_none {K : PySem.W.Frag} {P : Addr} {h : Heap} {vs : Array Value} (x : FIn K h) (e : h.get? P = some { cls := .none, data := .fields vs }) : (noT K).lookup P = none := by
  cases q : (noT K).lookup P with
  | none => rfl
  | some o =>
    have m := PySem.W.mem_of_lookupK q
    have m1 := x _ (List.mem_filter.mp m).1
    have m2 := (List.mem_filter.mp m).2
    rw [e] at m1
    cases m1
    exact absurd m2 (by simp)
theorem tab_code {K : PySem.W.Frag} {x : Str} {c P : Addr} {fd : FuncData} {oc : Value} {od : Option Addr} {osl : Array (Option Value)} (ht : PySem.W.tabIn K x = some (c, P)) (lk : K.lookup (He.ga K x) = some ⟨oc, od, .func fd, osl⟩) : fd.code = .ref c := by
  unfold PySem.W.tabIn at ht
  split at ht
  · rename_i f hf
    have eg : He.ga K x = f := by unfold He.ga; rw [hf]
    rw [eg] at lk
    rw [lk] at ht
    simp only at ht
    split at ht
    · rename_i c' hc
      split at ht
      · split at ht
        · cases ht
          exact hc
        · cases ht
      · cases ht
    · cases ht
  · cases ht
theorem nodup_inj {α β : Type} {f : α → β} : ∀ {l : List α}, (l.map f).Nodup → ∀ {a b : α}, a ∈ l → b ∈ l → f a = f b → a = b
  | x :: l, h, a, b, ha, hb, e => by
    rw [List.map_cons, List.nodup_cons] at h
    rcases List.mem_cons.mp ha with q1 | q1
    · rcases List.mem_cons.mp hb with q2 | q2
      · rw [q1, q2]
      · exact absurd (show f x ∈ l.map f from List.mem_map.mpr ⟨b, q2, by rw [← e, q1]⟩) h.1
    · rcases List.mem_cons.mp hb with q2 | q2
      · exact absurd (show f x ∈ l.map f from List.mem_map.mpr ⟨a, q1, by rw [e, q2]⟩) h.1
      · exact nodup_inj h.2 q1 q2 e
/-- the maker x's table -/
def LmB (K : PySem.W.Frag) (mg : Str → Option Value) (base : Heap) (T : List (Addr × Str)) (x : Str) : Prop := ∃ c P, PySem.W.tabIn K x = some (c, P) ∧ LamX.TabB base mg c P ∧ (P, x ++ ".<locals>." ++ "<lambda>") ∈ T ∧ ∀ p ∈ T, p.1 = P → p.2 = x ++ ".<locals>." ++ "<lambda>"
theorem rdyL_of {P : Program} {w : World} {K : PySem.W.Frag} {mg : Str → Option Value} {base : Heap} {C : CTb} {x : Str} {st : Stmt} {k n : Nat} {N ps : List Str} {b : FS} (lm : LmB K mg base C.T x) (gm : mg x = some (.ref (He.ga K x))) (hF : ∃ fd, L2.Fun K x x st (He.ga K x) fd) (S : FnScope N ps (defScope st)) (hn : n = ps.length)
    (hbody : ∀ (cdv : Value) (A : Around) (outer : List PySem.Env) (s : Shared) (H : Hp) (E : XK), LamR (cxOf (L2.CX P w) P w K mg base N x (defScope st) (He.ga K x) cdv A outer s H E) C.T → RoomG k (A.deeper (envOfC x (defScope st) s.heap.objs.size (He.ga K x) cdv)) →
      PSs (cxOf (L2.CX P w) P w K mg base N x (defScope st) (He.ga K x) cdv A outer s H E) (defBody st) (rS K C none (fun cls d _ H => E cls d H) b)) : RdyG P w K mg base C x st (k + 1) n (runF N.length b) ps := by
  obtain ⟨fd, F⟩ := hF
  refine ⟨⟨fd, F, ?_⟩, gm, hn⟩
  obtain ⟨oc, od, kV, doc, pm, an, cdv, ct, osl, rfl, lk, hcd⟩ := F.ex
  intro A hr outer s H as us vs Q E e0 hb r hsp
  have hl := spF_len hn _ _ _ _ hsp
  obtain ⟨c, Pt, ht, TB, m1, m2⟩ := lm
  have hc : cdv = .ref c := tab_code ht lk
  exact LamX.run_ofS lk hcd S hr.r e0 hb r hl fun hr' => ⟨_, hbody cdv A outer s H E ⟨c, Pt, TB, hc, m1, m2⟩ ⟨hr', hr.g⟩, body_go hsp⟩
/-- the law's walk, where defs make lambdas -/
theorem walk_fnL {l : PySem.W.OpenLaw} {n k : Nat} {q : Program} {loose : List Str} {XP : (Str → Option Value) → Heap → Prop} {d : DefRec} {m : Nat} {fa : List He.Fa} {fn : List He.DefD} {ex : PySem.W.Frag → Bool} {x y : Str} {st : Stmt} {F : FF} {Cn Ln : List Str}
    (hn : l.most = some n) (hn2 : n ≤ sizeLine) (hdf : d.params.defaults = []) (hr : RoomG k callerA) (hb : Bnd y st [x]) (hnm : d.name = y)
    (R : ∀ (w : World) (K : PySem.W.Frag) (mg : Str → Option Value) (h base : Heap), K.In h → h.Ns mainGlobals mg → SaysX fa fn ex K → (∀ z ∈ Ln, LmB K mg base (lamT K Ln) z) → RdyG l.prog w K mg base (cAdT K Cn (lamT K Ln)) y st k 1 F [x])
    (T : ∀ ns : List Int, ns.length ≤ n → ∃ h', F [.ro (ns.map .int)] [] = .ok (.bl true) h') :
    PySem.W.WalkO q loose XP (hookT m fa fn ex Ln).says l.row.toRowW d [] (fun f vs => PySem.call f vs) := by
  refine Att.attach_call hn hdf fun w s0 s1 mg mb f o pm cd doc a vs ns G Y ho hd hcd hmg hobj hints hlen hg => ?_
  obtain ⟨K0, F0, c, lo⟩ := Y
  have KX : (noT K0).In s1.heap := F0.noT.kin
  obtain ⟨lo1, lo2⟩ := Bool.and_eq_true_iff.mp lo
  have lo2 := of_decide_eq_true lo2
  have lz : ∀ z ∈ Ln, PySem.W.tabIn (noT K0) z = some (lamAt (noT K0) z) ∧ PySem.W.codeHdIn (noT K0) (lamAt (noT K0) z).1 (lamAt (noT K0) z).2 = true ∧ s1.heap.get? (lamAt (noT K0) z).2 = some { cls := .none, data := .fields #[] } := fun z hz => by
    have e := List.all_eq_true.mp lo1 z hz
    obtain ⟨e1, e⟩ := Bool.and_eq_true_iff.mp e
    obtain ⟨e2, e3⟩ := Bool.and_eq_true_iff.mp e
    refine ⟨?_, e2, tabNone_ok F0 e3⟩
    obtain ⟨p, hp⟩ := Option.isSome_iff_exists.mp e1
    unfold lamAt
    rw [hp]
    rfl
  generalize hK : noT K0 = K at *
  have lm : ∀ base : Heap, (∀ p ∈ Ln.map (lamAt K), LamX.TabB base mg p.1 p.2) → ∀ z ∈ Ln, LmB K mg base (lamT K Ln) z := fun base hT z hz => by
    refine ⟨(lamAt K z).1, (lamAt K z).2, (lz z hz).1, hT _ (List.mem_map_of_mem hz), List.mem_map_of_mem (f := fun x => ((lamAt K x).2, x ++ ".<locals>." ++ "<lambda>")) hz, fun p hp e => ?_⟩
    obtain ⟨y, hy, rfl⟩ := List.mem_map.mp hp
    have : y = z := nodup_inj lo2 hy hz e
    rw [this]
  have tabs : ∀ p ∈ Ln.map (lamAt K), s1.heap.get? p.2 = some { cls := .none, data := .fields #[] } := fun p hp => by
    obtain ⟨z, hz, rfl⟩ := List.mem_map.mp hp
    exact (lz z hz).2.2
  have tabK : ∀ p ∈ Ln.map (lamAt K), K.lookup p.2 = none := fun p hp => by
    rw [← hK]
    exact noT_none F0 (tabs p hp)
  have codes : ∀ p ∈ Ln.map (lamAt K), PySem.W.CodeHd s1.heap p.1 p.2 := fun p hp => by
    obtain ⟨z, hz, rfl⟩ := List.mem_map.mp hp
    exact PySem.W.codeHd_of_K KX (lz z hz).2.1
  have tb1 : ∀ p ∈ Ln.map (lamAt K), LamX.TabB s1.heap mg p.1 p.2 := fun p hp => by
    have tp := tabs p hp
    refine ⟨codes p hp, ?_, fun z => ?_⟩
    · obtain ⟨m, o, b1, b2, b3, b4, b5, b6⟩ := G.T.bmain
      refine ⟨m, o, b1, b2, fun z => ?_, fun z => ?_, b3, b4, b5, b6⟩
      · obtain ⟨o', es, ep, e', hd, _⟩ := G.T.g
        rw [z, e'] at b3
        cases b3
        rw [hd] at b6
        cases b6
      · rw [z, tp] at b3
        cases b3
        cases b6
    · obtain ⟨o', es, ep, e', hd, _⟩ := G.T.g
      rw [z, tp] at e'
      cases e'
      cases hd
  have R0 := R w K mg s1.heap s1.heap KX G.T.g c (lm _ tb1)
  rw [hnm] at hmg
  have e := hmg.symm.trans R0.gm
  cases e
  obtain ⟨fd, Fu, _⟩ := R0.ex
  have hB : ∀ (s : Shared) (u : Value), BindsTo s fd ⟨[u], []⟩ [(x, u)] := fun s u => by
    obtain ⟨oc, od, kV, dc, pm2, an, cdv, ct, osl, rfl, lk, hc2⟩ := Fu.ex
    exact .of_eq (hb kV dc pm2 an cdv ct [u] rfl)
  refine codeAny_mono (law_callG (cs := Ln.map (lamAt K)) KX G.T.g G.T.b G.T.builtins G.T.nolimit hg tabs tabK codes (fun _ => G.T.bmain) hobj hints (Nat.le_trans hlen hn2) (CX := L2.CX l.prog w) (sp := spF K (cAdT K Cn (lamT K Ln)) 1 F) (fun base hK' hG hT => ?_) hB (fun H hH hS => ?_) fun H e s' z => cx_no z) fun r s' post => ?_
  · obtain ⟨fd2, Fu2, G2⟩ := (R w K mg s1.heap base KX G.T.g c (lm base hT)).ex
    have ef : fd2 = fd := by
      obtain ⟨_, _, _, _, _, _, _, _, _, e1, l1, _⟩ := Fu.ex
      obtain ⟨_, _, _, _, _, _, _, _, _, e2, l2, _⟩ := Fu2.ex
      rw [l1] at l2
      cases l2
      rfl
    rw [← ef]
    exact G2 _ hr
  · obtain ⟨h', e⟩ := T ns hlen
    refine law_spG (fun p hp => ?_) hS e
    obtain ⟨z, hz, rfl⟩ := List.mem_map.mp (show p ∈ lamT K Ln from hp)
    exact LamX.TabS.nil (hH _ (List.mem_map_of_mem hz))
  · exact post
end Fn
end
section
namespace Fn
open PySem PySem.Spec PyProof.Rows L2
/-! ## repr of an int or of a tuple of data -/
def bReprX : Val → Store → OR := fun x h => match x with
  | .int i => bReprI (.int i) h
  | y => bReprD y h
def rReprX (X : Cx) : List V → Hp → VK → Prop := fun xs H Q => rReprI xs H Q ∨ rReprD X xs H Q
theorem call_reprX {X : Cx} (hg : X.A.guards = some []) (hu : X.A.units + 100 < cLine) : CallR X (.builtin "repr") (rReprX X) := by
  intro pins s σ H xs us Q I r h
  rcases h with h | h
  · exact SkE.call_repr_int pins s σ H xs us Q I r h
  · exact call_reprD hg hu pins s σ H xs us Q I r h
section
variable {X : Cx} {C : CTb}
theorem f_reprX : OpN X.K C (one bReprX) (rReprX X) := by
  intro S h xs as Q rp rv p
  by_cases hi : ∃ i : Int, as = [.int i]
  · obtain ⟨i, rfl⟩ := hi
    exact .inl (f_reprI S h xs [.int i] Q rp rv p)
  · refine .inr (f_reprD (X := X) (C := C) S h xs as Q rp rv ?_)
    cases as with
    | nil => exact p
    | cons a as => cases as with
      | cons b as => exact p
      | nil => cases a with
        | int i => exact absurd ⟨i, rfl⟩ hi
        | _ => exact p
end
section
variable {X : Cx} {C : CTb} {xi : XI} {W : WX} {a : Expr} {fs : FA} {p pos : Pos}
theorem xe_reprX (hg' : X.A.guards = some []) (hu : X.A.units + 100 < cLine) (hm : X.mg "repr" = none) (ha : PA X [a] (rA X.K C xi W fs)) (hg : Gl X "repr" := by rfl) (he : starEach (a :: []) X.env = (false, eval a X.env) :: starEach [] X.env := by rfl) :
    PE X (.Call (.Name "repr" p) [a] [] pos) (rE X.K C xi W (fB (one bReprX) fs)) := xe_B (id := "repr") (call_reprX hg' hu) f_reprX (by decide +kernel) hm ha hg (by decide) (by decide) he rfl
end
end Fn
end
section
namespace Fn
open PySem PySem.Spec PyProof.Rows L2
/-! ## (a,) + u of frozen tuples, u may be empty; max of a frozen tuple -/
section
variable {K : PySem.W.Frag} {C : CTb}
end
section
variable {X : Cx} {C : CTb} {xi : XI} {W : WX} {a b : Expr} {fa fb : FE} {pos : Pos}
end
section
variable {K : PySem.W.Frag} {C : CTb}
end
section
variable {X : Cx} {C : CTb} {xi : XI} {W : WX} {a : Expr} {fs : FA} {p pos : Pos}
end
end Fn
end
section
set_option maxHeartbeats 4000000
namespace Gk02
open PySem PySem.Spec PyProof.Rows L2 Fn
def top (i : Nat) : Stmt := PySem.Challenge.pw_carriedends_k02_choosing_and_bags.main.body.getD i (.Pass ⟨0, 0, 0, 0⟩)
abbrev s__law_pool : Stmt := top 10
abbrev s__law_take : Stmt := top 11
abbrev s__law_one : Stmt := top 12
abbrev s__law_is : Stmt := top 17
abbrev s__law_choose : Stmt := top 13
abbrev s_choose : Stmt := top 7
abbrev s__law_told : Stmt := top 16
abbrev s__law_choose_right : Stmt := top 18
abbrev s__law_bags : Stmt := top 14
abbrev s_bags : Stmt := top 8
abbrev s__law_great_bags : Stmt := top 15
abbrev s__law_bags_right : Stmt := top 19
abbrev s_law : Stmt := top 20
abbrev s_ini : Stmt := (clsB (top 2)).getD 0 (.Pass ⟨0, 0, 0, 0⟩)
abbrev clsNames : List Str := [("Refused" : Str), ("BadCount" : Str)]
abbrev lamNames : List Str := [("_law_choose_right" : Str), ("_law_bags_right" : Str)]
abbrev CC (K : PySem.W.Frag) : CTb := cAdT K clsNames (lamT K lamNames)
structure TX (P : Program) (w : World) (K : PySem.W.Frag) (mg : Str → Option Value) (base : Heap) : Prop where
  z_bool : mg ("bool" : Str) = none
  z_int : mg ("int" : Str) = none
  z_isinstance : mg ("isinstance" : Str) = none
  z_len : mg ("len" : Str) = none
  z_max : mg ("max" : Str) = none
  z_min : mg ("min" : Str) = none
  z_range : mg ("range" : Str) = none
  z_repr : mg ("repr" : Str) = none
  g_BadCount : mg ("BadCount" : Str) = some (.ref (He.ga K ("BadCount" : Str)))
  g_Refused : mg ("Refused" : Str) = some (.ref (He.ga K ("Refused" : Str)))
  g__law_bags : mg ("_law_bags" : Str) = some (.ref (He.ga K ("_law_bags" : Str)))
  g__law_bags_right : mg ("_law_bags_right" : Str) = some (.ref (He.ga K ("_law_bags_right" : Str)))
  g__law_choose : mg ("_law_choose" : Str) = some (.ref (He.ga K ("_law_choose" : Str)))
  g__law_choose_right : mg ("_law_choose_right" : Str) = some (.ref (He.ga K ("_law_choose_right" : Str)))
  g__law_great_bags : mg ("_law_great_bags" : Str) = some (.ref (He.ga K ("_law_great_bags" : Str)))
  g__law_is : mg ("_law_is" : Str) = some (.ref (He.ga K ("_law_is" : Str)))
  g__law_one : mg ("_law_one" : Str) = some (.ref (He.ga K ("_law_one" : Str)))
  g__law_pool : mg ("_law_pool" : Str) = some (.ref (He.ga K ("_law_pool" : Str)))
  g__law_take : mg ("_law_take" : Str) = some (.ref (He.ga K ("_law_take" : Str)))
  g__law_told : mg ("_law_told" : Str) = some (.ref (He.ga K ("_law_told" : Str)))
  g_bags : mg ("bags" : Str) = some (.ref (He.ga K ("bags" : Str)))
  g_choose : mg ("choose" : Str) = some (.ref (He.ga K ("choose" : Str)))
  g_law : mg ("law" : Str) = some (.ref (He.ga K ("law" : Str)))
  i_MOST_CHOSEN : ∃ t, mg ("MOST_CHOSEN" : Str) = some (.int (400) t)
  i_MOST_OF_MANY_KINDS : ∃ t, mg ("MOST_OF_MANY_KINDS" : Str) = some (.int (60) t)
  e_Refused : ExAll K (He.ga K ("Refused" : Str)) (He.ma K (He.ga K ("Refused" : Str)) "__init__")
  e_BadCount : ExAll K (He.ga K ("BadCount" : Str)) (He.ma K (He.ga K ("Refused" : Str)) "__init__")
  q_Refused : PySem.W.ClsQ K (He.ga K ("Refused" : Str))
  q_BadCount : PySem.W.ClsQ K (He.ga K ("BadCount" : Str))
  x_BadCount_BadCount : PySem.W.exmOne K (.ref (He.ga K ("BadCount" : Str))) (.ref (He.ga K ("BadCount" : Str))) = some true
  x_BadCount_Refused : PySem.W.exmOne K (.ref (He.ga K ("BadCount" : Str))) (.ref (He.ga K ("Refused" : Str))) = some true
  x_Refused_BadCount : PySem.W.exmOne K (.ref (He.ga K ("Refused" : Str))) (.ref (He.ga K ("BadCount" : Str))) = some false
  x_Refused_Refused : PySem.W.exmOne K (.ref (He.ga K ("Refused" : Str))) (.ref (He.ga K ("Refused" : Str))) = some true
  u__law_pool : ∃ fd, L2.Fun K ("_law_pool" : Str) ("_law_pool" : Str) s__law_pool (He.ga K ("_law_pool" : Str)) fd
  u__law_take : ∃ fd, L2.Fun K ("_law_take" : Str) ("_law_take" : Str) s__law_take (He.ga K ("_law_take" : Str)) fd
  u__law_one : ∃ fd, L2.Fun K ("_law_one" : Str) ("_law_one" : Str) s__law_one (He.ga K ("_law_one" : Str)) fd
  u__law_is : ∃ fd, L2.Fun K ("_law_is" : Str) ("_law_is" : Str) s__law_is (He.ga K ("_law_is" : Str)) fd
  u__law_choose : ∃ fd, L2.Fun K ("_law_choose" : Str) ("_law_choose" : Str) s__law_choose (He.ga K ("_law_choose" : Str)) fd
  u_choose : ∃ fd, L2.Fun K ("choose" : Str) ("choose" : Str) s_choose (He.ga K ("choose" : Str)) fd
  u__law_told : ∃ fd, L2.Fun K ("_law_told" : Str) ("_law_told" : Str) s__law_told (He.ga K ("_law_told" : Str)) fd
  u__law_choose_right : ∃ fd, L2.Fun K ("_law_choose_right" : Str) ("_law_choose_right" : Str) s__law_choose_right (He.ga K ("_law_choose_right" : Str)) fd
  u__law_bags : ∃ fd, L2.Fun K ("_law_bags" : Str) ("_law_bags" : Str) s__law_bags (He.ga K ("_law_bags" : Str)) fd
  u_bags : ∃ fd, L2.Fun K ("bags" : Str) ("bags" : Str) s_bags (He.ga K ("bags" : Str)) fd
  u__law_great_bags : ∃ fd, L2.Fun K ("_law_great_bags" : Str) ("_law_great_bags" : Str) s__law_great_bags (He.ga K ("_law_great_bags" : Str)) fd
  u__law_bags_right : ∃ fd, L2.Fun K ("_law_bags_right" : Str) ("_law_bags_right" : Str) s__law_bags_right (He.ga K ("_law_bags_right" : Str)) fd
  u_law : ∃ fd, L2.Fun K ("law" : Str) ("law" : Str) s_law (He.ga K ("law" : Str)) fd
  b_comb : mg ("comb" : Str) = some (.builtin "math.comb")
  l__law_choose_right : LmB K mg base (lamT K lamNames) ("_law_choose_right" : Str)
  l__law_bags_right : LmB K mg base (lamT K lamNames) ("_law_bags_right" : Str)
  ini : IniR P w K mg base (He.ma K (He.ga K ("Refused" : Str)) "__init__")
section
variable {P : Program} {w : World} {K : PySem.W.Frag} {mg : Str → Option Value} {base : Heap}
theorem ex_of (T : TX P w K mg base) {c : Nat} {l : List Bool} (h : tab l c = some true) (hl : l.length ≤ 2 := by decide) : ExAll K (CC K c) (He.ma K (He.ga K ("Refused" : Str)) "__init__") := by
  have hc : c < l.length := (List.getElem?_eq_some_iff.mp (show l[c]? = some true from h)).1
  exact (match c, (show c < 2 by omega) with | 0, _ => T.e_Refused | 1, _ => T.e_BadCount)
theorem cq_of (T : TX P w K mg base) {c : Nat} {l : List Bool} (h : tab l c = some true) (hl : l.length ≤ 2 := by decide) : PySem.W.ClsQ K (CC K c) := by
  have hc : c < l.length := (List.getElem?_eq_some_iff.mp (show l[c]? = some true from h)).1
  exact (match c, (show c < 2 by omega) with | 0, _ => T.q_Refused | 1, _ => T.q_BadCount)
theorem ks_of (T : TX P w K mg base) {c : Nat} {l : List Bool} (h : tab l c = some true) (hl : l.length ≤ 2 := by decide) : PySem.W.exmOne K (.ref (CC K c)) (.ref (CC K c)) = some true := by
  have hc : c < l.length := (List.getElem?_eq_some_iff.mp (show l[c]? = some true from h)).1
  exact (match c, (show c < 2 by omega) with | 0, _ => T.x_Refused_Refused | 1, _ => T.x_BadCount_BadCount)
/-! ### _law_pool -/
theorem sc__law_pool : FnScope [("_law_script" : Str), ("_law_k" : Str), ("_law_cell" : Str), ("_law_big" : Str), ("_law_mixed" : Str)] [("_law_script" : Str), ("_law_k" : Str)] (defScope s__law_pool) := ⟨rfl, rfl, rfl, by decide +kernel, rfl, by decide +kernel, by decide +kernel⟩
theorem b__law_pool : Bnd ("_law_pool" : Str) s__law_pool [("_law_script" : Str), ("_law_k" : Str)] := fun _ _ _ _ _ _ us hl => match us, hl with | [_, _], _ => rfl
def f__law_pool : FF := runF 5 (fSeq (fSet 2 (fK (.int (0))))
  (fSeq (fIfS (fTest (fBin oLt (fVar 1) (fB (one bLen) (fCons (fVar 0) fNil)))) (fSet 2 (fBin oIx (fVar 0) (fVar 1))) (fIfS (fTru (fVar 0)) (fSet 2 (fBin oIx (fVar 0) (fK (.int (0))))) fNext))
  (fSeq (fSet 3 (fB (two bMax2) (fCons (fB (one bInt) (fCons (fVar 2) fNil)) (fCons (fB (one bInt) (fCons (fBin oSub (fUn oNeg (fK (.int (1)))) (fVar 2)) fNil)) fNil))))
  (fSeq (fSet 4 (fBin oMod (fB (one bInt) (fCons (fBin oMul (fBin oAdd (fBin oAdd (fBin oAdd (fBin oMod (fB (one bInt) (fCons (fVar 3) fNil)) (fK (.int (2147483629)))) (fBin oMul (fBin oMul (fK (.int (7919))) (fVar 1)) (fVar 1))) (fBin oMul (fK (.int (31))) (fVar 1))) (fK (.int (17)))) (fK (.int (48271)))) fNil)) (fK (.int (2147483647)))))
  (fRet (fLst (fCons (fBin oMul (fVar 3) (fB (one bInt) (fCons (fBin oGe (fVar 3) (fBin oPow (fK (.int (10))) (fK (.int (18))))) fNil))) (fCons (fVar 4) fNil))))))))
theorem r__law_pool (T : TX P w K mg base) : Rdy P w K mg base (CC K) ("_law_pool" : Str) s__law_pool 1 2 f__law_pool [("_law_script" : Str), ("_law_k" : Str)] := rdy_of (N := [("_law_script" : Str), ("_law_k" : Str), ("_law_cell" : Str), ("_law_big" : Str), ("_law_mixed" : Str)]) T.g__law_pool T.u__law_pool sc__law_pool rfl fun cdv A outer s H E hr => by
  exact (xss_cons (xs_set 2 sc__law_pool.nd xe_int)
  (xss_cons (xs_if (xt_cmpO c_lt (xe_var 1) (xe_len T.z_len (xa_cons (xe_var 0) xa_nil))) (xss_one (xs_set 2 sc__law_pool.nd (xe_ix (xe_var 0) (xe_var 1)))) (xss_one (xs_if (xt_tru (xe_var 0)) (xss_one (xs_set 2 sc__law_pool.nd (xe_ix (xe_var 0) xe_int))) xss_nil)))
  (xss_cons (xs_set 3 sc__law_pool.nd (xe_max2 rfl T.z_max (xa_cons (xe_int1 T.z_int (xa_cons (xe_var 2) xa_nil)) (xa_cons (xe_int1 T.z_int (xa_cons (xe_sub (xe_neg xe_int) (xe_var 2)) xa_nil)) xa_nil))))
  (xss_cons (xs_set 4 sc__law_pool.nd (xe_mod (xe_int1 T.z_int (xa_cons (xe_mul (xe_add (xe_add (xe_add (xe_mod (xe_int1 T.z_int (xa_cons (xe_var 3) xa_nil)) xe_int) (xe_mul (xe_mul xe_int (xe_var 1)) (xe_var 1))) (xe_mul xe_int (xe_var 1))) xe_int) xe_int) xa_nil)) xe_int))
  (xss_one (xs_ret (xe_lst (xa_cons (xe_mul (xe_var 3) (xe_int1 T.z_int (xa_cons (xe_cmpO c_ge (xe_var 3) (xe_pow xe_int xe_int)) xa_nil))) (xa_cons (xe_var 4) xa_nil)))))))))
/-! ### _law_take -/
theorem sc__law_take : FnScope [("_law_source" : Str), ("_law_top" : Str), ("_law_drawn" : Str)] [("_law_source" : Str), ("_law_top" : Str)] (defScope s__law_take) := ⟨rfl, rfl, rfl, by decide +kernel, rfl, by decide +kernel, by decide +kernel⟩
theorem b__law_take : Bnd ("_law_take" : Str) s__law_take [("_law_source" : Str), ("_law_top" : Str)] := fun _ _ _ _ _ _ us hl => match us, hl with | [_, _], _ => rfl
def f__law_take : FF := runF 3 (fSeq (fIfS (fTest (fBin oGt (fBin oIx (fVar 0) (fK (.int (0)))) (fK (.int (0))))) (fSeq (fSet 2 (fBin oMod (fB (one bInt) (fCons (fBin oIx (fVar 0) (fK (.int (0)))) fNil)) (fVar 1)))
  (fSeq (fAsg (fBin oFdiv (fBin oIx (fVar 0) (fK (.int (0)))) (fVar 1)) (gSb (fVar 0) (fK (.int (0))) sLst))
  (fRet (fVar 2)))) fNext)
  (fSeq (fAsg (fBin oMod (fB (one bInt) (fCons (fBin oAdd (fBin oMul (fBin oIx (fVar 0) (fK (.int (1)))) (fK (.int (39373)))) (fK (.int (7)))) fNil)) (fK (.int (2147483647)))) (gSb (fVar 0) (fK (.int (1))) sLst))
  (fRet (fBin oMod (fB (one bInt) (fCons (fBin oFdiv (fBin oMod (fB (one bInt) (fCons (fBin oMul (fBin oIx (fVar 0) (fK (.int (1)))) (fBin oIx (fVar 0) (fK (.int (1))))) fNil)) (fK (.int (2147483629)))) (fK (.int (32)))) fNil)) (fVar 1)))))
theorem r__law_take (T : TX P w K mg base) : Rdy P w K mg base (CC K) ("_law_take" : Str) s__law_take 1 2 f__law_take [("_law_source" : Str), ("_law_top" : Str)] := rdy_of (N := [("_law_source" : Str), ("_law_top" : Str), ("_law_drawn" : Str)]) T.g__law_take T.u__law_take sc__law_take rfl fun cdv A outer s H E hr => by
  exact (xss_cons (xs_if (xt_cmpO c_gt (xe_ix (xe_var 0) xe_int) xe_int) (xss_cons (xs_set 2 sc__law_take.nd (xe_mod (xe_int1 T.z_int (xa_cons (xe_ix (xe_var 0) xe_int) xa_nil)) (xe_var 1)))
  (xss_cons (xs_asg (xe_fdiv (xe_ix (xe_var 0) xe_int) (xe_var 1)) (xg_setL (xe_var 0) xe_int))
  (xss_one (xs_ret (xe_var 2))))) xss_nil)
  (xss_cons (xs_asg (xe_mod (xe_int1 T.z_int (xa_cons (xe_add (xe_mul (xe_ix (xe_var 0) xe_int) xe_int) xe_int) xa_nil)) xe_int) (xg_setL (xe_var 0) xe_int))
  (xss_one (xs_ret (xe_mod (xe_int1 T.z_int (xa_cons (xe_fdiv (xe_mod (xe_int1 T.z_int (xa_cons (xe_mul (xe_ix (xe_var 0) xe_int) (xe_ix (xe_var 0) xe_int)) xa_nil)) xe_int) xe_int) xa_nil)) (xe_var 1))))))
/-! ### _law_one -/
theorem sc__law_one : FnScope [("_law_source" : Str), ("_law_things" : Str)] [("_law_source" : Str), ("_law_things" : Str)] (defScope s__law_one) := ⟨rfl, rfl, rfl, by decide +kernel, rfl, by decide +kernel, by decide +kernel⟩
theorem b__law_one : Bnd ("_law_one" : Str) s__law_one [("_law_source" : Str), ("_law_things" : Str)] := fun _ _ _ _ _ _ us hl => match us, hl with | [_, _], _ => rfl
def f__law_one : FF := runF 2 (fRet (fBin oIx (fVar 1) (fCall f__law_take 2 (fCons (fVar 0) (fCons (fB (one bLen) (fCons (fVar 1) fNil)) fNil)))))
theorem r__law_one (T : TX P w K mg base) : Rdy P w K mg base (CC K) ("_law_one" : Str) s__law_one 2 2 f__law_one [("_law_source" : Str), ("_law_things" : Str)] := rdy_of (N := [("_law_source" : Str), ("_law_things" : Str)]) T.g__law_one T.u__law_one sc__law_one rfl fun cdv A outer s H E hr => by
  exact (xss_one (xs_ret (xe_ix (xe_var 1) (xe_cl (r__law_take T) (hr.mono (by decide)) b__law_take (takes_of rfl rfl rfl rfl) (xa_cons (xe_var 0) (xa_cons (xe_len T.z_len (xa_cons (xe_var 1) xa_nil)) xa_nil))))))
/-! ### _law_is -/
theorem sc__law_is : FnScope [("_law_told_here" : Str), ("_law_due" : Str)] [("_law_told_here" : Str), ("_law_due" : Str)] (defScope s__law_is) := ⟨rfl, rfl, rfl, by decide +kernel, rfl, by decide +kernel, by decide +kernel⟩
theorem b__law_is : Bnd ("_law_is" : Str) s__law_is [("_law_told_here" : Str), ("_law_due" : Str)] := fun _ _ _ _ _ _ us hl => match us, hl with | [_, _], _ => rfl
def f__law_is : FF := runF 2 (fRet (fAnd (fIsi "int" (fVar 0)) (fAnd (fNot (fIsi "bool" (fVar 0))) (fBin oEq (fVar 0) (fVar 1)))))
theorem r__law_is (T : TX P w K mg base) : Rdy P w K mg base (CC K) ("_law_is" : Str) s__law_is 1 2 f__law_is [("_law_told_here" : Str), ("_law_due" : Str)] := rdy_of (N := [("_law_told_here" : Str), ("_law_due" : Str)]) T.g__law_is T.u__law_is sc__law_is rfl fun cdv A outer s H E hr => by
  exact (xss_one (xs_ret (xe_and (xe_isi (T := "int") (k1 := ⟨0, 0, 0, 0⟩) (by decide +kernel) T.z_int T.z_isinstance (xe_var 0)) (xe_and (xe_not (xe_isi (T := "bool") (k1 := ⟨0, 0, 0, 0⟩) (by decide +kernel) T.z_bool T.z_isinstance (xe_var 0))) (xe_one (xe_cmpO (c_eq (hu_r hr)) (xe_var 0) (xe_var 1)))))))
/-! ### _law_choose -/
theorem sc__law_choose : FnScope [("_law_a" : Str), ("_law_b" : Str), ("_law_turn" : Str), ("_law_above" : Str), ("_law_below" : Str)] [("_law_a" : Str), ("_law_b" : Str)] (defScope s__law_choose) := ⟨rfl, rfl, rfl, by decide +kernel, rfl, by decide +kernel, by decide +kernel⟩
theorem b__law_choose : Bnd ("_law_choose" : Str) s__law_choose [("_law_a" : Str), ("_law_b" : Str)] := fun _ _ _ _ _ _ us hl => match us, hl with | [_, _], _ => rfl
def f__law_choose : FF := runF 5 (fSeq (fIfS (fTest (fBin oLt (fVar 0) (fVar 1))) (fRet (fK (.int (0)))) fNext)
  (fSeq (fAsg (fTup (fCons (fK (.int (1))) (fCons (fK (.int (1))) fNil))) (gTp 2 (gsCons (gNm 3) (gsCons (gNm 4) gsNil))))
  (fSeq (fFor (iRg1 (fCons (fVar 1) fNil)) (gNm 2) (fPar2 3 4 (fCons (fBin oMul (fVar 3) (fBin oSub (fVar 0) (fVar 2))) (fCons (fBin oMul (fVar 4) (fBin oAdd (fVar 2) (fK (.int (1))))) fNil))))
  (fRet (fBin oFdiv (fVar 3) (fVar 4))))))
theorem r__law_choose (T : TX P w K mg base) : Rdy P w K mg base (CC K) ("_law_choose" : Str) s__law_choose 1 2 f__law_choose [("_law_a" : Str), ("_law_b" : Str)] := rdy_of (N := [("_law_a" : Str), ("_law_b" : Str), ("_law_turn" : Str), ("_law_above" : Str), ("_law_below" : Str)]) T.g__law_choose T.u__law_choose sc__law_choose rfl fun cdv A outer s H E hr => by
  exact (xss_cons (xs_if (xt_cmpO c_lt (xe_var 0) (xe_var 1)) (xss_one (xs_ret xe_int)) xss_nil)
  (xss_cons (xs_asg (xe_tup (xa_cons xe_int (xa_cons xe_int xa_nil))) (xg_tup rfl (xgs_cons (xg_name 3 sc__law_choose.nd) (xgs_cons (xg_name 4 sc__law_choose.nd) xgs_nil))))
  (xss_cons (xs_for (passes_of rfl) rfl (xi_rg1 T.z_range (xa_cons (xe_var 1) xa_nil)) (xg_name 2 sc__law_choose.nd) (xss_one (xs_par2 3 4 rfl sc__law_choose.nd (xa_cons (xe_mul (xe_var 3) (xe_sub (xe_var 0) (xe_var 2))) (xa_cons (xe_mul (xe_var 4) (xe_add (xe_var 2) xe_int)) xa_nil)))))
  (xss_one (xs_ret (xe_fdiv (xe_var 3) (xe_var 4)))))))
/-! ### choose -/
theorem sc_choose : FnScope [("a" : Str), ("b" : Str)] [("a" : Str), ("b" : Str)] (defScope s_choose) := ⟨rfl, rfl, rfl, by decide +kernel, rfl, by decide +kernel, by decide +kernel⟩
theorem b_choose : Bnd ("choose" : Str) s_choose [("a" : Str), ("b" : Str)] := fun _ _ _ _ _ _ us hl => match us, hl with | [_, _], _ => rfl
def f_choose : FF := runF 2 (fSeq (fIfS (fTest (fBin oLt (fVar 0) (fK (.int (0))))) (fRaise 1 (fVar 0)) fNext)
  (fSeq (fIfS (fNotT (fTest (fCmpN (fK (.int (0))) (fChK oLe (fVar 1) (fChL oLe (fK (.int (400)))))))) (fRaise 1 (fVar 1)) fNext)
  (fRet (fB (two bComb) (fCons (fVar 0) (fCons (fVar 1) fNil))))))
theorem r_choose (T : TX P w K mg base) : Rdy P w K mg base (CC K) ("choose" : Str) s_choose 3 2 f_choose [("a" : Str), ("b" : Str)] := rdy_of (N := [("a" : Str), ("b" : Str)]) T.g_choose T.u_choose sc_choose rfl fun cdv A outer s H E hr => by
  exact (xss_cons (xs_if (xt_cmpO c_lt (xe_var 0) xe_int) (xss_one (xs_rs (c := 1) T.ini rfl (takes_of rfl rfl rfl rfl) T.e_BadCount (hr.mono (by decide)) T.g_BadCount (xe_var 0))) xss_nil)
  (xss_cons (xs_if (xt_not (xt_ch xe_int (xch_link c_le (xe_var 1) (xch_last c_le (xe_gI T.i_MOST_CHOSEN))))) (xss_one (xs_rs (c := 1) T.ini rfl (takes_of rfl rfl rfl rfl) T.e_BadCount (hr.mono (by decide)) T.g_BadCount (xe_var 1))) xss_nil)
  (xss_one (xs_ret (xe_comb T.b_comb (xa_cons (xe_var 0) (xa_cons (xe_var 1) xa_nil)))))))
/-! ### _law_told -/
theorem sc__law_told : FnScope [("_law_deed" : Str), ("e" : Str)] [("_law_deed" : Str)] (defScope s__law_told) := ⟨rfl, rfl, rfl, by decide +kernel, rfl, by decide +kernel, by decide +kernel⟩
theorem b__law_told : Bnd ("_law_told" : Str) s__law_told [("_law_deed" : Str)] := fun _ _ _ _ _ _ us hl => match us, hl with | [_], _ => rfl
def tf__law_told : Nat → Val → FS := fun c w => (fRet (fTup (fCons (fIf (fTru (fIsD (tab [false, true]) c)) (fK (.str ("count" : Str))) (fK (.str ("other" : Str)))) (fCons (fWhat w) fNil))))
theorem told__law_told (T : TX P w K mg base) : ToldR P w K mg base (CC K) ("_law_told" : Str) ("_law_deed" : Str) s__law_told [("_law_deed" : Str), ("e" : Str)] 2 1 (tab [true, true]) tf__law_told := ⟨T.u__law_told, T.g__law_told, sc__law_told, b__law_told, fun X e1 e2 e3 e4 e5 cdg q => by
  subst e1 e2 e3 e4 e5
  exact gives_told (i := 1) (t := tab [true, true]) sc__law_told.nd rfl rfl (fun s H => ⟨rfl, by decide, .inl T.g_Refused⟩) (fun c b h => match c, h with | 0, h => (by cases h; exact T.x_Refused_Refused) | 1, h => (by cases h; exact T.x_BadCount_Refused) | n + 2, h => (by cases h)) (fun u => rfl) (fun s H a oe c w dd pn ht hz hf => by unfold tf__law_told; exact (xss_one (xs_ret (xe_tup (xa_cons (xe_if (xt_tru (xe_isD (i := 1) (t := tab [false, true]) (ex_of T ht).xf (cq_of T ht) hz hf (fun b h => kit_of_exm ((match c, h with | 0, h => (by cases h; exact T.x_Refused_BadCount) | 1, h => (by cases h; exact T.x_BadCount_BadCount) | n + 2, h => (by cases h)) : PySem.W.exmOne X.K (.ref (CC X.K c)) (.ref (He.ga X.K ("BadCount" : Str))) = some b) (ks_of T ht)) T.z_isinstance T.g_BadCount)) xe_str xe_str) (xa_cons (xe_what (i := 1) (ex_of T ht).xf (ex_of T ht).no hz hf) xa_nil))))))⟩
/-! ### _law_choose_right -/
theorem sc__law_choose_right : FnScope [("_law_source" : Str), ("_law_b" : Str), ("_law_a" : Str), ("_law_less" : Str), ("_law_wide" : Str)] [("_law_source" : Str)] (defScope s__law_choose_right) := ⟨rfl, rfl, rfl, by decide +kernel, rfl, by decide +kernel, by decide +kernel⟩
theorem b__law_choose_right : Bnd ("_law_choose_right" : Str) s__law_choose_right [("_law_source" : Str)] := fun _ _ _ _ _ _ us hl => match us, hl with | [_], _ => rfl
def f__law_choose_right : FF := runF 5 (fSeq (fSet 1 (fCall f__law_one 2 (fCons (fVar 0) (fCons (fLst (fCons (fCall f__law_take 2 (fCons (fVar 0) (fCons (fK (.int (15))) fNil))) (fCons (fCall f__law_take 2 (fCons (fVar 0) (fCons (fK (.int (15))) fNil))) (fCons (fCall f__law_take 2 (fCons (fVar 0) (fCons (fK (.int (15))) fNil))) (fCons (fK (.int (400))) (fCons (fCall f__law_take 2 (fCons (fVar 0) (fCons (fK (.int (401))) fNil))) fNil)))))) fNil))))
  (fSeq (fSet 2 (fCall f__law_one 2 (fCons (fVar 0) (fCons (fLst (fCons (fCall f__law_take 2 (fCons (fVar 0) (fCons (fK (.int (13))) fNil))) (fCons (fCall f__law_take 2 (fCons (fVar 0) (fCons (fK (.int (13))) fNil))) (fCons (fVar 1) (fCons (fBin oAdd (fVar 1) (fK (.int (1)))) (fCons (fCall f__law_take 2 (fCons (fVar 0) (fCons (fBin oPow (fK (.int (10))) (fK (.int (18)))) fNil))) fNil)))))) fNil))))
  (fSeq (fIfS (fOrT (fNotT (fTru (fCall f__law_is 2 (fCons (fCall f_choose 2 (fCons (fVar 2) (fCons (fVar 1) fNil))) (fCons (fCall f__law_choose 2 (fCons (fVar 2) (fCons (fVar 1) fNil))) fNil))))) (fTest (fBin oNe (fCallK f_choose 0 2 [1, 0] fNil (fCons (fVar 1) (fCons (fVar 2) fNil))) (fCall f_choose 2 (fCons (fVar 2) (fCons (fVar 1) fNil)))))) (fRet (fK (.bl false))) fNext)
  (fSeq (fAsg (fTup (fCons (fBin oSub (fUn oNeg (fK (.int (1)))) (fCall f__law_take 2 (fCons (fVar 0) (fCons (fBin oPow (fK (.int (10))) (fK (.int (6)))) fNil)))) (fCons (fCall f__law_one 2 (fCons (fVar 0) (fCons (fLst (fCons (fUn oNeg (fK (.int (1)))) (fCons (fK (.int (401))) (fCons (fBin oAdd (fK (.int (401))) (fCall f__law_take 2 (fCons (fVar 0) (fCons (fBin oPow (fK (.int (10))) (fK (.int (6)))) fNil)))) fNil)))) fNil))) fNil))) (gTp 2 (gsCons (gNm 3) (gsCons (gNm 4) gsNil))))
  (fSeq (fIfS (fTest (fBin oNe (fB (one bReprX) (fCons (fLam 2 1 (tab [true, true]) tf__law_told (fCall f_choose 2 (fCons (fVar 3) (fCons (fVar 1) fNil)))) fNil)) (fB (one bReprX) (fCons (fTup (fCons (fK (.str ("count" : Str))) (fCons (fVar 3) fNil))) fNil)))) (fRet (fK (.bl false))) fNext)
  (fSeq (fIfS (fTest (fBin oNe (fB (one bReprX) (fCons (fLam 2 1 (tab [true, true]) tf__law_told (fCall f_choose 2 (fCons (fVar 3) (fCons (fVar 4) fNil)))) fNil)) (fB (one bReprX) (fCons (fTup (fCons (fK (.str ("count" : Str))) (fCons (fVar 3) fNil))) fNil)))) (fRet (fK (.bl false))) fNext)
  (fRet (fBin oEq (fB (one bReprX) (fCons (fLam 2 1 (tab [true, true]) tf__law_told (fCall f_choose 2 (fCons (fVar 2) (fCons (fVar 4) fNil)))) fNil)) (fB (one bReprX) (fCons (fTup (fCons (fK (.str ("count" : Str))) (fCons (fVar 4) fNil))) fNil))))))))))
theorem r__law_choose_right (T : TX P w K mg base) : RdyG P w K mg base (CC K) ("_law_choose_right" : Str) s__law_choose_right 6 1 f__law_choose_right [("_law_source" : Str)] := rdyL_of (N := [("_law_source" : Str), ("_law_b" : Str), ("_law_a" : Str), ("_law_less" : Str), ("_law_wide" : Str)]) T.l__law_choose_right T.g__law_choose_right T.u__law_choose_right sc__law_choose_right rfl fun cdv A outer s H E hlam hr => by
  exact (xss_cons (xs_set 1 sc__law_choose_right.nd (xe_cl (r__law_one T) (hr.mono (by decide)).r b__law_one (takes_of rfl rfl rfl rfl) (xa_cons (xe_var 0) (xa_cons (xe_lst (xa_cons (xe_cl (r__law_take T) (hr.mono (by decide)).r b__law_take (takes_of rfl rfl rfl rfl) (xa_cons (xe_var 0) (xa_cons xe_int xa_nil))) (xa_cons (xe_cl (r__law_take T) (hr.mono (by decide)).r b__law_take (takes_of rfl rfl rfl rfl) (xa_cons (xe_var 0) (xa_cons xe_int xa_nil))) (xa_cons (xe_cl (r__law_take T) (hr.mono (by decide)).r b__law_take (takes_of rfl rfl rfl rfl) (xa_cons (xe_var 0) (xa_cons xe_int xa_nil))) (xa_cons xe_int (xa_cons (xe_cl (r__law_take T) (hr.mono (by decide)).r b__law_take (takes_of rfl rfl rfl rfl) (xa_cons (xe_var 0) (xa_cons xe_int xa_nil))) xa_nil)))))) xa_nil))))
  (xss_cons (xs_set 2 sc__law_choose_right.nd (xe_cl (r__law_one T) (hr.mono (by decide)).r b__law_one (takes_of rfl rfl rfl rfl) (xa_cons (xe_var 0) (xa_cons (xe_lst (xa_cons (xe_cl (r__law_take T) (hr.mono (by decide)).r b__law_take (takes_of rfl rfl rfl rfl) (xa_cons (xe_var 0) (xa_cons xe_int xa_nil))) (xa_cons (xe_cl (r__law_take T) (hr.mono (by decide)).r b__law_take (takes_of rfl rfl rfl rfl) (xa_cons (xe_var 0) (xa_cons xe_int xa_nil))) (xa_cons (xe_var 1) (xa_cons (xe_add (xe_var 1) xe_int) (xa_cons (xe_cl (r__law_take T) (hr.mono (by decide)).r b__law_take (takes_of rfl rfl rfl rfl) (xa_cons (xe_var 0) (xa_cons (xe_pow xe_int xe_int) xa_nil))) xa_nil)))))) xa_nil))))
  (xss_cons (xs_if (PW.pt (xw_or (xt_not (xt_tru (xe_cl (r__law_is T) (hr.mono (by decide)).r b__law_is (takes_of rfl rfl rfl rfl) (xa_cons (xe_cl (r_choose T) (hr.mono (by decide)).r b_choose (takes_of rfl rfl rfl rfl) (xa_cons (xe_var 2) (xa_cons (xe_var 1) xa_nil))) (xa_cons (xe_cl (r__law_choose T) (hr.mono (by decide)).r b__law_choose (takes_of rfl rfl rfl rfl) (xa_cons (xe_var 2) (xa_cons (xe_var 1) xa_nil))) xa_nil))))) (xw_one (xt_cmpO (c_ne (hu_r hr.r)) (xe_clK0 (r_choose T) (hr.mono (by decide)).r (ks := [("b" : Str), ("a" : Str)]) (idx := [1, 0]) (fun _ _ _ _ _ _ us ws h1 h2 => match us, ws, h1, h2 with | [], [_, _], _, _ => rfl) (fun l h => match l, h with | [_, _], _ => rfl) (takes_of rfl rfl rfl rfl) (xk_cons (xe_var 1) (xk_cons (xe_var 2) xk_nil))) (xe_cl (r_choose T) (hr.mono (by decide)).r b_choose (takes_of rfl rfl rfl rfl) (xa_cons (xe_var 2) (xa_cons (xe_var 1) xa_nil))))))) (xss_one (xs_ret xe_bl)) xss_nil)
  (xss_cons (xs_asg (xe_tup (xa_cons (xe_sub (xe_neg xe_int) (xe_cl (r__law_take T) (hr.mono (by decide)).r b__law_take (takes_of rfl rfl rfl rfl) (xa_cons (xe_var 0) (xa_cons (xe_pow xe_int xe_int) xa_nil)))) (xa_cons (xe_cl (r__law_one T) (hr.mono (by decide)).r b__law_one (takes_of rfl rfl rfl rfl) (xa_cons (xe_var 0) (xa_cons (xe_lst (xa_cons (xe_neg xe_int) (xa_cons xe_int (xa_cons (xe_add xe_int (xe_cl (r__law_take T) (hr.mono (by decide)).r b__law_take (takes_of rfl rfl rfl rfl) (xa_cons (xe_var 0) (xa_cons (xe_pow xe_int xe_int) xa_nil)))) xa_nil)))) xa_nil))) xa_nil))) (xg_tup rfl (xgs_cons (xg_name 3 sc__law_choose_right.nd) (xgs_cons (xg_name 4 sc__law_choose_right.nd) xgs_nil))))
  (xss_cons (xs_if (xt_cmpO (c_ne (hu_r hr.r)) (xe_reprX hr.g (hu_g hr) T.z_repr (xa_cons (xe_lam (k := 3) (told__law_told T) hlam (hr.mono (by decide)).r (fun _ _ _ _ _ _ _ hrL => (xe_cl (r_choose T) (hrL.mono (by decide)) b_choose (takes_of rfl rfl rfl rfl) (xa_cons (xe_var 3) (xa_cons (xe_var 1) xa_nil)))) (by kernel_rfl)) xa_nil)) (xe_reprX hr.g (hu_g hr) T.z_repr (xa_cons (xe_tup (xa_cons xe_str (xa_cons (xe_var 3) xa_nil))) xa_nil))) (xss_one (xs_ret xe_bl)) xss_nil)
  (xss_cons (xs_if (xt_cmpO (c_ne (hu_r hr.r)) (xe_reprX hr.g (hu_g hr) T.z_repr (xa_cons (xe_lam (k := 3) (told__law_told T) hlam (hr.mono (by decide)).r (fun _ _ _ _ _ _ _ hrL => (xe_cl (r_choose T) (hrL.mono (by decide)) b_choose (takes_of rfl rfl rfl rfl) (xa_cons (xe_var 3) (xa_cons (xe_var 4) xa_nil)))) (by kernel_rfl)) xa_nil)) (xe_reprX hr.g (hu_g hr) T.z_repr (xa_cons (xe_tup (xa_cons xe_str (xa_cons (xe_var 3) xa_nil))) xa_nil))) (xss_one (xs_ret xe_bl)) xss_nil)
  (xss_one (xs_ret (xe_cmpO (c_eq (hu_r hr.r)) (xe_reprX hr.g (hu_g hr) T.z_repr (xa_cons (xe_lam (k := 3) (told__law_told T) hlam (hr.mono (by decide)).r (fun _ _ _ _ _ _ _ hrL => (xe_cl (r_choose T) (hrL.mono (by decide)) b_choose (takes_of rfl rfl rfl rfl) (xa_cons (xe_var 2) (xa_cons (xe_var 4) xa_nil)))) (by kernel_rfl)) xa_nil)) (xe_reprX hr.g (hu_g hr) T.z_repr (xa_cons (xe_tup (xa_cons xe_str (xa_cons (xe_var 4) xa_nil))) xa_nil)))))))))))
/-! ### _law_bags -/
theorem sc__law_bags : FnScope [("_law_kinds" : Str), ("_law_many" : Str), ("_law_row" : Str), ("_law_kind" : Str), ("_law_at" : Str)] [("_law_kinds" : Str), ("_law_many" : Str)] (defScope s__law_bags) := ⟨rfl, rfl, rfl, by decide +kernel, rfl, by decide +kernel, by decide +kernel⟩
theorem b__law_bags : Bnd ("_law_bags" : Str) s__law_bags [("_law_kinds" : Str), ("_law_many" : Str)] := fun _ _ _ _ _ _ us hl => match us, hl with | [_, _], _ => rfl
def f__law_bags : FF := runF 5 (fSeq (fSet 2 (fBin oAdd (fLst (fCons (fK (.int (1))) fNil)) (fBin oMul (fLst (fCons (fK (.int (0))) fNil)) (fVar 1))))
  (fSeq (fFor (iRg1 (fCons (fVar 0) fNil)) (gNm 3) (fFor (iRg2 (fCons (fK (.int (1))) (fCons (fBin oAdd (fVar 1) (fK (.int (1)))) fNil))) (gNm 4) (fAsg (fBin oAdd (fBin oIx (fVar 2) (fVar 4)) (fBin oIx (fVar 2) (fBin oSub (fVar 4) (fK (.int (1)))))) (gSb (fVar 2) (fVar 4) sLst))))
  (fRet (fBin oIx (fVar 2) (fVar 1)))))
theorem r__law_bags (T : TX P w K mg base) : Rdy P w K mg base (CC K) ("_law_bags" : Str) s__law_bags 1 2 f__law_bags [("_law_kinds" : Str), ("_law_many" : Str)] := rdy_of (N := [("_law_kinds" : Str), ("_law_many" : Str), ("_law_row" : Str), ("_law_kind" : Str), ("_law_at" : Str)]) T.g__law_bags T.u__law_bags sc__law_bags rfl fun cdv A outer s H E hr => by
  exact (xss_cons (xs_set 2 sc__law_bags.nd (xe_add (xe_lst (xa_cons xe_int xa_nil)) (xe_mul (xe_lst (xa_cons xe_int xa_nil)) (xe_var 1))))
  (xss_cons (xs_for (passes_of rfl) rfl (xi_rg1 T.z_range (xa_cons (xe_var 0) xa_nil)) (xg_name 3 sc__law_bags.nd) (xss_one (xs_for (passes_of rfl) rfl (xi_rg2 T.z_range (xa_cons xe_int (xa_cons (xe_add (xe_var 1) xe_int) xa_nil))) (xg_name 4 sc__law_bags.nd) (xss_one (xs_asg (xe_add (xe_ix (xe_var 2) (xe_var 4)) (xe_ix (xe_var 2) (xe_sub (xe_var 4) xe_int))) (xg_setL (xe_var 2) (xe_var 4)))))))
  (xss_one (xs_ret (xe_ix (xe_var 2) (xe_var 1))))))
/-! ### bags -/
theorem sc_bags : FnScope [("kinds" : Str), ("many" : Str)] [("kinds" : Str), ("many" : Str)] (defScope s_bags) := ⟨rfl, rfl, rfl, by decide +kernel, rfl, by decide +kernel, by decide +kernel⟩
theorem b_bags : Bnd ("bags" : Str) s_bags [("kinds" : Str), ("many" : Str)] := fun _ _ _ _ _ _ us hl => match us, hl with | [_, _], _ => rfl
def f_bags : FF := runF 2 (fSeq (fIfS (fTest (fBin oLt (fVar 0) (fK (.int (0))))) (fRaise 1 (fVar 0)) fNext)
  (fSeq (fIfS (fTest (fBin oLt (fVar 1) (fK (.int (0))))) (fRaise 1 (fVar 1)) fNext)
  (fSeq (fIfS (fAndT (fTest (fBin oGt (fVar 0) (fK (.int (400))))) (fTest (fBin oGt (fVar 1) (fK (.int (60)))))) (fRaise 1 (fVar 0)) fNext)
  (fSeq (fIfS (fTest (fBin oEq (fVar 0) (fK (.int (0))))) (fRet (fIf (fTest (fBin oEq (fVar 1) (fK (.int (0))))) (fK (.int (1))) (fK (.int (0))))) fNext)
  (fRet (fCall f_choose 2 (fCons (fBin oAdd (fBin oSub (fVar 0) (fK (.int (1)))) (fVar 1)) (fCons (fB (two bMin2) (fCons (fBin oSub (fVar 0) (fK (.int (1)))) (fCons (fVar 1) fNil))) fNil))))))))
theorem r_bags (T : TX P w K mg base) : Rdy P w K mg base (CC K) ("bags" : Str) s_bags 4 2 f_bags [("kinds" : Str), ("many" : Str)] := rdy_of (N := [("kinds" : Str), ("many" : Str)]) T.g_bags T.u_bags sc_bags rfl fun cdv A outer s H E hr => by
  exact (xss_cons (xs_if (xt_cmpO c_lt (xe_var 0) xe_int) (xss_one (xs_rs (c := 1) T.ini rfl (takes_of rfl rfl rfl rfl) T.e_BadCount (hr.mono (by decide)) T.g_BadCount (xe_var 0))) xss_nil)
  (xss_cons (xs_if (xt_cmpO c_lt (xe_var 1) xe_int) (xss_one (xs_rs (c := 1) T.ini rfl (takes_of rfl rfl rfl rfl) T.e_BadCount (hr.mono (by decide)) T.g_BadCount (xe_var 1))) xss_nil)
  (xss_cons (xs_if (PW.pt (xw_and (xt_cmpO c_gt (xe_var 0) (xe_gI T.i_MOST_CHOSEN)) (xw_one (xt_cmpO c_gt (xe_var 1) (xe_gI T.i_MOST_OF_MANY_KINDS))))) (xss_one (xs_rs (c := 1) T.ini rfl (takes_of rfl rfl rfl rfl) T.e_BadCount (hr.mono (by decide)) T.g_BadCount (xe_var 0))) xss_nil)
  (xss_cons (xs_if (xt_cmpO (c_eq (hu_r hr)) (xe_var 0) xe_int) (xss_one (xs_ret (xe_if (xt_cmpO (c_eq (hu_r hr)) (xe_var 1) xe_int) xe_int xe_int))) xss_nil)
  (xss_one (xs_ret (xe_cl (r_choose T) (hr.mono (by decide)) b_choose (takes_of rfl rfl rfl rfl) (xa_cons (xe_add (xe_sub (xe_var 0) xe_int) (xe_var 1)) (xa_cons (xe_min2 rfl T.z_min (xa_cons (xe_sub (xe_var 0) xe_int) (xa_cons (xe_var 1) xa_nil))) xa_nil)))))))))
/-! ### _law_great_bags -/
theorem sc__law_great_bags : FnScope [("_law_kinds" : Str), ("_law_many" : Str), ("_law_least" : Str)] [("_law_kinds" : Str), ("_law_many" : Str)] (defScope s__law_great_bags) := ⟨rfl, rfl, rfl, by decide +kernel, rfl, by decide +kernel, by decide +kernel⟩
theorem b__law_great_bags : Bnd ("_law_great_bags" : Str) s__law_great_bags [("_law_kinds" : Str), ("_law_many" : Str)] := fun _ _ _ _ _ _ us hl => match us, hl with | [_, _], _ => rfl
def f__law_great_bags : FF := runF 3 (fSeq (fSet 2 (fB (two bMin2) (fCons (fVar 1) (fCons (fBin oSub (fVar 0) (fK (.int (1)))) fNil))))
  (fRet (fCall f__law_choose 2 (fCons (fBin oSub (fBin oAdd (fVar 0) (fVar 1)) (fK (.int (1)))) (fCons (fVar 2) fNil)))))
theorem r__law_great_bags (T : TX P w K mg base) : Rdy P w K mg base (CC K) ("_law_great_bags" : Str) s__law_great_bags 2 2 f__law_great_bags [("_law_kinds" : Str), ("_law_many" : Str)] := rdy_of (N := [("_law_kinds" : Str), ("_law_many" : Str), ("_law_least" : Str)]) T.g__law_great_bags T.u__law_great_bags sc__law_great_bags rfl fun cdv A outer s H E hr => by
  exact (xss_cons (xs_set 2 sc__law_great_bags.nd (xe_min2 rfl T.z_min (xa_cons (xe_var 1) (xa_cons (xe_sub (xe_var 0) xe_int) xa_nil))))
  (xss_one (xs_ret (xe_cl (r__law_choose T) (hr.mono (by decide)) b__law_choose (takes_of rfl rfl rfl rfl) (xa_cons (xe_sub (xe_add (xe_var 0) (xe_var 1)) xe_int) (xa_cons (xe_var 2) xa_nil))))))
/-! ### _law_bags_right -/
theorem sc__law_bags_right : FnScope [("_law_source" : Str), ("_law_kinds" : Str), ("_law_many" : Str), ("_law_less" : Str), ("_law_wide" : Str), ("_law_one_here" : Str), ("_law_other" : Str), ("_law_due" : Str)] [("_law_source" : Str)] (defScope s__law_bags_right) := ⟨rfl, rfl, rfl, by decide +kernel, rfl, by decide +kernel, by decide +kernel⟩
theorem b__law_bags_right : Bnd ("_law_bags_right" : Str) s__law_bags_right [("_law_source" : Str)] := fun _ _ _ _ _ _ us hl => match us, hl with | [_], _ => rfl
def f__law_bags_right : FF := runF 8 (fSeq (fPar2 1 2 (fCons (fCall f__law_take 2 (fCons (fVar 0) (fCons (fK (.int (9))) fNil))) (fCons (fCall f__law_take 2 (fCons (fVar 0) (fCons (fK (.int (9))) fNil))) fNil)))
  (fSeq (fIfS (fNotT (fTru (fCall f__law_is 2 (fCons (fCall f_bags 2 (fCons (fVar 1) (fCons (fVar 2) fNil))) (fCons (fCall f__law_bags 2 (fCons (fVar 1) (fCons (fVar 2) fNil))) fNil))))) (fRet (fK (.bl false))) fNext)
  (fSeq (fPar2 1 2 (fCons (fBin oAdd (fK (.int (1))) (fCall f__law_take 2 (fCons (fVar 0) (fCons (fBin oPow (fK (.int (10))) (fK (.int (12)))) fNil)))) (fCons (fCall f__law_one 2 (fCons (fVar 0) (fCons (fLst (fCons (fCall f__law_take 2 (fCons (fVar 0) (fCons (fK (.int (8))) fNil))) (fCons (fK (.int (60))) fNil))) fNil))) fNil)))
  (fSeq (fIfS (fNotT (fTru (fCall f__law_is 2 (fCons (fCallK f_bags 0 2 [1, 0] fNil (fCons (fVar 2) (fCons (fVar 1) fNil))) (fCons (fCall f__law_great_bags 2 (fCons (fVar 1) (fCons (fVar 2) fNil))) fNil))))) (fRet (fK (.bl false))) fNext)
  (fSeq (fPar2 1 2 (fCons (fCall f__law_one 2 (fCons (fVar 0) (fCons (fLst (fCons (fBin oAdd (fK (.int (1))) (fCall f__law_take 2 (fCons (fVar 0) (fCons (fK (.int (9))) fNil)))) (fCons (fBin oAdd (fK (.int (1))) (fCall f__law_take 2 (fCons (fVar 0) (fCons (fK (.int (9))) fNil)))) (fCons (fK (.int (400))) fNil)))) fNil))) (fCons (fCall f__law_one 2 (fCons (fVar 0) (fCons (fLst (fCons (fK (.int (61))) (fCons (fCall f__law_take 2 (fCons (fVar 0) (fCons (fBin oPow (fK (.int (10))) (fK (.int (9)))) fNil))) fNil))) fNil))) fNil)))
  (fSeq (fIfS (fNotT (fTru (fCall f__law_is 2 (fCons (fCall f_bags 2 (fCons (fVar 1) (fCons (fVar 2) fNil))) (fCons (fCall f__law_great_bags 2 (fCons (fVar 1) (fCons (fVar 2) fNil))) fNil))))) (fRet (fK (.bl false))) fNext)
  (fSeq (fPar2 3 4 (fCons (fBin oSub (fUn oNeg (fK (.int (1)))) (fCall f__law_take 2 (fCons (fVar 0) (fCons (fBin oPow (fK (.int (10))) (fK (.int (6)))) fNil)))) (fCons (fBin oAdd (fK (.int (401))) (fCall f__law_take 2 (fCons (fVar 0) (fCons (fBin oPow (fK (.int (10))) (fK (.int (6)))) fNil)))) fNil)))
  (fSeq (fFor (iSeq (fLst (fCons (fTup (fCons (fVar 3) (fCons (fVar 2) (fCons (fVar 3) fNil)))) (fCons (fTup (fCons (fVar 3) (fCons (fUn oNeg (fK (.int (3)))) (fCons (fVar 3) fNil)))) (fCons (fTup (fCons (fVar 1) (fCons (fVar 3) (fCons (fVar 3) fNil)))) (fCons (fTup (fCons (fVar 4) (fCons (fK (.int (61))) (fCons (fVar 4) fNil)))) (fCons (fTup (fCons (fK (.int (401))) (fCons (fBin oPow (fK (.int (10))) (fK (.int (9)))) (fCons (fK (.int (401))) fNil)))) fNil))))))) (gTp 3 (gsCons (gNm 5) (gsCons (gNm 6) (gsCons (gNm 7) gsNil)))) (fIfS (fTest (fBin oNe (fB (one bReprX) (fCons (fLam 2 1 (tab [true, true]) tf__law_told (fCall f_bags 2 (fCons (fVar 5) (fCons (fVar 6) fNil)))) fNil)) (fB (one bReprX) (fCons (fTup (fCons (fK (.str ("count" : Str))) (fCons (fVar 7) fNil))) fNil)))) (fRet (fK (.bl false))) fNext))
  (fRet (fAnd (fCall f__law_is 2 (fCons (fCall f_bags 2 (fCons (fVar 4) (fCons (fK (.int (0))) fNil))) (fCons (fK (.int (1))) fNil))) (fAnd (fCall f__law_is 2 (fCons (fCall f_bags 2 (fCons (fVar 4) (fCons (fK (.int (1))) fNil))) (fCons (fVar 4) fNil))) (fAnd (fBin oEq (fCall f_bags 2 (fCons (fK (.int (0))) (fCons (fK (.int (0))) fNil))) (fK (.int (1)))) (fBin oEq (fCall f_bags 2 (fCons (fK (.int (0))) (fCons (fBin oAdd (fVar 2) (fK (.int (1)))) fNil))) (fK (.int (0))))))))))))))))
theorem r__law_bags_right (T : TX P w K mg base) : RdyG P w K mg base (CC K) ("_law_bags_right" : Str) s__law_bags_right 7 1 f__law_bags_right [("_law_source" : Str)] := rdyL_of (N := [("_law_source" : Str), ("_law_kinds" : Str), ("_law_many" : Str), ("_law_less" : Str), ("_law_wide" : Str), ("_law_one_here" : Str), ("_law_other" : Str), ("_law_due" : Str)]) T.l__law_bags_right T.g__law_bags_right T.u__law_bags_right sc__law_bags_right rfl fun cdv A outer s H E hlam hr => by
  exact (xss_cons (xs_par2 1 2 rfl sc__law_bags_right.nd (xa_cons (xe_cl (r__law_take T) (hr.mono (by decide)).r b__law_take (takes_of rfl rfl rfl rfl) (xa_cons (xe_var 0) (xa_cons xe_int xa_nil))) (xa_cons (xe_cl (r__law_take T) (hr.mono (by decide)).r b__law_take (takes_of rfl rfl rfl rfl) (xa_cons (xe_var 0) (xa_cons xe_int xa_nil))) xa_nil)))
  (xss_cons (xs_if (xt_not (xt_tru (xe_cl (r__law_is T) (hr.mono (by decide)).r b__law_is (takes_of rfl rfl rfl rfl) (xa_cons (xe_cl (r_bags T) (hr.mono (by decide)).r b_bags (takes_of rfl rfl rfl rfl) (xa_cons (xe_var 1) (xa_cons (xe_var 2) xa_nil))) (xa_cons (xe_cl (r__law_bags T) (hr.mono (by decide)).r b__law_bags (takes_of rfl rfl rfl rfl) (xa_cons (xe_var 1) (xa_cons (xe_var 2) xa_nil))) xa_nil))))) (xss_one (xs_ret xe_bl)) xss_nil)
  (xss_cons (xs_par2 1 2 rfl sc__law_bags_right.nd (xa_cons (xe_add xe_int (xe_cl (r__law_take T) (hr.mono (by decide)).r b__law_take (takes_of rfl rfl rfl rfl) (xa_cons (xe_var 0) (xa_cons (xe_pow xe_int xe_int) xa_nil)))) (xa_cons (xe_cl (r__law_one T) (hr.mono (by decide)).r b__law_one (takes_of rfl rfl rfl rfl) (xa_cons (xe_var 0) (xa_cons (xe_lst (xa_cons (xe_cl (r__law_take T) (hr.mono (by decide)).r b__law_take (takes_of rfl rfl rfl rfl) (xa_cons (xe_var 0) (xa_cons xe_int xa_nil))) (xa_cons xe_int xa_nil))) xa_nil))) xa_nil)))
  (xss_cons (xs_if (xt_not (xt_tru (xe_cl (r__law_is T) (hr.mono (by decide)).r b__law_is (takes_of rfl rfl rfl rfl) (xa_cons (xe_clK0 (r_bags T) (hr.mono (by decide)).r (ks := [("many" : Str), ("kinds" : Str)]) (idx := [1, 0]) (fun _ _ _ _ _ _ us ws h1 h2 => match us, ws, h1, h2 with | [], [_, _], _, _ => rfl) (fun l h => match l, h with | [_, _], _ => rfl) (takes_of rfl rfl rfl rfl) (xk_cons (xe_var 2) (xk_cons (xe_var 1) xk_nil))) (xa_cons (xe_cl (r__law_great_bags T) (hr.mono (by decide)).r b__law_great_bags (takes_of rfl rfl rfl rfl) (xa_cons (xe_var 1) (xa_cons (xe_var 2) xa_nil))) xa_nil))))) (xss_one (xs_ret xe_bl)) xss_nil)
  (xss_cons (xs_par2 1 2 rfl sc__law_bags_right.nd (xa_cons (xe_cl (r__law_one T) (hr.mono (by decide)).r b__law_one (takes_of rfl rfl rfl rfl) (xa_cons (xe_var 0) (xa_cons (xe_lst (xa_cons (xe_add xe_int (xe_cl (r__law_take T) (hr.mono (by decide)).r b__law_take (takes_of rfl rfl rfl rfl) (xa_cons (xe_var 0) (xa_cons xe_int xa_nil)))) (xa_cons (xe_add xe_int (xe_cl (r__law_take T) (hr.mono (by decide)).r b__law_take (takes_of rfl rfl rfl rfl) (xa_cons (xe_var 0) (xa_cons xe_int xa_nil)))) (xa_cons xe_int xa_nil)))) xa_nil))) (xa_cons (xe_cl (r__law_one T) (hr.mono (by decide)).r b__law_one (takes_of rfl rfl rfl rfl) (xa_cons (xe_var 0) (xa_cons (xe_lst (xa_cons xe_int (xa_cons (xe_cl (r__law_take T) (hr.mono (by decide)).r b__law_take (takes_of rfl rfl rfl rfl) (xa_cons (xe_var 0) (xa_cons (xe_pow xe_int xe_int) xa_nil))) xa_nil))) xa_nil))) xa_nil)))
  (xss_cons (xs_if (xt_not (xt_tru (xe_cl (r__law_is T) (hr.mono (by decide)).r b__law_is (takes_of rfl rfl rfl rfl) (xa_cons (xe_cl (r_bags T) (hr.mono (by decide)).r b_bags (takes_of rfl rfl rfl rfl) (xa_cons (xe_var 1) (xa_cons (xe_var 2) xa_nil))) (xa_cons (xe_cl (r__law_great_bags T) (hr.mono (by decide)).r b__law_great_bags (takes_of rfl rfl rfl rfl) (xa_cons (xe_var 1) (xa_cons (xe_var 2) xa_nil))) xa_nil))))) (xss_one (xs_ret xe_bl)) xss_nil)
  (xss_cons (xs_par2 3 4 rfl sc__law_bags_right.nd (xa_cons (xe_sub (xe_neg xe_int) (xe_cl (r__law_take T) (hr.mono (by decide)).r b__law_take (takes_of rfl rfl rfl rfl) (xa_cons (xe_var 0) (xa_cons (xe_pow xe_int xe_int) xa_nil)))) (xa_cons (xe_add xe_int (xe_cl (r__law_take T) (hr.mono (by decide)).r b__law_take (takes_of rfl rfl rfl rfl) (xa_cons (xe_var 0) (xa_cons (xe_pow xe_int xe_int) xa_nil)))) xa_nil)))
  (xss_cons (xs_for (passes_of rfl) rfl (xi_seq (xe_lst (xa_cons (xe_tup (xa_cons (xe_var 3) (xa_cons (xe_var 2) (xa_cons (xe_var 3) xa_nil)))) (xa_cons (xe_tup (xa_cons (xe_var 3) (xa_cons (xe_neg xe_int) (xa_cons (xe_var 3) xa_nil)))) (xa_cons (xe_tup (xa_cons (xe_var 1) (xa_cons (xe_var 3) (xa_cons (xe_var 3) xa_nil)))) (xa_cons (xe_tup (xa_cons (xe_var 4) (xa_cons xe_int (xa_cons (xe_var 4) xa_nil)))) (xa_cons (xe_tup (xa_cons xe_int (xa_cons (xe_pow xe_int xe_int) (xa_cons xe_int xa_nil)))) xa_nil))))))) (xg_tup rfl (xgs_cons (xg_name 5 sc__law_bags_right.nd) (xgs_cons (xg_name 6 sc__law_bags_right.nd) (xgs_cons (xg_name 7 sc__law_bags_right.nd) xgs_nil)))) (xss_one (xs_if (xt_cmpO (c_ne (hu_r hr.r)) (xe_reprX hr.g (hu_g hr) T.z_repr (xa_cons (xe_lam (k := 4) (told__law_told T) hlam (hr.mono (by decide)).r (fun _ _ _ _ _ _ _ hrL => (xe_cl (r_bags T) (hrL.mono (by decide)) b_bags (takes_of rfl rfl rfl rfl) (xa_cons (xe_var 5) (xa_cons (xe_var 6) xa_nil)))) (by kernel_rfl)) xa_nil)) (xe_reprX hr.g (hu_g hr) T.z_repr (xa_cons (xe_tup (xa_cons xe_str (xa_cons (xe_var 7) xa_nil))) xa_nil))) (xss_one (xs_ret xe_bl)) xss_nil)))
  (xss_one (xs_ret (xe_and (xe_cl (r__law_is T) (hr.mono (by decide)).r b__law_is (takes_of rfl rfl rfl rfl) (xa_cons (xe_cl (r_bags T) (hr.mono (by decide)).r b_bags (takes_of rfl rfl rfl rfl) (xa_cons (xe_var 4) (xa_cons xe_int xa_nil))) (xa_cons xe_int xa_nil))) (xe_and (xe_cl (r__law_is T) (hr.mono (by decide)).r b__law_is (takes_of rfl rfl rfl rfl) (xa_cons (xe_cl (r_bags T) (hr.mono (by decide)).r b_bags (takes_of rfl rfl rfl rfl) (xa_cons (xe_var 4) (xa_cons xe_int xa_nil))) (xa_cons (xe_var 4) xa_nil))) (xe_and (xe_cmpO (c_eq (hu_r hr.r)) (xe_cl (r_bags T) (hr.mono (by decide)).r b_bags (takes_of rfl rfl rfl rfl) (xa_cons xe_int (xa_cons xe_int xa_nil))) xe_int) (xe_one (xe_cmpO (c_eq (hu_r hr.r)) (xe_cl (r_bags T) (hr.mono (by decide)).r b_bags (takes_of rfl rfl rfl rfl) (xa_cons xe_int (xa_cons (xe_add (xe_var 2) xe_int) xa_nil))) xe_int)))))))))))))))
/-! ### law -/
theorem sc_law : FnScope [("_law_script" : Str), ("_law_source" : Str)] [("_law_script" : Str)] (defScope s_law) := ⟨rfl, rfl, rfl, by decide +kernel, rfl, by decide +kernel, by decide +kernel⟩
theorem b_law : Bnd ("law" : Str) s_law [("_law_script" : Str)] := fun _ _ _ _ _ _ us hl => match us, hl with | [_], _ => rfl
def f_law : FF := runF 2 (fSeq (fSet 1 (fCall f__law_pool 2 (fCons (fVar 0) (fCons (fK (.int (0))) fNil))))
  (fRet (fAnd (fCall f__law_choose_right 1 (fCons (fVar 1) fNil)) (fAnd (fCall f__law_choose_right 1 (fCons (fVar 1) fNil)) (fCall f__law_bags_right 1 (fCons (fVar 1) fNil))))))
theorem r_law (T : TX P w K mg base) : RdyG P w K mg base (CC K) ("law" : Str) s_law 8 1 f_law [("_law_script" : Str)] := rdyG_of (N := [("_law_script" : Str), ("_law_source" : Str)]) T.g_law T.u_law sc_law rfl fun cdv A outer s H E hr => by
  exact (xss_cons (xs_set 1 sc_law.nd (xe_cl (r__law_pool T) (hr.mono (by decide)).r b__law_pool (takes_of rfl rfl rfl rfl) (xa_cons (xe_var 0) (xa_cons xe_int xa_nil))))
  (xss_one (xs_ret (xe_and (xe_clG (r__law_choose_right T) (hr.mono (by decide)) b__law_choose_right (takes_of rfl rfl rfl rfl) (xa_cons (xe_var 1) xa_nil)) (xe_and (xe_clG (r__law_choose_right T) (hr.mono (by decide)) b__law_choose_right (takes_of rfl rfl rfl rfl) (xa_cons (xe_var 1) xa_nil)) (xe_one (xe_clG (r__law_bags_right T) (hr.mono (by decide)) b__law_bags_right (takes_of rfl rfl rfl rfl) (xa_cons (xe_var 1) xa_nil))))))))
end
/-! ### the head -/
abbrev D__law_pool : He.DefD := ⟨(("_law_pool" : Str), none), ("_law_pool" : Str), ("_law_pool" : Str), defArgs s__law_pool, defBody s__law_pool, defScope s__law_pool, [], []⟩
abbrev D__law_take : He.DefD := ⟨(("_law_take" : Str), none), ("_law_take" : Str), ("_law_take" : Str), defArgs s__law_take, defBody s__law_take, defScope s__law_take, [], []⟩
abbrev D__law_one : He.DefD := ⟨(("_law_one" : Str), none), ("_law_one" : Str), ("_law_one" : Str), defArgs s__law_one, defBody s__law_one, defScope s__law_one, [], []⟩
abbrev D__law_is : He.DefD := ⟨(("_law_is" : Str), none), ("_law_is" : Str), ("_law_is" : Str), defArgs s__law_is, defBody s__law_is, defScope s__law_is, [], []⟩
abbrev D__law_choose : He.DefD := ⟨(("_law_choose" : Str), none), ("_law_choose" : Str), ("_law_choose" : Str), defArgs s__law_choose, defBody s__law_choose, defScope s__law_choose, [], []⟩
abbrev D_choose : He.DefD := ⟨(("choose" : Str), none), ("choose" : Str), ("choose" : Str), defArgs s_choose, defBody s_choose, defScope s_choose, [], []⟩
abbrev D__law_told : He.DefD := ⟨(("_law_told" : Str), none), ("_law_told" : Str), ("_law_told" : Str), defArgs s__law_told, defBody s__law_told, defScope s__law_told, [], []⟩
abbrev D__law_choose_right : He.DefD := ⟨(("_law_choose_right" : Str), none), ("_law_choose_right" : Str), ("_law_choose_right" : Str), defArgs s__law_choose_right, defBody s__law_choose_right, defScope s__law_choose_right, [], []⟩
abbrev D__law_bags : He.DefD := ⟨(("_law_bags" : Str), none), ("_law_bags" : Str), ("_law_bags" : Str), defArgs s__law_bags, defBody s__law_bags, defScope s__law_bags, [], []⟩
abbrev D_bags : He.DefD := ⟨(("bags" : Str), none), ("bags" : Str), ("bags" : Str), defArgs s_bags, defBody s_bags, defScope s_bags, [], []⟩
abbrev D__law_great_bags : He.DefD := ⟨(("_law_great_bags" : Str), none), ("_law_great_bags" : Str), ("_law_great_bags" : Str), defArgs s__law_great_bags, defBody s__law_great_bags, defScope s__law_great_bags, [], []⟩
abbrev D__law_bags_right : He.DefD := ⟨(("_law_bags_right" : Str), none), ("_law_bags_right" : Str), ("_law_bags_right" : Str), defArgs s__law_bags_right, defBody s__law_bags_right, defScope s__law_bags_right, [], []⟩
abbrev D_law : He.DefD := ⟨(("law" : Str), none), ("law" : Str), ("law" : Str), defArgs s_law, defBody s_law, defScope s_law, [], []⟩
abbrev D_ini : He.DefD := ⟨(("Refused" : Str), some "__init__"), "__init__", "Refused.__init__", defArgs s_ini, defBody s_ini, defScope s_ini, [], []⟩
def fn : List He.DefD := [D__law_pool, D__law_take, D__law_one, D__law_is, D__law_choose, D_choose, D__law_told, D__law_choose_right, D__law_bags, D_bags, D__law_great_bags, D__law_bags_right, D_law, D_ini]
def fa : List He.Fa := [.free ("bool" : Str), .free ("int" : Str), .free ("isinstance" : Str), .free ("len" : Str), .free ("max" : Str), .free ("min" : Str), .free ("range" : Str), .free ("repr" : Str), .glo ("BadCount" : Str), .glo ("Refused" : Str), .glo ("_law_bags" : Str), .glo ("_law_bags_right" : Str), .glo ("_law_choose" : Str), .glo ("_law_choose_right" : Str), .glo ("_law_great_bags" : Str), .glo ("_law_is" : Str), .glo ("_law_one" : Str), .glo ("_law_pool" : Str), .glo ("_law_take" : Str), .glo ("_law_told" : Str), .glo ("bags" : Str), .glo ("choose" : Str), .glo ("law" : Str), .int ("MOST_CHOSEN" : Str) (400), .int ("MOST_OF_MANY_KINDS" : Str) (60), .exm ("BadCount" : Str) ("BadCount" : Str) true, .exm ("BadCount" : Str) ("Refused" : Str) true, .exm ("Refused" : Str) ("BadCount" : Str) false, .exm ("Refused" : Str) ("Refused" : Str) true]
def ext (K : PySem.W.Frag) : Bool := (oexB K ("Refused" : Str) (He.ma K (He.ga K ("Refused" : Str)) "__init__") && (oexB K ("BadCount" : Str) (He.ma K (He.ga K ("Refused" : Str)) "__init__") && (bltB K ("comb" : Str) "math.comb" && (clsQB K (He.ga K ("Refused" : Str)) && (clsQB K (He.ga K ("BadCount" : Str)) && decide (PySem.W.typeIn K (.ref (He.ma K (He.ga K ("Refused" : Str)) "__init__")) = some (.type "function")))))))
theorem tx_of {P : Program} {w : World} {K : PySem.W.Frag} {mg : Str → Option Value} {h base : Heap} (X : K.In h) (G : h.Ns mainGlobals mg) (c : SaysX fa fn ext K) (lm : ∀ z ∈ lamNames, LmB K mg base (lamT K lamNames) z) : TX P w K mg base := by
  have hx := c.x
  obtain ⟨h0, hx⟩ := He.ba hx
  obtain ⟨h1, hx⟩ := He.ba hx
  obtain ⟨h2, hx⟩ := He.ba hx
  obtain ⟨h3, hx⟩ := He.ba hx
  obtain ⟨h4, hx⟩ := He.ba hx
  obtain ⟨fdI, FI⟩ := c.d.def_ 13 (d := D_ini) rfl
  have FI := He5.fun_of (st := s_ini) FI
  exact {
    z_bool := He.free_ok X G (c.d.fact 0 (f := .free ("bool" : Str)) rfl),
    z_int := He.free_ok X G (c.d.fact 1 (f := .free ("int" : Str)) rfl),
    z_isinstance := He.free_ok X G (c.d.fact 2 (f := .free ("isinstance" : Str)) rfl),
    z_len := He.free_ok X G (c.d.fact 3 (f := .free ("len" : Str)) rfl),
    z_max := He.free_ok X G (c.d.fact 4 (f := .free ("max" : Str)) rfl),
    z_min := He.free_ok X G (c.d.fact 5 (f := .free ("min" : Str)) rfl),
    z_range := He.free_ok X G (c.d.fact 6 (f := .free ("range" : Str)) rfl),
    z_repr := He.free_ok X G (c.d.fact 7 (f := .free ("repr" : Str)) rfl),
    g_BadCount := He.glo_ok X G (c.d.fact 8 (f := .glo ("BadCount" : Str)) rfl),
    g_Refused := He.glo_ok X G (c.d.fact 9 (f := .glo ("Refused" : Str)) rfl),
    g__law_bags := He.glo_ok X G (c.d.fact 10 (f := .glo ("_law_bags" : Str)) rfl),
    g__law_bags_right := He.glo_ok X G (c.d.fact 11 (f := .glo ("_law_bags_right" : Str)) rfl),
    g__law_choose := He.glo_ok X G (c.d.fact 12 (f := .glo ("_law_choose" : Str)) rfl),
    g__law_choose_right := He.glo_ok X G (c.d.fact 13 (f := .glo ("_law_choose_right" : Str)) rfl),
    g__law_great_bags := He.glo_ok X G (c.d.fact 14 (f := .glo ("_law_great_bags" : Str)) rfl),
    g__law_is := He.glo_ok X G (c.d.fact 15 (f := .glo ("_law_is" : Str)) rfl),
    g__law_one := He.glo_ok X G (c.d.fact 16 (f := .glo ("_law_one" : Str)) rfl),
    g__law_pool := He.glo_ok X G (c.d.fact 17 (f := .glo ("_law_pool" : Str)) rfl),
    g__law_take := He.glo_ok X G (c.d.fact 18 (f := .glo ("_law_take" : Str)) rfl),
    g__law_told := He.glo_ok X G (c.d.fact 19 (f := .glo ("_law_told" : Str)) rfl),
    g_bags := He.glo_ok X G (c.d.fact 20 (f := .glo ("bags" : Str)) rfl),
    g_choose := He.glo_ok X G (c.d.fact 21 (f := .glo ("choose" : Str)) rfl),
    g_law := He.glo_ok X G (c.d.fact 22 (f := .glo ("law" : Str)) rfl),
    i_MOST_CHOSEN := He.int_ok X G (c.d.fact 23 (f := .int ("MOST_CHOSEN" : Str) (400)) rfl),
    i_MOST_OF_MANY_KINDS := He.int_ok X G (c.d.fact 24 (f := .int ("MOST_OF_MANY_KINDS" : Str) (60)) rfl),
    x_BadCount_BadCount := He.exm_ok (c.d.fact 25 (f := .exm ("BadCount" : Str) ("BadCount" : Str) true) rfl),
    x_BadCount_Refused := He.exm_ok (c.d.fact 26 (f := .exm ("BadCount" : Str) ("Refused" : Str) true) rfl),
    x_Refused_BadCount := He.exm_ok (c.d.fact 27 (f := .exm ("Refused" : Str) ("BadCount" : Str) false) rfl),
    x_Refused_Refused := He.exm_ok (c.d.fact 28 (f := .exm ("Refused" : Str) ("Refused" : Str) true) rfl),
    e_Refused := oexB_ok h0,
    e_BadCount := oexB_ok h1,
    b_comb := blt_ok X G h2,
    q_Refused := clsQB_ok h3,
    q_BadCount := clsQB_ok h4,
    l__law_choose_right := lm ("_law_choose_right" : Str) (by decide +kernel),
    l__law_bags_right := lm ("_law_bags_right" : Str) (by decide +kernel),
    u__law_pool := def_fun c.d 0,
    u__law_take := def_fun c.d 1,
    u__law_one := def_fun c.d 2,
    u__law_is := def_fun c.d 3,
    u__law_choose := def_fun c.d 4,
    u_choose := def_fun c.d 5,
    u__law_told := def_fun c.d 6,
    u__law_choose_right := def_fun c.d 7,
    u__law_bags := def_fun c.d 8,
    u_bags := def_fun c.d 9,
    u__law_great_bags := def_fun c.d 10,
    u__law_bags_right := def_fun c.d 11,
    u_law := def_fun c.d 12,
    ini := ⟨⟨fdI, init_ok FI ⟨rfl, rfl, rfl, by decide +kernel, rfl, by decide +kernel, by decide +kernel⟩ rfl rfl, FI.binds fun _ _ _ _ _ _ us hl => match us, hl with | [_, _], _ => rfl⟩, of_decide_eq_true hx⟩ }
end Gk02
end
section
set_option maxHeartbeats 0
namespace Gk02
open PySem PySem.Spec PyProof.Rows L2 Fn
def loose0 : List Str := [("comb" : Str), ("Refused" : Str), ("BadCount" : Str), ("choose" : Str), ("bags" : Str), ("_law_pool" : Str), ("_law_take" : Str), ("_law_one" : Str), ("_law_choose" : Str), ("_law_bags" : Str), ("_law_great_bags" : Str), ("_law_told" : Str), ("_law_is" : Str), ("_law_choose_right" : Str), ("_law_bags_right" : Str), ("MOST_CHOSEN" : Str), ("MOST_OF_MANY_KINDS" : Str)]
def loose : List Str := loose0
abbrev R : PySem.W.OpenRow := PySem.W.OpenLaw.row PySem.Challenge.rw_carriedends_k02_choosing_and_bags
abbrev hk : PySem.W.Hook := hookT 6 fa fn ext lamNames
def ob (s : PySem.W.SharedT) : (He.AlD × Bool) × Bool := obsTG 6 fa fn ext lamNames (HandSHeadRun.getT s)
theorem ob_eq (s : PySem.W.SharedT) : ob s = hk.obs s.abs := obsTG_eq (HandSHeadRun.getT_eq s)
theorem run (w : World) : HandSHeadRun.RunEqI R (PySem.W.view R.prog [20]) hk ob 4000 loose w := by
  unfold HandSHeadRun.RunEqI
  kernel_rfl
end Gk02
end
section
namespace Fn
/-! ## the functions' answers, step by step -/
def takeF : FF := runF 3 (fSeq (fIfS (fTest (fBin oGt (fBin oIx (fVar 0) (fK (.int (0)))) (fK (.int (0))))) (fSeq (fSet 2 (fBin oMod (fB (one bInt) (fCons (fBin oIx (fVar 0) (fK (.int (0)))) fNil)) (fVar 1)))
  (fSeq (fAsg (fBin oFdiv (fBin oIx (fVar 0) (fK (.int (0)))) (fVar 1)) (gSb (fVar 0) (fK (.int (0))) sLst))
  (fRet (fVar 2)))) fNext)
  (fSeq (fAsg (fBin oMod (fB (one bInt) (fCons (fBin oAdd (fBin oMul (fBin oIx (fVar 0) (fK (.int (1)))) (fK (.int (39373)))) (fK (.int (7)))) fNil)) (fK (.int (2147483647)))) (gSb (fVar 0) (fK (.int (1))) sLst))
  (fRet (fBin oMod (fB (one bInt) (fCons (fBin oFdiv (fBin oMod (fB (one bInt) (fCons (fBin oMul (fBin oIx (fVar 0) (fK (.int (1)))) (fBin oIx (fVar 0) (fK (.int (1))))) fNil)) (fK (.int (2147483629)))) (fK (.int (32)))) fNil)) (fVar 1)))))
/-- the source at s -/
def Src (h : Store) (s : Nat) : Prop := ∃ a b : Int, h[s]? = some (.lst [.int a, .int b]) ∧ 0 ≤ a ∧ 0 ≤ b ∧ b < 2147483647
@[simp] theorem atI_2_0 {α : Type} (x y : α) : L2.atI [x, y] 0 = some x := rfl
@[simp] theorem atI_2_1 {α : Type} (x y : α) : L2.atI [x, y] 1 = some y := rfl
theorem cMul_l {i j : Int} (h : j.natAbs < 18446744073709551616) : cMul i j = true := by
  unfold cMul
  have : Nat.blt j.natAbs 18446744073709551616 = true := by simpa [Nat.blt_eq] using h
  rw [this]
  simp [fSeq, fNext, fIfS, fAsg, gSb, sLst, fRet, fRetN, fSet, fVar, fK, fBin, fUn, fTest, fTru, tru, toB, fB, one, two, bInt, bMax2, bMin2, bLen, oIx, oMod, oFdiv, oAdd, oSub, oMul, oLt, oLe, oGt, oGe, oNeg, oPow, oInt2, fCons, fNil, fTup, fLst, fIf, fCall, fNotT, fAndT, fOrT, fAnd, fOr, fNot, fDrop, RS.ofE, RS.ofB, RS.ofL, RS.only, Fn.R.bind, Fn.R.of, Fn.R.ofB, runF]
theorem cDiv_s {i j : Int} (h0 : 0 < j) (h : j < 18446744073709551616) : cDiv i j = true := by
  unfold cDiv
  have h1 : j.natAbs < 18446744073709551616 := by omega
  have h2 := log2_big h1
  have : Nat.blt j.natAbs.log2 9000 = true := by
    rw [Nat.blt_eq]
    omega
  rw [this, decide_eq_true h0]
  rfl
/-- the store is as it was but for the source at s -/
structure Kp (s : Nat) (h h' : Store) : Prop where
  src : Src h' s
  keep : ∀ i o, i ≠ s → h[i]? = some o → h'[i]? = some o
theorem Kp.trans {s : Nat} {h h1 h2 : Store} (a : Kp s h h1) (b : Kp s h1 h2) : Kp s h h2 := ⟨b.src, fun i o n e => b.keep i o n (a.keep i o n e)⟩
theorem Kp.refl {s : Nat} {h : Store} (a : Src h s) : Kp s h h := ⟨a, fun _ _ _ e => e⟩
theorem Kp.app {s : Nat} {h h1 : Store} (a : Kp s h h1) (l : Store) : Kp s h (h1 ++ l) := by
  obtain ⟨x, y, e, r⟩ := a.src
  exact ⟨⟨x, y, by rw [List.getElem?_append_left (List.getElem?_eq_some_iff.mp e).1]; exact e, r⟩, fun i o n q => by
    have q1 := a.keep i o n q
    rw [List.getElem?_append_left (List.getElem?_eq_some_iff.mp q1).1]
    exact q1⟩
theorem take_ok {h : Store} {s : Nat} {top : Int} (S : Src h s) (ht : 0 < top) (ht2 : top < 18446744073709551616) :
    ∃ d h', takeF [.loc s, .int top] h = .ok (.int d) h' ∧ 0 ≤ d ∧ d < top ∧ Kp s h h' := by
  obtain ⟨a, b, hs, ha, hb, hb2⟩ := S
  have hl : s < h.length := (List.getElem?_eq_some_iff.mp hs).1
  have ht0 : top ≠ 0 := by omega
  have hk : ∀ x y : Int, 0 ≤ x → 0 ≤ y → y < 2147483647 → Kp s h (h.set s (.lst [.int x, .int y])) := fun x y h1 h2 h3 =>
    ⟨⟨x, y, List.getElem?_set_self hl, h1, h2, h3⟩, fun i o n e => by rw [List.getElem?_set_ne (Ne.symm n)]; exact e⟩
  by_cases h0 : 0 < a
  · refine ⟨a % top, h.set s (.lst [.int (a / top), .int b]), ?_, Int.emod_nonneg _ ht0, Int.emod_lt_of_pos _ ht, hk _ _ (Int.ediv_nonneg ha (Int.le_of_lt ht)) hb hb2⟩
    simp [fSeq, fNext, fIfS, fAsg, gSb, sLst, fRet, fRetN, fSet, fVar, fK, fBin, fUn, fTest, fTru, tru, toB, fB, one, two, bInt, bMax2, bMin2, bLen, oIx, oMod, oFdiv, oAdd, oSub, oMul, oLt, oLe, oGt, oGe, oNeg, oPow, oInt2, fCons, fNil, fTup, fLst, fIf, fCall, fNotT, fAndT, fOrT, fAnd, fOr, fNot, fDrop, RS.ofE, RS.ofB, RS.ofL, RS.only, Fn.R.bind, Fn.R.of, Fn.R.ofB, runF, takeF, hs, h0, ht, cDiv_s ht ht2, L2.ixN]
  · have hb' : 0 ≤ (b * 39373 + 7) % 2147483647 := Int.emod_nonneg _ (by decide)
    have hb3 : (b * 39373 + 7) % 2147483647 < 2147483647 := Int.emod_lt_of_pos _ (by decide)
    refine ⟨((b * 39373 + 7) % 2147483647 * ((b * 39373 + 7) % 2147483647)) % 2147483629 / 32 % top, h.set s (.lst [.int a, .int ((b * 39373 + 7) % 2147483647)]), ?_, Int.emod_nonneg _ ht0, Int.emod_lt_of_pos _ ht, hk _ _ ha hb' hb3⟩
    have c1 : cMul b 39373 = true := cMul_l (by decide)
    have c2 : cMul ((b * 39373 + 7) % 2147483647) ((b * 39373 + 7) % 2147483647) = true := cMul_l (by omega)
    have c3 : ∀ x : Int, cDiv x 32 = true := fun x => cDiv_s (by decide) (by decide)
    generalize hg : (b * 39373 + 7) % 2147483647 = b' at *
    simp [fSeq, fNext, fIfS, fAsg, gSb, sLst, fRet, fRetN, fSet, fVar, fK, fBin, fUn, fTest, fTru, tru, toB, fB, one, two, bInt, bMax2, bMin2, bLen, oIx, oMod, oFdiv, oAdd, oSub, oMul, oLt, oLe, oGt, oGe, oNeg, oPow, oInt2, fCons, fNil, fTup, fLst, fIf, fCall, fNotT, fAndT, fOrT, fAnd, fOr, fNot, fDrop, RS.ofE, RS.ofB, RS.ofL, RS.only, Fn.R.bind, Fn.R.of, Fn.R.ofB, runF, takeF, hs, h0, ht, L2.ixN, c1, c2, c3, hg, List.getElem?_set_self hl]
end Fn
end
section
namespace Fn
open PySem PySem.Spec
def poolF : FF := runF 5 (fSeq (fSet 2 (fK (.int (0))))
  (fSeq (fIfS (fTest (fBin oLt (fVar 1) (fB (one bLen) (fCons (fVar 0) fNil)))) (fSet 2 (fBin oIx (fVar 0) (fVar 1))) (fIfS (fTru (fVar 0)) (fSet 2 (fBin oIx (fVar 0) (fK (.int (0))))) fNext))
  (fSeq (fSet 3 (fB (two bMax2) (fCons (fB (one bInt) (fCons (fVar 2) fNil)) (fCons (fB (one bInt) (fCons (fBin oSub (fUn oNeg (fK (.int (1)))) (fVar 2)) fNil)) fNil))))
  (fSeq (fSet 4 (fBin oMod (fB (one bInt) (fCons (fBin oMul (fBin oAdd (fBin oAdd (fBin oAdd (fBin oMod (fB (one bInt) (fCons (fVar 3) fNil)) (fK (.int (2147483629)))) (fBin oMul (fBin oMul (fK (.int (7919))) (fVar 1)) (fVar 1))) (fBin oMul (fK (.int (31))) (fVar 1))) (fK (.int (17)))) (fK (.int (48271)))) fNil)) (fK (.int (2147483647)))))
  (fRet (fLst (fCons (fBin oMul (fVar 3) (fB (one bInt) (fCons (fBin oGe (fVar 3) (fBin oPow (fK (.int (10))) (fK (.int (18))))) fNil))) (fCons (fVar 4) fNil))))))))
def oneF : FF := runF 2 (fRet (fBin oIx (fVar 1) (fCall takeF 2 (fCons (fVar 0) (fCons (fB (one bLen) (fCons (fVar 1) fNil)) fNil)))))
@[simp] theorem fits1 : fits 1 = true := rfl
@[simp] theorem fits2 : fits 2 = true := rfl
@[simp] theorem fits3 : fits 3 = true := rfl
@[simp] theorem fits4 : fits 4 = true := rfl
@[simp] theorem fits5 : fits 5 = true := rfl
@[simp] theorem fits6 : fits 6 = true := rfl
@[simp] theorem fits7 : fits 7 = true := rfl
@[simp] theorem fits8 : fits 8 = true := rfl
@[simp] theorem fits9 : fits 9 = true := rfl
theorem atI_nat {α : Type} {xs : List α} {i : Nat} {x : α} (h : xs[i]? = some x) : L2.atI xs (i : Int) = some x := by
  have hl := (List.getElem?_eq_some_iff.mp h).1
  unfold L2.atI L2.ixN
  have h1 : (0 : Int) ≤ (i : Int) := by omega
  have h2 : (i : Int) < (xs.length : Int) := by omega
  rw [if_pos h1, if_pos h2]
  simpa using h
theorem atI_in {α : Type} {xs : List α} {d : Int} (h0 : 0 ≤ d) (h1 : d < xs.length) : ∃ x, L2.atI xs d = some x ∧ xs[d.toNat]? = some x ∧ x ∈ xs := by
  have hl : d.toNat < xs.length := by omega
  refine ⟨xs[d.toNat], ?_, List.getElem?_eq_getElem hl, List.getElem_mem hl⟩
  have := atI_nat (List.getElem?_eq_getElem hl)
  have e : ((d.toNat : Nat) : Int) = d := Int.toNat_of_nonneg h0
  rw [e] at this
  exact this
/-- == on ints -/
@[simp] theorem oEq_int {i j : Int} {h : Store} : oEq (.int i) (.int j) h = some (.bl (i == j), h) := by
  unfold oEq deep
  rw [toD, toD]
  rfl
@[simp] theorem oNe_int {i j : Int} {h : Store} : oNe (.int i) (.int j) h = some (.bl (!(i == j)), h) := by
  unfold oNe deep
  rw [toD, toD]
  rfl
theorem emod_src (x : Int) : 0 ≤ x % 2147483647 ∧ x % 2147483647 < 2147483647 := ⟨Int.emod_nonneg _ (by decide), Int.emod_lt_of_pos _ (by decide)⟩
theorem one_ok {h : Store} {s l : Nat} {xs : List Val} (S : Src h s) (hl : h[l]? = some (.lst xs)) (hne : l ≠ s) (h0 : 0 < xs.length) (h1 : xs.length < 18446744073709551616) : ∃ x h', oneF [.loc s, .loc l] h = .ok x h' ∧ x ∈ xs ∧ Kp s h h' := by
  obtain ⟨d, h', e, d0, d1, k⟩ := take_ok (top := (xs.length : Int)) S (by omega) (by omega)
  obtain ⟨x, e1, _, m⟩ := atI_in d0 d1
  refine ⟨x, h', ?_, m, k⟩
  have hl' := k.keep l _ hne hl
  simp [fSeq, fNext, fIfS, fAsg, gSb, sLst, fRet, fRetN, fSet, fVar, fK, fBin, fUn, fTest, fTru, tru, toB, fB, one, two, bInt, bMax2, bMin2, bLen, oIx, oMod, oFdiv, oAdd, oSub, oMul, oLt, oLe, oGt, oGe, oNeg, oPow, oInt2, fCons, fNil, fTup, fLst, fIf, fCall, fNotT, fAndT, fOrT, fAnd, fOr, fNot, fDrop, RS.ofE, RS.ofB, RS.ofL, RS.only, Fn.R.bind, Fn.R.of, Fn.R.ofB, runF, oneF, items, hl, e, hl', e1]
/-- one of a list just laid -/
theorem one_new {h : Store} {s : Nat} {xs : List Val} (S : Src h s) (h0 : 0 < xs.length) (h1 : xs.length < 18446744073709551616) : ∃ x h', oneF [.loc s, .loc h.length] (h ++ [.lst xs]) = .ok x h' ∧ x ∈ xs ∧ Kp s h h' := by
  have hs : s < h.length := by obtain ⟨a, b, e, _⟩ := S; exact (List.getElem?_eq_some_iff.mp e).1
  have k0 : Kp s h (h ++ [.lst xs]) := (Kp.refl S).app _
  obtain ⟨x, h', e, m, k⟩ := one_ok (l := h.length) k0.src (by simp [fSeq, fNext, fIfS, fAsg, gSb, sLst, fRet, fRetN, fSet, fVar, fK, fBin, fUn, fTest, fTru, tru, toB, fB, one, two, bInt, bMax2, bMin2, bLen, oIx, oMod, oFdiv, oAdd, oSub, oMul, oLt, oLe, oGt, oGe, oNeg, oPow, oInt2, fCons, fNil, fTup, fLst, fIf, fCall, fNotT, fAndT, fOrT, fAnd, fOr, fNot, fDrop, RS.ofE, RS.ofB, RS.ofL, RS.only, Fn.R.bind, Fn.R.of, Fn.R.ofB, runF]) (by omega) h0 h1
  exact ⟨x, h', e, m, k0.trans k⟩
end Fn
end
section
namespace Fn
open PySem PySem.Spec
/-- a thread: lesser place, greater place, length as it is handed in, coat -/
structure Thr (n m cs : Int) (t : List Int) : Prop where
  ex : ∃ u v l c, t = [u, v, l, c] ∧ 0 ≤ u ∧ u < v ∧ v < n ∧ 0 ≤ c ∧ c < cs ∧ (m = 0 → -999999999999 ≤ l ∧ l ≤ 999999999999) ∧ (0 < m → 0 ≤ l ∧ l < m)
/-! ### the bag -/
/-- a bag: threads with their counts -/
abbrev Bag := List (List Int × Int)
def getB : Bag → List Int → Option Int
  | [], _ => none
  | p :: r, t => if p.1 = t then some p.2 else getB r t
def hasB (B : Bag) (t : List Int) : Bool := B.any fun p => decide (p.1 = t)
def setB (B : Bag) (t : List Int) (c : Int) : Bag := if hasB B t = true then B.map (fun p => if p.1 = t then (p.1, c) else p) else B ++ [(t, c)]
@[simp] theorem oEq_int0 {i : Int} {h : Store} : oEq (.int i) (.int 0) h = some (.bl (i == 0), h) := oEq_int
end Fn
end
section
namespace Fn
open PySem PySem.Spec
theorem upTo_len : ∀ (n : Nat) (a : Int), (upTo a n).length = n
  | 0, _ => rfl
  | n + 1, a => by rw [upTo, List.length_cons, upTo_len n]
theorem inR_s {i : Int} (h0 : -1000000000000000000 ≤ i) (h1 : i ≤ 1000000000000000000) : inR i = true := by
  unfold inR
  rw [decide_eq_true (by omega), decide_eq_true (by omega)]
  rfl
/-! ### bags that grow -/
theorem hasB_mem (t : List Int) : ∀ B : Bag, hasB B t = true ↔ t ∈ B.map (·.1)
  | [] => by simp [fSeq, fNext, fIfS, fAsg, gSb, sLst, fRet, fRetN, fSet, fVar, fK, fBin, fUn, fTest, fTru, tru, toB, fB, one, two, bInt, bMax2, bMin2, bLen, oIx, oMod, oFdiv, oAdd, oSub, oMul, oLt, oLe, oGt, oGe, oNeg, oPow, oInt2, fCons, fNil, fTup, fLst, fIf, fCall, fNotT, fAndT, fOrT, fAnd, fOr, fNot, fDrop, RS.ofE, RS.ofB, RS.ofL, RS.only, Fn.R.bind, Fn.R.of, Fn.R.ofB, runF, hasB]
  | p :: r => by
    have ih := hasB_mem t r
    unfold hasB at ih ⊢
    rw [List.any_cons, Bool.or_eq_true, ih, List.map_cons, List.mem_cons, decide_eq_true_eq]
    constructor
    · rintro (h | h)
      · exact .inl h.symm
      · exact .inr h
    · rintro (h | h)
      · exact .inl h.symm
      · exact .inr h
theorem getB_none (t : List Int) : ∀ B : Bag, t ∉ B.map (·.1) → getB B t = none
  | [], _ => rfl
  | p :: r, h => by
    rw [getB, if_neg (fun z => h (by rw [List.map_cons, ← z]; exact List.mem_cons_self))]
    exact getB_none t r fun z => h (by rw [List.map_cons]; exact List.mem_cons_of_mem _ z)
theorem getB_some (t : List Int) : ∀ B : Bag, t ∈ B.map (·.1) → ∃ c, getB B t = some c ∧ (t, c) ∈ B
  | [], h => by simp [fSeq, fNext, fIfS, fAsg, gSb, sLst, fRet, fRetN, fSet, fVar, fK, fBin, fUn, fTest, fTru, tru, toB, fB, one, two, bInt, bMax2, bMin2, bLen, oIx, oMod, oFdiv, oAdd, oSub, oMul, oLt, oLe, oGt, oGe, oNeg, oPow, oInt2, fCons, fNil, fTup, fLst, fIf, fCall, fNotT, fAndT, fOrT, fAnd, fOr, fNot, fDrop, RS.ofE, RS.ofB, RS.ofL, RS.only, Fn.R.bind, Fn.R.of, Fn.R.ofB, runF] at h
  | p :: r, h => by
    by_cases e : p.1 = t
    · exact ⟨p.2, by rw [getB, if_pos e], by rw [← e]; exact List.mem_cons_self⟩
    · rw [List.map_cons, List.mem_cons] at h
      rcases h with h | h
      · exact absurd h.symm e
      · obtain ⟨c, h1, h2⟩ := getB_some t r h
        exact ⟨c, by rw [getB, if_neg e]; exact h1, List.mem_cons_of_mem _ h2⟩
theorem setB_keys (B : Bag) (t : List Int) (c : Int) : (setB B t c).map (·.1) = if hasB B t = true then B.map (·.1) else B.map (·.1) ++ [t] := by
  unfold setB
  by_cases h : hasB B t = true
  · rw [if_pos h, if_pos h, List.map_map]
    apply List.map_congr_left
    intro p _
    show (if p.1 = t then (p.1, c) else p).1 = p.1
    split <;> rfl
  · rw [if_neg h, if_neg h, List.map_append]
    rfl
def sumB (B : Bag) : Int := (B.map (·.2)).sum
theorem sumB_set (t : List Int) (c : Int) : ∀ B : Bag, (B.map (·.1)).Nodup → t ∈ B.map (·.1) → ((B.map fun p => if p.1 = t then (p.1, c) else p).map (·.2)).sum = (B.map (·.2)).sum - (getB B t).getD 0 + c
  | [], _, h => by simp [fSeq, fNext, fIfS, fAsg, gSb, sLst, fRet, fRetN, fSet, fVar, fK, fBin, fUn, fTest, fTru, tru, toB, fB, one, two, bInt, bMax2, bMin2, bLen, oIx, oMod, oFdiv, oAdd, oSub, oMul, oLt, oLe, oGt, oGe, oNeg, oPow, oInt2, fCons, fNil, fTup, fLst, fIf, fCall, fNotT, fAndT, fOrT, fAnd, fOr, fNot, fDrop, RS.ofE, RS.ofB, RS.ofL, RS.only, Fn.R.bind, Fn.R.of, Fn.R.ofB, runF] at h
  | p :: r, hn, h => by
    rw [List.map_cons, List.nodup_cons] at hn
    rw [List.map_cons, List.map_cons, List.sum_cons, List.map_cons, List.sum_cons, getB]
    by_cases e : p.1 = t
    · rw [if_pos e, if_pos e]
      have hnot : t ∉ r.map (·.1) := by rw [← e]; exact hn.1
      have : (r.map fun p => if p.1 = t then (p.1, c) else p) = r := by
        conv => rhs; rw [← List.map_id r]
        apply List.map_congr_left
        intro q hq
        rw [if_neg (fun z => hnot (by rw [← z]; exact List.mem_map.mpr ⟨q, hq, rfl⟩))]
        rfl
      rw [this]
      simp [fSeq, fNext, fIfS, fAsg, gSb, sLst, fRet, fRetN, fSet, fVar, fK, fBin, fUn, fTest, fTru, tru, toB, fB, one, two, bInt, bMax2, bMin2, bLen, oIx, oMod, oFdiv, oAdd, oSub, oMul, oLt, oLe, oGt, oGe, oNeg, oPow, oInt2, fCons, fNil, fTup, fLst, fIf, fCall, fNotT, fAndT, fOrT, fAnd, fOr, fNot, fDrop, RS.ofE, RS.ofB, RS.ofL, RS.only, Fn.R.bind, Fn.R.of, Fn.R.ofB, runF]
      omega
    · rw [if_neg e, if_neg e]
      rw [List.map_cons, List.mem_cons] at h
      rcases h with h | h
      · exact absurd h.symm e
      · rw [sumB_set t c r hn.2 h]
        omega
structure BagOk (n m cs : Int) (B : Bag) (k : Nat) : Prop where
  nd : (B.map (·.1)).Nodup
  thr : ∀ t ∈ B.map (·.1), Thr n m cs t
  pos : ∀ p ∈ B, 1 ≤ p.2
  sum : sumB B ≤ 3 * k
  len : B.length ≤ k
theorem BagOk.nil (n m cs : Int) : BagOk n m cs [] 0 := ⟨List.nodup_nil, fun t h => by simp [fSeq, fNext, fIfS, fAsg, gSb, sLst, fRet, fRetN, fSet, fVar, fK, fBin, fUn, fTest, fTru, tru, toB, fB, one, two, bInt, bMax2, bMin2, bLen, oIx, oMod, oFdiv, oAdd, oSub, oMul, oLt, oLe, oGt, oGe, oNeg, oPow, oInt2, fCons, fNil, fTup, fLst, fIf, fCall, fNotT, fAndT, fOrT, fAnd, fOr, fNot, fDrop, RS.ofE, RS.ofB, RS.ofL, RS.only, Fn.R.bind, Fn.R.of, Fn.R.ofB, runF] at h, fun p h => by simp [fSeq, fNext, fIfS, fAsg, gSb, sLst, fRet, fRetN, fSet, fVar, fK, fBin, fUn, fTest, fTru, tru, toB, fB, one, two, bInt, bMax2, bMin2, bLen, oIx, oMod, oFdiv, oAdd, oSub, oMul, oLt, oLe, oGt, oGe, oNeg, oPow, oInt2, fCons, fNil, fTup, fLst, fIf, fCall, fNotT, fAndT, fOrT, fAnd, fOr, fNot, fDrop, RS.ofE, RS.ofB, RS.ofL, RS.only, Fn.R.bind, Fn.R.of, Fn.R.ofB, runF] at h, by decide, by decide⟩
theorem getB_pos {n m cs : Int} {B : Bag} {k : Nat} (b : BagOk n m cs B k) (t : List Int) : 0 ≤ (getB B t).getD 0 := by
  by_cases h : t ∈ B.map (·.1)
  · obtain ⟨c, e, m1⟩ := getB_some t B h
    rw [e]
    have := b.pos _ m1
    show 0 ≤ c
    have h2 : 1 ≤ c := this
    omega
  · rw [getB_none t B h]
    decide
theorem BagOk.set {n m cs : Int} {B : Bag} {k : Nat} (b : BagOk n m cs B k) {t : List Int} (ht : Thr n m cs t) {c : Int} (hc : 1 ≤ c) :
    (setB B t ((getB B t).getD 0 + c)).map (·.1) = (if hasB B t = true then B.map (·.1) else B.map (·.1) ++ [t]) ∧ ((setB B t ((getB B t).getD 0 + c)).map (·.1)).Nodup ∧ (∀ u ∈ (setB B t ((getB B t).getD 0 + c)).map (·.1), Thr n m cs u) ∧
    (∀ p ∈ setB B t ((getB B t).getD 0 + c), 1 ≤ p.2) ∧ sumB (setB B t ((getB B t).getD 0 + c)) = sumB B + c ∧ (setB B t ((getB B t).getD 0 + c)).length ≤ B.length + 1 := by
  have hk := setB_keys B t ((getB B t).getD 0 + c)
  have g0 := getB_pos b t
  refine ⟨hk, ?_, ?_, ?_, ?_, ?_⟩
  · rw [hk]
    by_cases h : hasB B t = true
    · rw [if_pos h]; exact b.nd
    · rw [if_neg h]
      have hn : t ∉ B.map (·.1) := fun z => h ((hasB_mem t B).mpr z)
      rw [List.nodup_append]
      refine ⟨b.nd, by simp [fSeq, fNext, fIfS, fAsg, gSb, sLst, fRet, fRetN, fSet, fVar, fK, fBin, fUn, fTest, fTru, tru, toB, fB, one, two, bInt, bMax2, bMin2, bLen, oIx, oMod, oFdiv, oAdd, oSub, oMul, oLt, oLe, oGt, oGe, oNeg, oPow, oInt2, fCons, fNil, fTup, fLst, fIf, fCall, fNotT, fAndT, fOrT, fAnd, fOr, fNot, fDrop, RS.ofE, RS.ofB, RS.ofL, RS.only, Fn.R.bind, Fn.R.of, Fn.R.ofB, runF], fun x hx y hy => ?_⟩
      simp only [List.mem_singleton] at hy
      subst hy
      exact fun z => hn (by rw [← z]; exact hx)
  · intro u hu
    rw [hk] at hu
    by_cases h : hasB B t = true
    · rw [if_pos h] at hu; exact b.thr u hu
    · rw [if_neg h, List.mem_append] at hu
      rcases hu with hu | hu
      · exact b.thr u hu
      · simp only [List.mem_singleton] at hu
        subst hu
        exact ht
  · intro p hp
    unfold setB at hp
    by_cases h : hasB B t = true
    · rw [if_pos h] at hp
      obtain ⟨q, hq, rfl⟩ := List.mem_map.mp hp
      by_cases e : q.1 = t
      · rw [if_pos e]; show 1 ≤ (getB B t).getD 0 + c; omega
      · rw [if_neg e]; exact b.pos q hq
    · rw [if_neg h, List.mem_append] at hp
      rcases hp with hp | hp
      · exact b.pos p hp
      · simp only [List.mem_singleton] at hp
        subst hp
        show 1 ≤ (getB B t).getD 0 + c
        omega
  · unfold setB sumB
    by_cases h : hasB B t = true
    · rw [if_pos h, sumB_set t _ B b.nd ((hasB_mem t B).mp h)]
      omega
    · rw [if_neg h, getB_none t B (fun z => h ((hasB_mem t B).mpr z))]
      simp [fSeq, fNext, fIfS, fAsg, gSb, sLst, fRet, fRetN, fSet, fVar, fK, fBin, fUn, fTest, fTru, tru, toB, fB, one, two, bInt, bMax2, bMin2, bLen, oIx, oMod, oFdiv, oAdd, oSub, oMul, oLt, oLe, oGt, oGe, oNeg, oPow, oInt2, fCons, fNil, fTup, fLst, fIf, fCall, fNotT, fAndT, fOrT, fAnd, fOr, fNot, fDrop, RS.ofE, RS.ofB, RS.ofL, RS.only, Fn.R.bind, Fn.R.of, Fn.R.ofB, runF]
  · unfold setB
    by_cases h : hasB B t = true
    · rw [if_pos h, List.length_map]; omega
    · rw [if_neg h, List.length_append]; simp [fSeq, fNext, fIfS, fAsg, gSb, sLst, fRet, fRetN, fSet, fVar, fK, fBin, fUn, fTest, fTru, tru, toB, fB, one, two, bInt, bMax2, bMin2, bLen, oIx, oMod, oFdiv, oAdd, oSub, oMul, oLt, oLe, oGt, oGe, oNeg, oPow, oInt2, fCons, fNil, fTup, fLst, fIf, fCall, fNotT, fAndT, fOrT, fAnd, fOr, fNot, fDrop, RS.ofE, RS.ofB, RS.ofL, RS.only, Fn.R.bind, Fn.R.of, Fn.R.ofB, runF]
end Fn
end
section
namespace Fn
open PySem PySem.Spec
/-- all that stood stands -/
def Agr (h h' : Store) : Prop := ∀ (i : Nat) (o : Ob), h[i]? = some o → h'[i]? = some o
theorem Agr.refl (h : Store) : Agr h h := fun _ _ e => e
theorem Agr.trans {h h1 h2 : Store} (a : Agr h h1) (b : Agr h1 h2) : Agr h h2 := fun i o e => b i o (a i o e)
theorem Agr.app {h h1 : Store} (a : Agr h h1) (l : Store) : Agr h (h1 ++ l) := fun i o e => by
  have q := a i o e
  rw [List.getElem?_append_left (List.getElem?_eq_some_iff.mp q).1]
  exact q
theorem Agr.set {h h1 : Store} (a : Agr h h1) {d : Nat} (hd : h.length ≤ d) (o : Ob) : Agr h (h1.set d o) := fun i u e => by
  have : i < h.length := (List.getElem?_eq_some_iff.mp e).1
  rw [List.getElem?_set_ne (by omega)]
  exact a i u e
theorem Agr.kp {s : Nat} {h h' : Store} (S : Src h s) (a : Agr h h') : Kp s h h' := by
  obtain ⟨x, y, e, r⟩ := S
  exact ⟨⟨x, y, a s _ e, r⟩, fun i o _ q => a i o q⟩
theorem live_at {h1 : Store} {l : Nat} {xs : List Val} (e : h1[l]? = some (.lst xs)) : ∀ hh, Agr h1 hh → (Walk.live l).at hh = some xs := fun hh a => by
  unfold Walk.at
  simp only [a l _ e]
theorem iLst_ok {f : FE} {e : Env} {h h1 : Store} {l : Nat} {xs : List Val} (hf : f e h = .ok (.loc l) h1) (hl : h1[l]? = some (.lst xs)) : iLst f e h = .ok (.live l) h1 := by
  unfold iLst
  simp [fSeq, fNext, fIfS, fAsg, gSb, sLst, fRet, fRetN, fSet, fVar, fK, fBin, fUn, fTest, fTru, tru, toB, fB, one, two, bInt, bMax2, bMin2, bLen, oIx, oMod, oFdiv, oAdd, oSub, oMul, oLt, oLe, oGt, oGe, oNeg, oPow, oInt2, fCons, fNil, fTup, fLst, fIf, fCall, fNotT, fAndT, fOrT, fAnd, fOr, fNot, fDrop, RS.ofE, RS.ofB, RS.ofL, RS.only, Fn.R.bind, Fn.R.of, Fn.R.ofB, runF, hf, hl]
theorem iSeq_loc {f : FE} {e : Env} {h h1 : Store} {l : Nat} {xs : List Val} (hf : f e h = .ok (.loc l) h1) (hl : h1[l]? = some (.lst xs)) : iSeq f e h = .ok (.live l) h1 := by
  unfold iSeq
  simp only [hf]
  exact iLst_ok hf hl
theorem iSeq_tup {f : FE} {e : Env} {h h1 : Store} {xs : List Val} (hf : f e h = .ok (.tup xs) h1) : iSeq f e h = .ok (.vals xs) h1 := by
  unfold iSeq
  simp only [hf]
/-! ### the bundles of a bag -/
def cnt (B : Bag) (t : List Int) : Int := (getB B t).getD 0
/-- reading a tuple of ints back -/
def unI : Val → List Int
  | .tup xs => (asInts xs).getD []
  | _ => []
@[simp] theorem unI_tI (t : List Int) : unI (tI t) = t := by
  unfold unI tI
  simp [fSeq, fNext, fIfS, fAsg, gSb, sLst, fRet, fRetN, fSet, fVar, fK, fBin, fUn, fTest, fTru, tru, toB, fB, one, two, bInt, bMax2, bMin2, bLen, oIx, oMod, oFdiv, oAdd, oSub, oMul, oLt, oLe, oGt, oGe, oNeg, oPow, oInt2, fCons, fNil, fTup, fLst, fIf, fCall, fNotT, fAndT, fOrT, fAnd, fOr, fNot, fDrop, RS.ofE, RS.ofB, RS.ofL, RS.only, Fn.R.bind, Fn.R.of, Fn.R.ofB, runF]
end Fn
end
section
namespace Fn
open PySem PySem.Spec
@[simp] theorem kit_tt : L2.kitB "tuple" "tuple" = some true := by decide +kernel
@[simp] theorem kit_ii : L2.kitB "int" "int" = some true := by decide +kernel
@[simp] theorem kit_ib : L2.kitB "int" "bool" = some false := by decide +kernel
end Fn
end
section
namespace Fn
open PySem PySem.Spec
end Fn
end
section
namespace Fn
open PySem PySem.Spec
/-! ## what hangs together -/
def rgI (n : Nat) : List Int := (List.range n).map fun (i : Nat) => (i : Int)
theorem rgI_mem {n : Nat} {q : Int} : q ∈ rgI n ↔ 0 ≤ q ∧ q < n := by
  unfold rgI
  rw [List.mem_map]
  constructor
  · rintro ⟨i, hi, rfl⟩
    have := List.mem_range.mp hi
    omega
  · rintro ⟨h0, h1⟩
    exact ⟨q.toNat, List.mem_range.mpr (by omega), by omega⟩
theorem rgI_len (n : Nat) : (rgI n).length = n := by unfold rgI; rw [List.length_map, List.length_range]
theorem rgI_sorted (n : Nat) : (rgI n).Pairwise (· < ·) := by
  unfold rgI
  rw [List.pairwise_map]
  exact List.pairwise_lt_range.imp fun h => by omega
def gL (L : List Int) (i : Int) : Int := L.getD i.toNat 0
def mx (a b : Int) : Int := if b > a then b else a
def mn (a b : Int) : Int := if b < a then b else a
def stepL (L : List Int) (t : List Int) : List Int := match t with
  | u :: v :: _ => if gL L u = gL L v then L else L.map fun x => if x = mx (gL L u) (gL L v) then mn (gL L u) (gL L v) else x
  | _ => L
inductive Cn (E : Int → Int → Prop) : Int → Int → Prop
  | refl (a : Int) : Cn E a a
  | fwd {a b c : Int} : Cn E a b → E b c → Cn E a c
  | bwd {a b c : Int} : Cn E a b → E c b → Cn E a c
theorem Cn.trans {E : Int → Int → Prop} {a b c : Int} (h : Cn E a b) (k : Cn E b c) : Cn E a c := by
  induction k with
  | refl => exact h
  | fwd _ e ih => exact .fwd ih e
  | bwd _ e ih => exact .bwd ih e
theorem Cn.symm {E : Int → Int → Prop} {a b : Int} (h : Cn E a b) : Cn E b a := by
  induction h with
  | refl => exact .refl _
  | fwd _ e ih => exact (Cn.bwd (.refl _) e).trans ih
  | bwd _ e ih => exact (Cn.fwd (.refl _) e).trans ih
theorem gL_get {L : List Int} {q : Int} (h0 : 0 ≤ q) (h1 : q < L.length) : L[q.toNat]? = some (gL L q) := by
  unfold gL
  rw [List.getD_eq_getElem?_getD, List.getElem?_eq_getElem (by omega)]
  rfl
theorem gL_map {L : List Int} (f : Int → Int) {q : Int} (h0 : 0 ≤ q) (h1 : q < L.length) : gL (L.map f) q = f (gL L q) := by
  have := gL_get h0 h1
  unfold gL at this ⊢
  rw [List.getD_eq_getElem?_getD, List.getElem?_map, this]
  rfl
theorem mx_mn (a b : Int) : (mx a b = a ∧ mn a b = b ∧ b ≤ a) ∨ (mx a b = b ∧ mn a b = a ∧ a < b) := by
  unfold mx mn
  by_cases h : b > a
  · rw [if_pos h, if_neg (by omega)]; exact .inr ⟨rfl, rfl, h⟩
  · rw [if_neg h]
    by_cases h2 : b < a
    · rw [if_pos h2]; exact .inl ⟨rfl, rfl, by omega⟩
    · rw [if_neg h2]; exact .inl ⟨rfl, by omega, by omega⟩
structure HL (n : Nat) (E : Int → Int → Prop) (L : List Int) : Prop where
  len : L.length = n
  le : ∀ q : Int, 0 ≤ q → q < n → 0 ≤ gL L q ∧ gL L q ≤ q
  cn : ∀ q : Int, 0 ≤ q → q < n → Cn E q (gL L q)
theorem HL.step {n : Nat} {E : Int → Int → Prop} {L : List Int} (h : HL n E L) {u v : Int} {r : List Int} (u0 : 0 ≤ u) (u1 : u < n) (v0 : 0 ≤ v) (v1 : v < n) (he : E u v) : HL n E (stepL L (u :: v :: r)) ∧ gL (stepL L (u :: v :: r)) u = gL (stepL L (u :: v :: r)) v ∧
    ∀ a b : Int, 0 ≤ a → a < n → 0 ≤ b → b < n → gL L a = gL L b → gL (stepL L (u :: v :: r)) a = gL (stepL L (u :: v :: r)) b := by
  unfold stepL
  by_cases heq : gL L u = gL L v
  · simp only [heq, if_true]
    exact ⟨h, trivial, fun _ _ _ _ _ _ e => e⟩
  · simp only [heq, if_false]
    have hgm : ∀ q : Int, 0 ≤ q → q < n → gL (L.map fun x => if x = mx (gL L u) (gL L v) then mn (gL L u) (gL L v) else x) q = if gL L q = mx (gL L u) (gL L v) then mn (gL L u) (gL L v) else gL L q := fun q h0 h1 => gL_map _ h0 (by rw [h.len]; exact h1)
    have cuv : Cn E (gL L u) (gL L v) := ((h.cn u u0 u1).symm.trans (.fwd (.refl _) he)).trans (h.cn v v0 v1)
    have lu := h.le u u0 u1
    have lv := h.le v v0 v1
    refine ⟨⟨by rw [List.length_map]; exact h.len, fun q h0 h1 => ?_, fun q h0 h1 => ?_⟩, ?_, fun a b a0 a1 b0 b1 e => ?_⟩
    · rw [hgm q h0 h1]
      have := h.le q h0 h1
      by_cases c : gL L q = mx (gL L u) (gL L v)
      · rw [if_pos c]
        rcases mx_mn (gL L u) (gL L v) with ⟨e1, e2, e3⟩ | ⟨e1, e2, e3⟩ <;> rw [e2] <;> rw [e1] at c <;> omega
      · rw [if_neg c]; exact this
    · rw [hgm q h0 h1]
      have k := h.cn q h0 h1
      by_cases c : gL L q = mx (gL L u) (gL L v)
      · rw [if_pos c]
        rw [c] at k
        rcases mx_mn (gL L u) (gL L v) with ⟨e1, e2, e3⟩ | ⟨e1, e2, e3⟩ <;> rw [e2] <;> rw [e1] at k
        · exact k.trans cuv
        · exact k.trans cuv.symm
      · rw [if_neg c]; exact k
    · rw [hgm u u0 u1, hgm v v0 v1]
      rcases mx_mn (gL L u) (gL L v) with ⟨e1, e2, e3⟩ | ⟨e1, e2, e3⟩ <;> rw [e1, e2]
      · rw [if_pos rfl, if_neg (fun z => heq z.symm)]
      · rw [if_neg heq, if_pos rfl]
    · rw [hgm a a0 a1, hgm b b0 b1, e]
/-- the labels tell what hangs together -/
structure HF (n : Nat) (E : Int → Int → Prop) (L : List Int) : Prop where
  len : L.length = n
  le : ∀ q : Int, 0 ≤ q → q < n → 0 ≤ gL L q ∧ gL L q ≤ q
  iff : ∀ a b : Int, 0 ≤ a → a < n → 0 ≤ b → b < n → (Cn E a b ↔ gL L a = gL L b)
def cls (n : Nat) (L : List Int) (f : Int) : List Int := (rgI n).filter fun q => gL L q == f
end Fn
end
section
namespace Fn
open PySem PySem.Spec
/-- what is walked: a tuple, a list that stands -/
inductive Tys (h : Store) : Val → List Val → Prop
  | tup (xs : List Val) : Tys h (.tup xs) xs
  | lst {l : Nat} {xs : List Val} (e : h[l]? = some (.lst xs)) : Tys h (.loc l) xs
def wOf : Val → Walk
  | .tup xs => .vals xs
  | .loc l => .live l
  | _ => .vals []
theorem Tys.it {h h1 : Store} {v : Val} {xs : List Val} (t : Tys h v xs) {f : FE} {e : Env} {h0 : Store} (hf : f e h0 = .ok v h1) (a : Agr h h1) : iSeq f e h0 = .ok (wOf v) h1 ∧ ∀ hh, Agr h hh → (wOf v).at hh = some xs := by
  cases t with
  | tup xs => exact ⟨iSeq_tup hf, fun _ _ => rfl⟩
  | lst e1 => exact ⟨iSeq_loc hf (a _ _ e1), live_at e1⟩
theorem seq_ok {f g : FS} {e e1 : Env} {h h1 : Store} {r : RS} (q : f e h = .next e1 h1) (q2 : g e1 h1 = r) : fSeq f g e h = r := by
  unfold fSeq
  rw [q]
  exact q2
theorem set_ok {i : Nat} {f : FE} {e : Env} {h h1 : Store} {x : Val} (q : f e h = .ok x h1) : fSet i f e h = .next (e.set i (some x)) h1 := by
  unfold fSet RS.ofE
  rw [q]
theorem run_ok {N : Nat} {f : FS} {xs : List Val} {h h1 : Store} {x : Val} (q : f (xs.map some ++ List.replicate (N - xs.length) none) h = .ret x h1) : runF N f xs h = .ok x h1 := by
  unfold runF
  rw [q]
end Fn
end
section
namespace Fn
open PySem PySem.Spec
/-! ## what a place meets -/
def stepM (M : List Int) (t : List Int) : List Int := match t with
  | u :: v :: _ => if u ∈ M ↔ v ∈ M then M else M ++ [if u ∈ M then v else u]
  | _ => M
theorem stepM_eq (M : List Int) (u v : Int) (r : List Int) : stepM M (u :: v :: r) = if u ∈ M ↔ v ∈ M then M else M ++ [if u ∈ M then v else u] := rfl
structure MI (n : Nat) (E : Int → Int → Prop) (p : Int) (M : List Int) : Prop where
  nd : M.Nodup
  rg : ∀ q ∈ M, 0 ≤ q ∧ q < n
  cn : ∀ q ∈ M, Cn E p q
  p : p ∈ M
theorem MI.step {n : Nat} {E : Int → Int → Prop} {p : Int} {M : List Int} (h : MI n E p M) {u v : Int} {r : List Int} (u0 : 0 ≤ u) (u1 : u < n) (v0 : 0 ≤ v) (v1 : v < n) (he : E u v) : MI n E p (stepM M (u :: v :: r)) := by
  rw [stepM_eq]
  by_cases hu : u ∈ M
  · by_cases hv : v ∈ M
    · rw [if_pos ⟨fun _ => hv, fun _ => hu⟩]; exact h
    · rw [if_neg (fun z => hv (z.mp hu)), if_pos hu]
      refine ⟨List.nodup_append.mpr ⟨h.nd, by simp [fSeq, fNext, fIfS, fAsg, gSb, sLst, fRet, fRetN, fSet, fVar, fK, fBin, fUn, fTest, fTru, tru, toB, fB, one, two, bInt, bMax2, bMin2, bLen, oIx, oMod, oFdiv, oAdd, oSub, oMul, oLt, oLe, oGt, oGe, oNeg, oPow, oInt2, fCons, fNil, fTup, fLst, fIf, fCall, fNotT, fAndT, fOrT, fAnd, fOr, fNot, fDrop, RS.ofE, RS.ofB, RS.ofL, RS.only, Fn.R.bind, Fn.R.of, Fn.R.ofB, runF, fCmpN, fChK, fChL, fIsi, tyN, gsCons, gsNil, gNm, gTp, fPar2, fAug, fSl, fNoP, fPt, newL, oAddI, fMake, fStar, items, wipeE, ctSet, fSetF], fun a ha b hb => ?_⟩, fun q hq => ?_, fun q hq => ?_, List.mem_append_left _ h.p⟩
      · rw [List.mem_singleton.mp hb]
        exact fun z => hv (z ▸ ha)
      · rcases List.mem_append.mp hq with hq | hq
        · exact h.rg q hq
        · rw [List.mem_singleton.mp hq]; exact ⟨v0, v1⟩
      · rcases List.mem_append.mp hq with hq | hq
        · exact h.cn q hq
        · rw [List.mem_singleton.mp hq]; exact .fwd (h.cn u hu) he
  · by_cases hv : v ∈ M
    · rw [if_neg (fun z => hu (z.mpr hv)), if_neg hu]
      refine ⟨List.nodup_append.mpr ⟨h.nd, by simp [fSeq, fNext, fIfS, fAsg, gSb, sLst, fRet, fRetN, fSet, fVar, fK, fBin, fUn, fTest, fTru, tru, toB, fB, one, two, bInt, bMax2, bMin2, bLen, oIx, oMod, oFdiv, oAdd, oSub, oMul, oLt, oLe, oGt, oGe, oNeg, oPow, oInt2, fCons, fNil, fTup, fLst, fIf, fCall, fNotT, fAndT, fOrT, fAnd, fOr, fNot, fDrop, RS.ofE, RS.ofB, RS.ofL, RS.only, Fn.R.bind, Fn.R.of, Fn.R.ofB, runF, fCmpN, fChK, fChL, fIsi, tyN, gsCons, gsNil, gNm, gTp, fPar2, fAug, fSl, fNoP, fPt, newL, oAddI, fMake, fStar, items, wipeE, ctSet, fSetF], fun a ha b hb => ?_⟩, fun q hq => ?_, fun q hq => ?_, List.mem_append_left _ h.p⟩
      · rw [List.mem_singleton.mp hb]
        exact fun z => hu (z ▸ ha)
      · rcases List.mem_append.mp hq with hq | hq
        · exact h.rg q hq
        · rw [List.mem_singleton.mp hq]; exact ⟨u0, u1⟩
      · rcases List.mem_append.mp hq with hq | hq
        · exact h.cn q hq
        · rw [List.mem_singleton.mp hq]; exact .bwd (h.cn v hv) he
    · rw [if_pos ⟨fun z => absurd z hu, fun z => absurd z hv⟩]; exact h
theorem perm_filter {M l : List Int} (hM : M.Nodup) (hl : l.Nodup) (h : ∀ q ∈ M, q ∈ l) : M.Perm (l.filter fun q => decide (q ∈ M)) := by
  rw [List.perm_ext_iff_of_nodup hM (hl.filter _)]
  intro a
  rw [List.mem_filter, decide_eq_true_eq]
  exact ⟨fun z => ⟨h a z, z⟩, fun z => z.2⟩
theorem rgI_nodup (n : Nat) : (rgI n).Nodup := (rgI_sorted n).imp fun h => by omega
theorem MI.len {n : Nat} {E : Int → Int → Prop} {p : Int} {M : List Int} (h : MI n E p M) : M.length ≤ n := by
  have := (perm_filter h.nd (rgI_nodup n) fun q hq => rgI_mem.mpr (h.rg q hq)).length_eq
  rw [this]
  have := List.length_filter_le (fun q => decide (q ∈ M)) (rgI n)
  rw [rgI_len] at this
  exact this
/-! ### in -/
theorem asFlats_ints : ∀ ns : List Int, asFlats (ns.map Val.int) = some (ns.map L2.V.int)
  | [] => rfl
  | n :: ns => by
    rw [List.map_cons, asFlats, asFlats_ints ns]
    rfl
theorem inV_ints (q : Int) : ∀ ns : List Int, L2.inV (.int q) (ns.map L2.V.int) = decide (q ∈ ns)
  | [] => by simp [fSeq, fNext, fIfS, fAsg, gSb, sLst, fRet, fRetN, fSet, fVar, fK, fBin, fUn, fTest, fTru, tru, toB, fB, one, two, bInt, bMax2, bMin2, bLen, oIx, oMod, oFdiv, oAdd, oSub, oMul, oLt, oLe, oGt, oGe, oNeg, oPow, oInt2, fCons, fNil, fTup, fLst, fIf, fCall, fNotT, fAndT, fOrT, fAnd, fOr, fNot, fDrop, RS.ofE, RS.ofB, RS.ofL, RS.only, Fn.R.bind, Fn.R.of, Fn.R.ofB, runF, fCmpN, fChK, fChL, fIsi, tyN, gsCons, gsNil, gNm, gTp, fPar2, fAug, fSl, fNoP, fPt, newL, oAddI, fMake, fStar, items, wipeE, ctSet, fSetF, L2.inV]
  | n :: ns => by
    have ih := inV_ints q ns
    unfold L2.inV at ih ⊢
    rw [List.map_cons, List.any_cons, ih]
    show (n == q || decide (q ∈ ns)) = decide (q ∈ n :: ns)
    by_cases h : n = q
    · simp [fSeq, fNext, fIfS, fAsg, gSb, sLst, fRet, fRetN, fSet, fVar, fK, fBin, fUn, fTest, fTru, tru, toB, fB, one, two, bInt, bMax2, bMin2, bLen, oIx, oMod, oFdiv, oAdd, oSub, oMul, oLt, oLe, oGt, oGe, oNeg, oPow, oInt2, fCons, fNil, fTup, fLst, fIf, fCall, fNotT, fAndT, fOrT, fAnd, fOr, fNot, fDrop, RS.ofE, RS.ofB, RS.ofL, RS.only, Fn.R.bind, Fn.R.of, Fn.R.ofB, runF, fCmpN, fChK, fChL, fIsi, tyN, gsCons, gsNil, gNm, gTp, fPar2, fAug, fSl, fNoP, fPt, newL, oAddI, fMake, fStar, items, wipeE, ctSet, fSetF, h]
    · have h2 : ¬ q = n := fun z => h z.symm
      simp [fSeq, fNext, fIfS, fAsg, gSb, sLst, fRet, fRetN, fSet, fVar, fK, fBin, fUn, fTest, fTru, tru, toB, fB, one, two, bInt, bMax2, bMin2, bLen, oIx, oMod, oFdiv, oAdd, oSub, oMul, oLt, oLe, oGt, oGe, oNeg, oPow, oInt2, fCons, fNil, fTup, fLst, fIf, fCall, fNotT, fAndT, fOrT, fAnd, fOr, fNot, fDrop, RS.ofE, RS.ofB, RS.ofL, RS.only, Fn.R.bind, Fn.R.of, Fn.R.ofB, runF, fCmpN, fChK, fChL, fIsi, tyN, gsCons, gsNil, gNm, gTp, fPar2, fAug, fSl, fNoP, fPt, newL, oAddI, fMake, fStar, items, wipeE, ctSet, fSetF, h, h2]
/-! ### data of tuples of ints -/
end Fn
end
section
namespace Fn
open PySem PySem.Spec
end Fn
end
section
namespace Fn
open PySem PySem.Spec
@[simp] theorem fits0 : fits 0 = true := rfl
end Fn
end
section
namespace Fn
open PySem PySem.Spec
/-! ## steps as terms -/
theorem K_ok {e : Env} {h : Store} {x : Val} : fK x e h = .ok x h := by simp [fSeq, fNext, fIfS, fAsg, gSb, sLst, fRet, fRetN, fSet, fVar, fK, fBin, fUn, fTest, fTru, tru, toB, fB, one, two, bInt, bMax2, bMin2, bLen, oIx, oMod, oFdiv, oAdd, oSub, oMul, oLt, oLe, oGt, oGe, oNeg, oPow, oInt2, fCons, fNil, fTup, fLst, fIf, fCall, fNotT, fAndT, fOrT, fAnd, fOr, fNot, fDrop, RS.ofE, RS.ofB, RS.ofL, RS.only, Fn.R.bind, Fn.R.of, Fn.R.ofB, runF, fCmpN, fChK, fChL, fIsi, tyN, gsCons, gsNil, gNm, gTp, fPar2, fAug, fSl, fNoP, fPt, newL, oAddI, fMake, fStar, items, wipeE, ctSet, fSetF]
/-! ## fields of a web -/
section
variable {W : Nat} {n m k : Int} {r : Str} {bs : List Val}
end
/-! ## lots -/
end Fn
end
section
namespace Fn
open PySem PySem.Spec
end Fn
end
section
namespace Fn
open PySem PySem.Spec
/-- a bag as the laws draw it -/
structure BagQ (n m k : Int) (B : Bag) : Prop where
  nd : (B.map (·.1)).Nodup
  thr : ∀ t ∈ B.map (·.1), Thr n m k t
  pos : ∀ p ∈ B, 1 ≤ p.2
  sum : sumB B ≤ 1000000000
  len : B.length ≤ 30
end Fn
end
section
namespace Fn
open PySem PySem.Spec
end Fn
end
section
namespace Fn
open PySem PySem.Spec
theorem poolK_ok (ns : List Int) (k : Int) (k0 : 0 ≤ k) (k1 : k < 1000) (h : Store) : ∃ big mixed : Int, poolF [.ro (ns.map .int), .int k] h = .ok (.loc h.length) (h ++ [.lst [.int big, .int mixed]]) ∧ 0 ≤ big ∧ 0 ≤ mixed ∧ mixed < 2147483647 := by
  have c1 : ∀ x : Int, cMul x 48271 = true := fun x => cMul_l (by decide)
  have c0 : ∀ x : Int, cMul x k = true := fun x => cMul_l (by omega)
  have c2 : ∀ x : Int, cMul x 1 = true := fun x => cMul_l (by decide)
  have c2' : ∀ x : Int, cMul x 0 = true := fun x => cMul_l (by decide)
  have c3 : cPow 10 18 = true := by decide +kernel
  have hcell : ∃ c : Int, (fIfS (fTest (fBin oLt (fVar 1) (fB (one bLen) (fCons (fVar 0) fNil)))) (fSet 2 (fBin oIx (fVar 0) (fVar 1))) (fIfS (fTru (fVar 0)) (fSet 2 (fBin oIx (fVar 0) (fK (.int (0))))) fNext)) [some (.ro (ns.map .int)), some (.int k), some (.int 0), none, none] h = .next [some (.ro (ns.map .int)), some (.int k), some (.int c), none, none] h := by
    by_cases hk : k < ns.length
    · obtain ⟨x, e1, _, m⟩ := atI_in (xs := ns.map Val.int) k0 (by rw [List.length_map]; exact hk)
      obtain ⟨c, _, rfl⟩ := List.mem_map.mp m
      exact ⟨c, by simp [fSeq, fNext, fIfS, fAsg, gSb, sLst, fRet, fRetN, fSet, fVar, fK, fBin, fUn, fTest, fTru, tru, toB, fB, one, two, bInt, bMax2, bMin2, bLen, oIx, oMod, oFdiv, oAdd, oSub, oMul, oLt, oLe, oGt, oGe, oNeg, oPow, oInt2, fCons, fNil, fTup, fLst, fIf, fCall, fNotT, fAndT, fOrT, fAnd, fOr, fNot, fDrop, RS.ofE, RS.ofB, RS.ofL, RS.only, Fn.R.bind, Fn.R.of, Fn.R.ofB, runF, fCmpN, fChK, fChL, fIsi, tyN, gsCons, gsNil, gNm, gTp, fPar2, fAug, fSl, fNoP, fPt, newL, oAddI, fMake, fStar, items, wipeE, ctSet, fSetF, items, hk, e1]⟩
    · cases ns with
      | nil => exact ⟨0, by simp [fSeq, fNext, fIfS, fAsg, gSb, sLst, fRet, fRetN, fSet, fVar, fK, fBin, fUn, fTest, fTru, tru, toB, fB, one, two, bInt, bMax2, bMin2, bLen, oIx, oMod, oFdiv, oAdd, oSub, oMul, oLt, oLe, oGt, oGe, oNeg, oPow, oInt2, fCons, fNil, fTup, fLst, fIf, fCall, fNotT, fAndT, fOrT, fAnd, fOr, fNot, fDrop, RS.ofE, RS.ofB, RS.ofL, RS.only, Fn.R.bind, Fn.R.of, Fn.R.ofB, runF, fCmpN, fChK, fChL, fIsi, tyN, gsCons, gsNil, gNm, gTp, fPar2, fAug, fSl, fNoP, fPt, newL, oAddI, fMake, fStar, items, wipeE, ctSet, fSetF] at hk; simp [fSeq, fNext, fIfS, fAsg, gSb, sLst, fRet, fRetN, fSet, fVar, fK, fBin, fUn, fTest, fTru, tru, toB, fB, one, two, bInt, bMax2, bMin2, bLen, oIx, oMod, oFdiv, oAdd, oSub, oMul, oLt, oLe, oGt, oGe, oNeg, oPow, oInt2, fCons, fNil, fTup, fLst, fIf, fCall, fNotT, fAndT, fOrT, fAnd, fOr, fNot, fDrop, RS.ofE, RS.ofB, RS.ofL, RS.only, Fn.R.bind, Fn.R.of, Fn.R.ofB, runF, fCmpN, fChK, fChL, fIsi, tyN, gsCons, gsNil, gNm, gTp, fPar2, fAug, fSl, fNoP, fPt, newL, oAddI, fMake, fStar, items, wipeE, ctSet, fSetF, items]; intro z; omega⟩
      | cons n ns =>
        have e1 : L2.atI ((n :: ns).map Val.int) 0 = some (.int n) := atI_nat (i := 0) rfl
        exact ⟨n, by simp only [List.map_cons] at e1; simp [fSeq, fNext, fIfS, fAsg, gSb, sLst, fRet, fRetN, fSet, fVar, fK, fBin, fUn, fTest, fTru, tru, toB, fB, one, two, bInt, bMax2, bMin2, bLen, oIx, oMod, oFdiv, oAdd, oSub, oMul, oLt, oLe, oGt, oGe, oNeg, oPow, oInt2, fCons, fNil, fTup, fLst, fIf, fCall, fNotT, fAndT, fOrT, fAnd, fOr, fNot, fDrop, RS.ofE, RS.ofB, RS.ofL, RS.only, Fn.R.bind, Fn.R.of, Fn.R.ofB, runF, fCmpN, fChK, fChL, fIsi, tyN, gsCons, gsNil, gNm, gTp, fPar2, fAug, fSl, fNoP, fPt, newL, oAddI, fMake, fStar, items, wipeE, ctSet, fSetF] at hk; simp [fSeq, fNext, fIfS, fAsg, gSb, sLst, fRet, fRetN, fSet, fVar, fK, fBin, fUn, fTest, fTru, tru, toB, fB, one, two, bInt, bMax2, bMin2, bLen, oIx, oMod, oFdiv, oAdd, oSub, oMul, oLt, oLe, oGt, oGe, oNeg, oPow, oInt2, fCons, fNil, fTup, fLst, fIf, fCall, fNotT, fAndT, fOrT, fAnd, fOr, fNot, fDrop, RS.ofE, RS.ofB, RS.ofL, RS.only, Fn.R.bind, Fn.R.of, Fn.R.ofB, runF, fCmpN, fChK, fChL, fIsi, tyN, gsCons, gsNil, gNm, gTp, fPar2, fAug, fSl, fNoP, fPt, newL, oAddI, fMake, fStar, items, wipeE, ctSet, fSetF, items, e1]; intro z; omega⟩
  obtain ⟨c, hc⟩ := hcell
  have key : ∃ big : Int, 0 ≤ big ∧ big = (if -1 - c > c then -1 - c else c) := ⟨_, by split <;> omega, rfl⟩
  obtain ⟨big, h0, hb⟩ := key
  refine ⟨big * (if 10 ^ 18 ≤ big then 1 else 0), ((big % 2147483629 + 7919 * k * k + 31 * k + 17) * 48271) % 2147483647, ?_, ?_, (emod_src _).1, (emod_src _).2⟩
  · refine run_ok (seq_ok (set_ok K_ok) (seq_ok hc ?_))
    by_cases h1 : c < -1 - c
    · have hb' : big = -1 - c := by rw [hb, if_pos h1]
      subst hb'
      by_cases h2 : 1000000000000000000 ≤ -1 - c
      · simp [fSeq, fNext, fIfS, fAsg, gSb, sLst, fRet, fRetN, fSet, fVar, fK, fBin, fUn, fTest, fTru, tru, toB, fB, one, two, bInt, bMax2, bMin2, bLen, oIx, oMod, oFdiv, oAdd, oSub, oMul, oLt, oLe, oGt, oGe, oNeg, oPow, oInt2, fCons, fNil, fTup, fLst, fIf, fCall, fNotT, fAndT, fOrT, fAnd, fOr, fNot, fDrop, RS.ofE, RS.ofB, RS.ofL, RS.only, Fn.R.bind, Fn.R.of, Fn.R.ofB, runF, fCmpN, fChK, fChL, fIsi, tyN, gsCons, gsNil, gNm, gTp, fPar2, fAug, fSl, fNoP, fPt, newL, oAddI, fMake, fStar, items, wipeE, ctSet, fSetF, c0, c1, c2, c3, h1, h2]
      · simp [fSeq, fNext, fIfS, fAsg, gSb, sLst, fRet, fRetN, fSet, fVar, fK, fBin, fUn, fTest, fTru, tru, toB, fB, one, two, bInt, bMax2, bMin2, bLen, oIx, oMod, oFdiv, oAdd, oSub, oMul, oLt, oLe, oGt, oGe, oNeg, oPow, oInt2, fCons, fNil, fTup, fLst, fIf, fCall, fNotT, fAndT, fOrT, fAnd, fOr, fNot, fDrop, RS.ofE, RS.ofB, RS.ofL, RS.only, Fn.R.bind, Fn.R.of, Fn.R.ofB, runF, fCmpN, fChK, fChL, fIsi, tyN, gsCons, gsNil, gNm, gTp, fPar2, fAug, fSl, fNoP, fPt, newL, oAddI, fMake, fStar, items, wipeE, ctSet, fSetF, c0, c1, c2, c2', c3, h1, h2]
    · have hb' : big = c := by rw [hb, if_neg h1]
      subst hb'
      by_cases h2 : 1000000000000000000 ≤ big
      · simp [fSeq, fNext, fIfS, fAsg, gSb, sLst, fRet, fRetN, fSet, fVar, fK, fBin, fUn, fTest, fTru, tru, toB, fB, one, two, bInt, bMax2, bMin2, bLen, oIx, oMod, oFdiv, oAdd, oSub, oMul, oLt, oLe, oGt, oGe, oNeg, oPow, oInt2, fCons, fNil, fTup, fLst, fIf, fCall, fNotT, fAndT, fOrT, fAnd, fOr, fNot, fDrop, RS.ofE, RS.ofB, RS.ofL, RS.only, Fn.R.bind, Fn.R.of, Fn.R.ofB, runF, fCmpN, fChK, fChL, fIsi, tyN, gsCons, gsNil, gNm, gTp, fPar2, fAug, fSl, fNoP, fPt, newL, oAddI, fMake, fStar, items, wipeE, ctSet, fSetF, c0, c1, c2, c3, h1, h2]
      · simp [fSeq, fNext, fIfS, fAsg, gSb, sLst, fRet, fRetN, fSet, fVar, fK, fBin, fUn, fTest, fTru, tru, toB, fB, one, two, bInt, bMax2, bMin2, bLen, oIx, oMod, oFdiv, oAdd, oSub, oMul, oLt, oLe, oGt, oGe, oNeg, oPow, oInt2, fCons, fNil, fTup, fLst, fIf, fCall, fNotT, fAndT, fOrT, fAnd, fOr, fNot, fDrop, RS.ofE, RS.ofB, RS.ofL, RS.only, Fn.R.bind, Fn.R.of, Fn.R.ofB, runF, fCmpN, fChK, fChL, fIsi, tyN, gsCons, gsNil, gNm, gTp, fPar2, fAug, fSl, fNoP, fPt, newL, oAddI, fMake, fStar, items, wipeE, ctSet, fSetF, c0, c1, c2, c2', c3, h1, h2]
  · split <;> simp [fSeq, fNext, fIfS, fAsg, gSb, sLst, fRet, fRetN, fSet, fVar, fK, fBin, fUn, fTest, fTru, tru, toB, fB, one, two, bInt, bMax2, bMin2, bLen, oIx, oMod, oFdiv, oAdd, oSub, oMul, oLt, oLe, oGt, oGe, oNeg, oPow, oInt2, fCons, fNil, fTup, fLst, fIf, fCall, fNotT, fAndT, fOrT, fAnd, fOr, fNot, fDrop, RS.ofE, RS.ofB, RS.ofL, RS.only, Fn.R.bind, Fn.R.of, Fn.R.ofB, runF, fCmpN, fChK, fChL, fIsi, tyN, gsCons, gsNil, gNm, gTp, fPar2, fAug, fSl, fNoP, fPt, newL, oAddI, fMake, fStar, items, wipeE, ctSet, fSetF, h0]
/-! ### the head -/
/-- a rule's word -/
def RuleW (r : Str) : Prop := r = "all" ∨ r = "others" ∨ r = "own"
theorem RuleW.ok {r : Str} (h : RuleW r) : PyData.strOk r = true := by rcases h with rfl | rfl | rfl <;> decide +kernel
/-! ### lengths -/
end Fn
end
section
open Fn PySem PySem.Spec L2
section
namespace Fn
open PySem PySem.Spec
/-! ## what is asked of an answer, worked backwards -/
abbrev XT := Nat → Val → Store → Prop
def WE {α : Type} (X : XT) (Q : α → Store → Prop) (r : R α) : Prop := match r with
  | .ok x h => Q x h
  | .exc c w h => X c w h
  | .stuck => False
def WO (Q : Val → Store → Prop) (r : OR) : Prop := match r with
  | some (z, h) => Q z h
  | none => False
def WS (N : Env → Store → Prop) (R : Val → Store → Prop) (B C : Env → Store → Prop) (E : Nat → Val → Env → Store → Prop) (r : RS) : Prop := match r with
  | .next e h => N e h
  | .ret v h => R v h
  | .brk e h => B e h
  | .cont e h => C e h
  | .exc c w e h => E c w e h
  | .stuck => False
abbrev noX : XT := fun _ _ _ => False
theorem WE.get {α : Type} {Q : α → Store → Prop} {r : R α} (p : WE noX Q r) : ∃ x h, r = .ok x h ∧ Q x h := by
  cases r with
  | ok x h => exact ⟨x, h, rfl, p⟩
  | exc c w h => exact False.elim p
  | stuck => exact False.elim p
theorem WE.getX {α : Type} {X : XT} {r : R α} (p : WE X (fun _ _ => False) r) : ∃ c w h, r = .exc c w h ∧ X c w h := by
  cases r with
  | ok x h => exact False.elim p
  | exc c w h => exact ⟨c, w, h, rfl, p⟩
  | stuck => exact False.elim p
theorem WE.mono {α : Type} {X : XT} {Q Q' : α → Store → Prop} {r : R α} (p : WE X Q r) (k : ∀ x h, Q x h → Q' x h) : WE X Q' r := by
  cases r with
  | ok x h => exact k _ _ p
  | exc c w h => exact p
  | stuck => exact p
theorem we_eq {α : Type} {X : XT} {Q : α → Store → Prop} {r : R α} {x : α} {h : Store} (e : r = .ok x h) (p : Q x h) : WE X Q r := by rw [e]; exact p
theorem wo_eq {Q : Val → Store → Prop} {r : OR} {z : Val} {h : Store} (e : r = some (z, h)) (p : Q z h) : WO Q r := by rw [e]; exact p
section
variable {α β : Type} {X : XT} {Q : Val → Store → Prop} {QB : Bool → Store → Prop} {QL : List Val → Store → Prop} {QW : Walk → Store → Prop} {e : Env} {h : Store} {f g fa fb : FE} {fs fk : FA} {t u : FT} {ch : FC}
theorem we_bind {r : R α} {k : α → Store → R β} {Q : β → Store → Prop} (p : WE X (fun x h => WE X Q (k x h)) r) : WE X Q (r.bind k) := by cases r <;> exact p
theorem we_of {r : OR} (p : WO Q r) : WE X Q (R.of r) := by
  cases r with
  | none => exact p
  | some r => obtain ⟨z, h⟩ := r; exact p
theorem we_K {x : Val} (p : Q x h) : WE X Q (fK x e h) := p
theorem we_var {i : Nat} {x : Val} (q : e[i]? = some (some x)) (p : Q x h) : WE X Q (fVar i e h) := by
  unfold fVar
  rw [q]
  exact p
theorem we_bin {o : Val → Val → Store → OR} (p : WE X (fun x h1 => WE X (fun y h2 => WO Q (o x y h2)) (g e h1)) (f e h)) : WE X Q (fBin o f g e h) := we_bind (p.mono fun _ _ p => we_bind (p.mono fun _ _ p => we_of p))
theorem we_un {o : Val → Store → OR} (p : WE X (fun x h1 => WO Q (o x h1)) (f e h)) : WE X Q (fUn o f e h) := we_bind (p.mono fun _ _ p => we_of p)
theorem we_toB {r : R Val} (p : WE X (fun x h1 => ∃ b, x = .bl b ∧ QB b h1) r) : WE X QB (toB r) := we_bind (p.mono fun x h1 ⟨b, e, q⟩ => by subst e; exact q)
theorem we_test (p : WE X (fun x h1 => ∃ b, x = .bl b ∧ QB b h1) (f e h)) : WE X QB (fTest f e h) := we_toB p
theorem we_tru (p : WE X (fun x h1 => ∃ b, tru h1 x = some b ∧ QB b h1) (f e h)) : WE X QB (fTru f e h) := we_bind (p.mono fun x h1 ⟨b, e, q⟩ => by rw [e]; exact q)
theorem we_notT (p : WE X (fun b h1 => QB (!b) h1) (t e h)) : WE X QB (fNotT t e h) := we_bind p
theorem we_andT (p : WE X (fun b h1 => (b = true → WE X QB (u e h1)) ∧ (b = false → QB false h1)) (t e h)) : WE X QB (fAndT t u e h) := we_bind (p.mono fun b h1 q => by
  cases b with
  | true => exact q.1 rfl
  | false => exact q.2 rfl)
theorem we_orT (p : WE X (fun b h1 => (b = true → QB true h1) ∧ (b = false → WE X QB (u e h1))) (t e h)) : WE X QB (fOrT t u e h) := we_bind (p.mono fun b h1 q => by
  cases b with
  | true => exact q.1 rfl
  | false => exact q.2 rfl)
theorem we_and (p : WE X (fun x h1 => ∃ b, x = .bl b ∧ (b = true → WE X Q (g e h1)) ∧ (b = false → Q (.bl false) h1)) (f e h)) : WE X Q (fAnd f g e h) := we_bind (we_toB (p.mono fun x h1 ⟨b, e, q⟩ => ⟨b, e, by
  cases b with
  | true => exact q.1 rfl
  | false => exact q.2 rfl⟩))
theorem we_or (p : WE X (fun x h1 => ∃ b, x = .bl b ∧ (b = true → Q (.bl true) h1) ∧ (b = false → WE X Q (g e h1))) (f e h)) : WE X Q (fOr f g e h) := we_bind (we_toB (p.mono fun x h1 ⟨b, e, q⟩ => ⟨b, e, by
  cases b with
  | true => exact q.1 rfl
  | false => exact q.2 rfl⟩))
theorem we_not (p : WE X (fun x h1 => ∃ b, x = .bl b ∧ Q (.bl (!b)) h1) (f e h)) : WE X Q (fNot f e h) := we_bind (we_toB p)
theorem we_if (p : WE X (fun b h1 => (b = true → WE X Q (f e h1)) ∧ (b = false → WE X Q (g e h1))) (t e h)) : WE X Q (fIf t f g e h) := we_bind (p.mono fun b h1 q => by
  cases b with
  | true => exact q.1 rfl
  | false => exact q.2 rfl)
theorem we_nil (p : QL [] h) : WE X QL (fNil e h) := p
theorem we_cons (p : WE X (fun x h1 => WE X (fun xs h2 => QL (x :: xs) h2) (fs e h1)) (f e h)) : WE X QL (fCons f fs e h) := we_bind (p.mono fun _ _ p => we_bind p)
theorem we_tup (p : WE X (fun xs h1 => fits xs.length = true ∧ Q (.tup xs) h1) (fs e h)) : WE X Q (fTup fs e h) := we_bind (p.mono fun xs h1 ⟨a, q⟩ => by rw [if_pos a]; exact q)
theorem we_lst (p : WE X (fun xs h1 => fits xs.length = true ∧ Q (.loc h1.length) (h1 ++ [.lst xs])) (fs e h)) : WE X Q (fLst fs e h) := we_bind (p.mono fun xs h1 ⟨a, q⟩ => by rw [if_pos a]; exact q)
theorem we_call {F : FF} {n : Nat} (p : WE X (fun xs h1 => xs.length = n ∧ WE X Q (F xs h1)) (fs e h)) : WE X Q (fCall F n fs e h) := we_bind (p.mono fun xs h1 ⟨a, q⟩ => by rw [if_pos a]; exact q)
theorem we_callK {F : FF} {n m : Nat} {idx : List Nat} (p : WE X (fun xs h1 => WE X (fun ys h2 => (xs.length = n ∧ ys.length = m) ∧ WE X Q (F (pick idx (xs ++ ys)) h2)) (fk e h1)) (fs e h)) : WE X Q (fCallK F n m idx fs fk e h) :=
  we_bind (p.mono fun xs h1 p => we_bind (p.mono fun ys h2 ⟨a, q⟩ => by rw [if_pos a]; exact q))
theorem we_callD {F : FF} {n : Nat} {dv : Int} (p : WE X (fun xs h1 => xs.length = n ∧ WE X Q (F (xs ++ [.int dv]) h1)) (fs e h)) : WE X Q (fCallD F n dv fs e h) := we_bind (p.mono fun xs h1 ⟨a, q⟩ => by rw [if_pos a]; exact q)
theorem we_B {o : List Val → Store → OR} (p : WE X (fun xs h1 => WO Q (o xs h1)) (fs e h)) : WE X Q (fB o fs e h) := we_bind (p.mono fun _ _ p => we_of p)
theorem wo_one {o : Val → Store → OR} {x : Val} (p : WO Q (o x h)) : WO Q (one o [x] h) := p
theorem wo_two {o : Val → Val → Store → OR} {x y : Val} (p : WO Q (o x y h)) : WO Q (two o [x, y] h) := p
theorem we_M {ty : Store → Val → Bool} {o : Val → List Val → Store → OR} (p : WE X (fun x h1 => ty h1 x = true ∧ WE X (fun xs h2 => WO Q (o x xs h2)) (fs e h1)) (f e h)) : WE X Q (fM ty o f fs e h) := we_bind (p.mono fun x h1 ⟨a, q⟩ => by rw [if_pos a]; exact we_bind (q.mono fun _ _ p => we_of p))
theorem we_M0 {ty : Store → Val → Bool} {o : Val → List Val → Store → OR} (p : WE X (fun x h1 => ty h1 x = true ∧ WO Q (o x [] h1)) (f e h)) : WE X Q (fM0 ty o f e h) := we_bind (p.mono fun x h1 ⟨a, q⟩ => by rw [if_pos a]; exact we_of q)
theorem we_cmpN (p : WE X (fun x h1 => WE X Q (ch x e h1)) (f e h)) : WE X Q (fCmpN f ch e h) := we_bind p
theorem we_chL {o : Val → Val → Store → OR} {x : Val} (p : WE X (fun y h1 => WO Q (o x y h1)) (fb e h)) : WE X Q (fChL o fb x e h) := we_bind (p.mono fun _ _ p => we_of p)
theorem we_chK {o : Val → Val → Store → OR} {x : Val} (p : WE X (fun y h1 => WO (fun z h2 => ∃ b, z = .bl b ∧ (b = true → WE X Q (ch y e h2)) ∧ (b = false → Q (.bl false) h2)) (o x y h1)) (fb e h)) : WE X Q (fChK o fb ch x e h) :=
  we_bind (p.mono fun y h1 p => we_bind (we_toB (we_of (by
    cases q : o x y h1 with
    | none => rw [q] at p; exact p
    | some r =>
      obtain ⟨z, h2⟩ := r
      rw [q] at p
      obtain ⟨b, e, p1, p2⟩ := p
      refine ⟨b, e, ?_⟩
      cases b with
      | true => exact p1 rfl
      | false => exact p2 rfl))))
theorem we_isi {T : String} (p : WE X (fun x h1 => ∃ n k, tyN h1 x = some n ∧ L2.kitB n T = some k ∧ Q (.bl k) h1) (f e h)) : WE X Q (fIsi T f e h) := we_bind (p.mono fun x h1 ⟨n, k, a, b, q⟩ => by simp only [a, b]; exact q)
theorem we_what {w : Val} (p : Q w h) : WE X Q (fWhat w e h) := p
theorem we_rg1 (p : WE X (fun xs h1 => ∃ j : Int, xs = [.int j] ∧ inR j = true ∧ QW (.vals (upTo 0 j.toNat)) h1) (fs e h)) : WE X QW (iRg1 fs e h) := we_bind (p.mono fun xs h1 ⟨j, a, b, q⟩ => by subst a; simp only [b, if_true]; exact q)
theorem we_rg2 (p : WE X (fun xs h1 => ∃ i j : Int, xs = [.int i, .int j] ∧ (inR i && inR j) = true ∧ QW (.vals (upTo i (j - i).toNat)) h1) (fs e h)) : WE X QW (iRg2 fs e h) := we_bind (p.mono fun xs h1 ⟨i, j, a, b, q⟩ => by subst a; simp only [b, if_true]; exact q)
/-- what iSeq walks -/
def seqW (h : Store) : Val → Option Walk
  | .tup xs => some (.vals xs)
  | .wtup xs => some (.vals xs)
  | .ftup xs => some (.vals xs)
  | .ro xs => some (.vals xs)
  | .loc l => match h[l]? with
    | some (.lst _) => some (.live l)
    | _ => none
  | _ => none
theorem we_seq (p : WE X (fun x h1 => ∃ w, seqW h1 x = some w ∧ QW w h1) (f e h)) : WE X QW (iSeq f e h) := by
  unfold iSeq iLst
  generalize f e h = r at p ⊢
  cases r with
  | ok x h1 =>
    obtain ⟨w, a, q⟩ := p
    cases x with
    | tup xs => cases a; exact q
    | wtup xs => cases a; exact q
    | ftup xs => cases a; exact q
    | ro xs => cases a; exact q
    | loc l =>
      unfold seqW at a
      show WE X QW (match h1[l]? with
        | some (.lst _) => .ok (.live l) h1
        | _ => .stuck)
      cases z : h1[l]? with
      | none => simp [fSeq, fNext, fIfS, fAsg, gSb, sLst, fRet, fRetN, fSet, fVar, fK, fBin, fUn, fTest, fTru, tru, toB, fB, one, two, bInt, bMax2, bMin2, bLen, oIx, oMod, oFdiv, oAdd, oSub, oMul, oLt, oLe, oGt, oGe, oNeg, oPow, oInt2, fCons, fNil, fTup, fLst, fIf, fCall, fNotT, fAndT, fOrT, fAnd, fOr, fNot, fDrop, RS.ofE, RS.ofB, RS.ofL, RS.only, Fn.R.bind, Fn.R.of, Fn.R.ofB, runF, fCmpN, fChK, fChL, fIsi, tyN, gsCons, gsNil, gNm, gTp, fPar2, fAug, fSl, fNoP, fPt, newL, oAddI, fMake, fStar, items, wipeE, ctSet, fSetF, z] at a
      | some o =>
        cases o with
        | lst ys => simp only [z] at a ⊢; cases a; exact q
        | _ => simp [fSeq, fNext, fIfS, fAsg, gSb, sLst, fRet, fRetN, fSet, fVar, fK, fBin, fUn, fTest, fTru, tru, toB, fB, one, two, bInt, bMax2, bMin2, bLen, oIx, oMod, oFdiv, oAdd, oSub, oMul, oLt, oLe, oGt, oGe, oNeg, oPow, oInt2, fCons, fNil, fTup, fLst, fIf, fCall, fNotT, fAndT, fOrT, fAnd, fOr, fNot, fDrop, RS.ofE, RS.ofB, RS.ofL, RS.only, Fn.R.bind, Fn.R.of, Fn.R.ofB, runF, fCmpN, fChK, fChL, fIsi, tyN, gsCons, gsNil, gNm, gTp, fPar2, fAug, fSl, fNoP, fPt, newL, oAddI, fMake, fStar, items, wipeE, ctSet, fSetF, z] at a
    | _ => cases a
  | exc c w h1 => exact p
  | stuck => exact p
theorem we_rev (p : WE X (fun xs h1 => ∃ (l : Nat) (ys : List Val), xs = [.loc l] ∧ h1[l]? = some (.lst ys) ∧ QW (.rev l ys.length) h1) (fs e h)) : WE X QW (iRvL fs e h) := we_bind (p.mono fun xs h1 ⟨l, ys, a, b, q⟩ => by subst a; simp only [b]; exact q)
end
/-! ### statements -/
section
variable {N : Env → Store → Prop} {R : Val → Store → Prop} {B C : Env → Store → Prop} {E : Nat → Val → Env → Store → Prop} {e : Env} {h : Store} {f g : FS} {fe fo fi : FE} {fs : FA} {t : FT} {gt : FG}
theorem WS.mono {N' : Env → Store → Prop} {R' : Val → Store → Prop} {B' C' : Env → Store → Prop} {E' : Nat → Val → Env → Store → Prop} {r : RS} (p : WS N R B C E r) (n : ∀ e h, N e h → N' e h) (q : ∀ v h, R v h → R' v h) (b : ∀ e h, B e h → B' e h) (c : ∀ e h, C e h → C' e h) (x : ∀ k w e h, E k w e h → E' k w e h) : WS N' R' B' C' E' r := by
  cases r with
  | next e h => exact n _ _ p
  | ret v h => exact q _ _ p
  | brk e h => exact b _ _ p
  | cont e h => exact c _ _ p
  | exc k w e h => exact x _ _ _ _ p
  | stuck => exact p
theorem WS.nx {N' : Env → Store → Prop} {r : RS} (p : WS N R B C E r) (n : ∀ e h, N e h → N' e h) : WS N' R B C E r := p.mono n (fun _ _ q => q) (fun _ _ q => q) (fun _ _ q => q) (fun _ _ _ _ q => q)
theorem ws_seq (p : WS (fun e1 h1 => WS N R B C E (g e1 h1)) R B C E (f e h)) : WS N R B C E (fSeq f g e h) := by
  unfold fSeq
  generalize f e h = r at p ⊢
  cases r <;> exact p
theorem ws_next (p : N e h) : WS N R B C E (fNext e h) := p
theorem ws_brk (p : B e h) : WS N R B C E (fBrk e h) := p
theorem ws_cont (p : C e h) : WS N R B C E (fCont e h) := p
theorem ws_ofE {r : Fn.R Val} {k : Val → Store → RS} (p : WE (fun c w h => E c w e h) (fun x h1 => WS N R B C E (k x h1)) r) : WS N R B C E (RS.ofE r k e) := by cases r <;> exact p
theorem ws_ofB {r : Fn.R Bool} {k : Bool → Store → RS} (p : WE (fun c w h => E c w e h) (fun x h1 => WS N R B C E (k x h1)) r) : WS N R B C E (RS.ofB r k e) := by cases r <;> exact p
theorem ws_ofL {r : Fn.R (List Val)} {k : List Val → Store → RS} (p : WE (fun c w h => E c w e h) (fun x h1 => WS N R B C E (k x h1)) r) : WS N R B C E (RS.ofL r k e) := by cases r <;> exact p
theorem ws_set {i : Nat} (p : WE (fun c w h => E c w e h) (fun x h1 => N (e.set i (some x)) h1) (fe e h)) : WS N R B C E (fSet i fe e h) := ws_ofE p
theorem ws_drop (p : WE (fun c w h => E c w e h) (fun _ h1 => N e h1) (fe e h)) : WS N R B C E (fDrop fe e h) := ws_ofE p
theorem ws_ret (p : WE (fun c w h => E c w e h) R (fe e h)) : WS N R B C E (fRet fe e h) := ws_ofE p
theorem ws_retN (p : R .non h) : WS N R B C E (fRetN e h) := p
theorem ws_raise {c : Nat} (p : WE (fun c w h => E c w e h) (fun w h1 => E c w e h1) (fe e h)) : WS N R B C E (fRaise c fe e h) := ws_ofE p
theorem ws_if (p : WE (fun c w h => E c w e h) (fun b h1 => (b = true → WS N R B C E (f e h1)) ∧ (b = false → WS N R B C E (g e h1))) (t e h)) : WS N R B C E (fIfS t f g e h) := ws_ofB (p.mono fun b h1 q => by
  cases b with
  | true => exact q.1 rfl
  | false => exact q.2 rfl)
abbrev noE : Env → Store → Prop := fun _ _ => False
abbrev noV : Val → Store → Prop := fun _ _ => False
theorem ws_only {r : RS} (p : WS N noV noE noE E r) : WS N R B C E r.only := by
  cases r with
  | next e h => exact p
  | exc c w e h => exact p
  | _ => exact False.elim p
theorem ws_asg (p : WE (fun c w h => E c w e h) (fun x h1 => WS N noV noE noE E (gt x e h1)) (fe e h)) : WS N R B C E (fAsg fe gt e h) := ws_ofE (p.mono fun _ _ q => ws_only q)
theorem ws_par2 {i j : Nat} (p : WE (fun c w h => E c w e h) (fun xs h1 => ∃ x y, xs = [x, y] ∧ N ((e.set i (some x)).set j (some y)) h1) (fs e h)) : WS N R B C E (fPar2 i j fs e h) := ws_ofL (p.mono fun xs h1 ⟨x, y, a, q⟩ => by subst a; exact q)
theorem ws_par3 {i j l : Nat} (p : WE (fun c w h => E c w e h) (fun xs h1 => ∃ x y z, xs = [x, y, z] ∧ N (((e.set i (some x)).set j (some y)).set l (some z)) h1) (fs e h)) : WS N R B C E (fPar3 i j l fs e h) := ws_ofL (p.mono fun xs h1 ⟨x, y, z, a, q⟩ => by subst a; exact q)
theorem ws_aug {i : Nat} {o : Val → Val → Store → OR} {x : Val} (q : e[i]? = some (some x)) (p : WE (fun c w h => E c w e h) (fun y h1 => WO (fun z h2 => N (e.set i (some z)) h2) (o x y h1)) (fe e h)) : WS N R B C E (fAug i o fe e h) := by
  unfold fAug
  rw [q]
  exact ws_ofE (p.mono fun y h1 q => ws_ofE (we_of q))
/- targets -/
theorem wg_nm {i : Nat} {x : Val} (p : N (e.set i (some x)) h) : WS N R B C E (gNm i x e h) := p
theorem wg_nil (p : N e h) : WS N R B C E (gsNil [] e h) := p
theorem wg_cons {gs : FGs} {x : Val} {xs : List Val} (p : WS (fun e1 h1 => WS N R B C E (gs xs e1 h1)) noV noE noE E (gt x e h)) : WS N R B C E (gsCons gt gs (x :: xs) e h) := by
  show WS N R B C E (match (gt x e h).only with
    | .next e1 h1 => gs xs e1 h1
    | q => q)
  generalize gt x e h = r at p ⊢
  cases r with
  | next e h => exact p
  | exc c w e h => exact p
  | _ => exact False.elim p
theorem wg_tp {n : Nat} {gs : FGs} {xs : List Val} (l : xs.length = n) (p : WS N R B C E (gs xs e h)) : WS N R B C E (gTp n gs (.tup xs) e h) := by
  show WS N R B C E (if xs.length = n then gs xs e h else .stuck)
  rw [if_pos l]
  exact p
theorem wg_sb {v : Val} {o : Val → Val → Val → Store → Option Store} (p : WE (fun c w h => E c w e h) (fun a h1 => WE (fun c w h => E c w e h) (fun i h2 => ∃ h3, o a i v h2 = some h3 ∧ N e h3) (fi e h1)) (fo e h)) : WS N R B C E (gSb fo fi o v e h) :=
  ws_ofE (p.mono fun a h1 p => ws_ofE (p.mono fun i h2 ⟨h3, q, z⟩ => by rw [q]; exact z))
/- defs -/
theorem we_run {X : XT} {n : Nat} {xs : List Val} (p : WS (fun _ h1 => R .non h1) R noE noE (fun c w _ h1 => X c w h1) (f (xs.map some ++ List.replicate (n - xs.length) none) h)) : WE X R (runF n f xs h) := by
  unfold runF
  generalize f (xs.map some ++ List.replicate (n - xs.length) none) h = r at p ⊢
  cases r <;> exact p
/- loops -/
theorem ws_forGo {w : Walk} {xs : List Val} (I : Nat → Env → Store → Prop) (hw : ∀ i e h, I i e h → w.at h = some xs)
    (step : ∀ i x e h, xs[i]? = some x → I i e h → WS (fun e1 h1 => WS (I (i + 1)) R N (I (i + 1)) E (f e1 h1)) noV noE noE E (gt x e h)) (fin : ∀ e h, I xs.length e h → N e h) :
    ∀ (m i : Nat) (e : Env) (h : Store), i + m = xs.length + 1 → i ≤ xs.length → I i e h → WS N R B C E (forGo w gt f m i e h)
  | 0, i, e, h, hm, hi, _ => by omega
  | m + 1, i, e, h, hm, hi, hI => by
    unfold forGo
    simp only [hw i e h hI]
    cases q : xs[i]? with
    | none =>
      have hl : xs.length ≤ i := List.getElem?_eq_none_iff.mp q
      have he : i = xs.length := by omega
      subst he
      exact fin _ _ hI
    | some x =>
      have hl : i < xs.length := (List.getElem?_eq_some_iff.mp q).1
      have s := step i x e h q hI
      simp only
      generalize gt x e h = r at s ⊢
      cases r with
      | next e1 h1 =>
        have s : WS (I (i + 1)) R N (I (i + 1)) E (f e1 h1) := s
        simp only [RS.only_next]
        generalize f e1 h1 = r2 at s ⊢
        cases r2 with
        | next e2 h2 => exact ws_forGo I hw step fin m (i + 1) e2 h2 (by omega) (by omega) s
        | cont e2 h2 => exact ws_forGo I hw step fin m (i + 1) e2 h2 (by omega) (by omega) s
        | brk e2 h2 => exact s
        | ret v h2 => exact s
        | exc c w e2 h2 => exact s
        | stuck => exact s
      | exc c w e1 h1 => exact s
      | ret v h1 => exact False.elim s
      | brk e1 h1 => exact False.elim s
      | cont e1 h1 => exact False.elim s
      | stuck => exact False.elim s
/-- a loop: what holds ahead of its i-th turn -/
theorem ws_for {it : FI} (I : Nat → Env → Store → Prop) (p : WE (fun c w h => E c w e h) (fun w h1 => ∃ xs, I 0 e h1 ∧ (∀ i e h, I i e h → w.at h = some xs) ∧
    (∀ i x e h, xs[i]? = some x → I i e h → WS (fun e1 h1 => WS (I (i + 1)) R N (I (i + 1)) E (f e1 h1)) noV noE noE E (gt x e h)) ∧ (∀ e h, I xs.length e h → N e h)) (it e h)) : WS N R B C E (fFor it gt f e h) := by
  unfold fFor RS.ofW
  generalize it e h = r at p ⊢
  cases r with
  | ok w h1 =>
    obtain ⟨xs, i0, hw, step, fin⟩ := p
    simp only [hw 0 e h1 i0]
    exact ws_forGo I hw step fin (xs.length + 1) 0 e h1 (by omega) (by omega) i0
  | exc c w h1 => exact p
  | stuck => exact p
/-- try -/
theorem ws_try {hs : List FHd} (p : WS N R B C (fun c w e1 h1 => WS N R B C E (runHs hs c w e1 h1)) (f e h)) : WS N R B C E (fTry f hs e h) := by
  unfold fTry
  generalize f e h = r at p ⊢
  cases r <;> exact p
end
theorem we_yes {X : XT} {QB : Bool → Store → Prop} {e : Env} {h : Store} (p : QB true h) : WE X QB (fYes e h) := p
/-! ### choices -/
theorem wif_t {A B : Prop} {b : Bool} (q : b = true) (p : A) : (b = true → A) ∧ (b = false → B) := ⟨fun _ => p, fun e => by rw [q] at e; cases e⟩
theorem wif_f {A B : Prop} {b : Bool} (q : b = false) (p : B) : (b = true → A) ∧ (b = false → B) := ⟨fun e => (by rw [q] at e; cases e), fun _ => p⟩
theorem wif_d {A B p : Prop} [Decidable p] (t : p → A) (f : ¬p → B) : (decide p = true → A) ∧ (decide p = false → B) := ⟨fun e => t (of_decide_eq_true e), fun e => f (of_decide_eq_false e)⟩
theorem wif_n {A B : Prop} {b : Bool} (p : (b = true → B) ∧ (b = false → A)) : ((!b) = true → A) ∧ ((!b) = false → B) := by
  cases b with
  | true => exact ⟨fun e => (nomatch e), fun _ => p.1 rfl⟩
  | false => exact ⟨fun _ => p.2 rfl, fun e => (nomatch e)⟩
theorem wif_e {A B : Prop} {i j : Int} (t : i = j → A) (f : i ≠ j → B) : ((i == j) = true → A) ∧ ((i == j) = false → B) := ⟨fun e => t (by simpa using e), fun e => f (by simpa using e)⟩
theorem wo_mul {Q : Val → Store → Prop} {i j : Int} {h : Store} (c : cMul i j = true) (p : Q (.int (i * j)) h) : WO Q (oMul (.int i) (.int j) h) := wo_eq (by simp [fSeq, fNext, fIfS, fAsg, gSb, sLst, fRet, fRetN, fSet, fVar, fK, fBin, fUn, fTest, fTru, tru, toB, fB, one, two, bInt, bMax2, bMin2, bLen, oIx, oMod, oFdiv, oAdd, oSub, oMul, oLt, oLe, oGt, oGe, oNeg, oPow, oInt2, fCons, fNil, fTup, fLst, fIf, fCall, fNotT, fAndT, fOrT, fAnd, fOr, fNot, fDrop, RS.ofE, RS.ofB, RS.ofL, RS.only, Fn.R.bind, Fn.R.of, Fn.R.ofB, runF, fCmpN, fChK, fChL, fIsi, tyN, gsCons, gsNil, gNm, gTp, fPar2, fAug, fSl, fNoP, fPt, newL, oAddI, fMake, fStar, items, wipeE, ctSet, fSetF, c]) p
theorem wo_mod {Q : Val → Store → Prop} {i j : Int} {h : Store} (c : 0 < j) (p : Q (.int (i % j)) h) : WO Q (oMod (.int i) (.int j) h) := wo_eq (by simp [fSeq, fNext, fIfS, fAsg, gSb, sLst, fRet, fRetN, fSet, fVar, fK, fBin, fUn, fTest, fTru, tru, toB, fB, one, two, bInt, bMax2, bMin2, bLen, oIx, oMod, oFdiv, oAdd, oSub, oMul, oLt, oLe, oGt, oGe, oNeg, oPow, oInt2, fCons, fNil, fTup, fLst, fIf, fCall, fNotT, fAndT, fOrT, fAnd, fOr, fNot, fDrop, RS.ofE, RS.ofB, RS.ofL, RS.only, Fn.R.bind, Fn.R.of, Fn.R.ofB, runF, fCmpN, fChK, fChL, fIsi, tyN, gsCons, gsNil, gNm, gTp, fPar2, fAug, fSl, fNoP, fPt, newL, oAddI, fMake, fStar, items, wipeE, ctSet, fSetF, c]) p
theorem wo_fdiv {Q : Val → Store → Prop} {i j : Int} {h : Store} (c : cDiv i j = true) (p : Q (.int (i / j)) h) : WO Q (oFdiv (.int i) (.int j) h) := wo_eq (by simp [fSeq, fNext, fIfS, fAsg, gSb, sLst, fRet, fRetN, fSet, fVar, fK, fBin, fUn, fTest, fTru, tru, toB, fB, one, two, bInt, bMax2, bMin2, bLen, oIx, oMod, oFdiv, oAdd, oSub, oMul, oLt, oLe, oGt, oGe, oNeg, oPow, oInt2, fCons, fNil, fTup, fLst, fIf, fCall, fNotT, fAndT, fOrT, fAnd, fOr, fNot, fDrop, RS.ofE, RS.ofB, RS.ofL, RS.only, Fn.R.bind, Fn.R.of, Fn.R.ofB, runF, fCmpN, fChK, fChL, fIsi, tyN, gsCons, gsNil, gNm, gTp, fPar2, fAug, fSl, fNoP, fPt, newL, oAddI, fMake, fStar, items, wipeE, ctSet, fSetF, c]) p
theorem wo_gcd {Q : Val → Store → Prop} {i j : Int} {h : Store} (p : Q (.int ((Nat.gcd i.natAbs j.natAbs : Nat) : Int)) h) : WO Q (bGcd (.int i) (.int j) h) := p
theorem wo_min2 {Q : Val → Store → Prop} {i j : Int} {h : Store} (p : Q (.int (if j < i then j else i)) h) : WO Q (bMin2 (.int i) (.int j) h) := p
section
variable {Q : Val → Store → Prop} {i j : Int} {h : Store}
theorem wo_add (p : Q (.int (i + j)) h) : WO Q (oAdd (.int i) (.int j) h) := p
theorem wo_sub (p : Q (.int (i - j)) h) : WO Q (oSub (.int i) (.int j) h) := p
theorem wo_neg (p : Q (.int (-i)) h) : WO Q (oNeg (.int i) h) := p
theorem wo_lt (p : Q (.bl (decide (i < j))) h) : WO Q (oLt (.int i) (.int j) h) := p
theorem wo_le (p : Q (.bl (decide (i ≤ j))) h) : WO Q (oLe (.int i) (.int j) h) := p
theorem wo_gt (p : Q (.bl (decide (i > j))) h) : WO Q (oGt (.int i) (.int j) h) := p
theorem wo_ge (p : Q (.bl (decide (i ≥ j))) h) : WO Q (oGe (.int i) (.int j) h) := p
theorem wo_int (p : Q (.int i) h) : WO Q (bInt (.int i) h) := p
theorem wo_addI (p : Q (.int (i + j)) h) : WO Q (oAddI (.int i) (.int j) h) := p
theorem wo_subI (p : Q (.int (i - j)) h) : WO Q (oSubI (.int i) (.int j) h) := p
theorem wo_isN {x : Val} (p : Q (.bl (isNon x)) h) : WO Q (oIsN x .non h) := p
theorem wo_notN {x : Val} (p : Q (.bl (!isNon x)) h) : WO Q (oNotN x .non h) := p
end
theorem wo_ixL {Q : Val → Store → Prop} {l : Nat} {xs : List Val} {i : Int} {x : Val} {h : Store} (q : h[l]? = some (.lst xs)) (e : L2.atI xs i = some x) (p : Q x h) : WO Q (oIx (.loc l) (.int i) h) := wo_eq (by simp only [oIx, q, e, Option.map_some]) p
theorem wo_catL {Q : Val → Store → Prop} {i j : Nat} {xs ys : List Val} {h : Store} (e1 : h[i]? = some (.lst xs)) (e2 : h[j]? = some (.lst ys)) (r : xs.length + ys.length < 16000000) (p : Q (.loc h.length) (h ++ [.lst (xs ++ ys)])) : WO Q (oAdd (.loc i) (.loc j) h) := by
  have hf : fits (xs.length + ys.length) = true := by
    unfold fits
    exact Nat.ble_eq_true_of_le (by omega)
  refine wo_eq ?_ p
  simp only [oAdd, e1, e2, hf, if_true]
theorem seqW_of {h : Store} {l : Nat} {xs : List Val} (e : h[l]? = some (.lst xs)) : seqW h (.loc l) = some (.live l) := by
  simp only [seqW, e]
theorem live_of {h : Store} {l : Nat} {xs : List Val} (e : h[l]? = some (.lst xs)) : (Walk.live l).at h = some xs := by
  simp only [Walk.at, e]
theorem and_len {xs : List Val} {n : Nat} {A : Prop} (l : xs.length = n) (p : A) : xs.length = n ∧ A := ⟨l, p⟩
theorem and_len2 {xs ys : List Val} {n m : Nat} {A : Prop} (l : xs.length = n) (k : ys.length = m) (p : A) : (xs.length = n ∧ ys.length = m) ∧ A := ⟨⟨l, k⟩, p⟩
theorem and_fits {xs : List Val} {A : Prop} (l : fits xs.length = true) (p : A) : fits xs.length = true ∧ A := ⟨l, p⟩
end Fn
end
local macro_rules
  | `(tactic| walk_at "fn_wstepS") => `(tactic| first
  | (with_reducible refine ws_set ?_)
  | ((with_reducible refine we_var (x := ?_) ?_ ?_); rotate_left; exact rfl)
  | (with_reducible refine we_K ?_)
  | (with_reducible refine we_bin ?_)
  | (with_reducible refine we_un ?_)
  | (with_reducible refine we_cons ?_)
  | (with_reducible refine we_nil ?_)
  | (with_reducible refine we_test ?_)
  | (with_reducible refine we_notT ?_)
  | (with_reducible refine we_andT ?_)
  | (with_reducible refine we_orT ?_)
  | (with_reducible refine we_tru ?_)
  | (with_reducible refine we_and ?_)
  | (with_reducible refine we_or ?_)
  | (with_reducible refine we_not ?_)
  | (with_reducible refine we_if ?_)
  | (with_reducible refine we_tup ?_)
  | (with_reducible refine we_lst ?_)
  | (with_reducible refine we_call ?_)
  | (with_reducible refine we_callK ?_)
  | (with_reducible refine we_callD ?_)
  | (with_reducible refine we_B ?_)
  | (with_reducible refine wo_one ?_)
  | (with_reducible refine wo_two ?_)
  | (with_reducible refine we_M ?_)
  | (with_reducible refine we_M0 ?_)
  | (with_reducible refine we_cmpN ?_)
  | (with_reducible refine we_chL ?_)
  | (with_reducible refine we_chK ?_)
  | (with_reducible refine we_what ?_)
  | (with_reducible refine we_rg1 ?_)
  | (with_reducible refine we_rg2 ?_)
  | (with_reducible refine we_seq ?_)
  | (with_reducible refine we_rev ?_)
  | (with_reducible refine we_yes ?_)
  | (with_reducible refine ws_if ?_)
  | (with_reducible refine ws_ret ?_)
  | (with_reducible refine ws_drop ?_)
  | (with_reducible refine ws_next ?_)
  | (with_reducible refine ws_retN ?_)
  | (with_reducible refine ws_brk ?_)
  | (with_reducible refine ws_cont ?_)
  | (with_reducible refine ws_raise ?_)
  | (with_reducible refine ws_asg ?_)
  | (with_reducible refine ws_par2 ?_)
  | (with_reducible refine ws_par3 ?_)
  | ((with_reducible refine ws_aug (x := ?_) ?_ ?_); rotate_left; exact rfl)
  | (with_reducible refine wg_nm ?_)
  | (with_reducible refine wg_nil ?_)
  | (with_reducible refine wg_cons ?_)
  | ((with_reducible refine wg_tp ?_ ?_); exact rfl)
  | (with_reducible refine wg_sb ?_)
  | (with_reducible refine ws_try ?_)
  | (with_reducible refine wo_eq oEq_int ?_)
  | (with_reducible refine wo_eq oNe_int ?_)
  | (with_reducible refine wo_gcd ?_)
  | (with_reducible refine wo_min2 ?_)
  | (with_reducible refine wo_mod (by first | omega | assumption | decide) ?_)
  | (with_reducible refine wo_mul (by first | assumption | (exact cMul_l (by first | decide | omega))) ?_)
  | (with_reducible refine wo_add ?_)
  | (with_reducible refine wo_isN ?_)
  | (with_reducible refine wo_notN ?_)
  | ((with_reducible refine wo_eq (r := oAdd (.tup _) (.tup _) _) (z := ?_) (h := ?_) ?_ ?_); rotate_left; rotate_left; exact rfl)
  | (with_reducible refine wo_sub ?_)
  | (with_reducible refine wo_neg ?_)
  | (with_reducible refine wo_lt ?_)
  | (with_reducible refine wo_le ?_)
  | (with_reducible refine wo_gt ?_)
  | (with_reducible refine wo_ge ?_)
  | (with_reducible refine wo_int ?_)
  | (with_reducible refine wo_addI ?_)
  | (with_reducible refine wo_subI ?_)
  | ((with_reducible refine and_len ?_ ?_); exact rfl)
  | ((with_reducible refine and_len2 ?_ ?_ ?_); exact rfl; exact rfl)
  | ((with_reducible refine and_fits ?_ ?_); exact rfl)
  | (with_reducible refine Exists.intro _ (And.intro rfl ?_))
  | (with_reducible refine Exists.intro _ (Exists.intro _ (And.intro rfl ?_)))
  | (with_reducible refine Exists.intro _ (Exists.intro _ (Exists.intro _ (And.intro rfl ?_))))
  | (with_reducible refine wif_n ?_))
local macro_rules
  | `(tactic| walk_at "fn_wstepO") => `(tactic| first
  | (with_reducible refine ws_seq ?_)
  | walk_at "fn_wstepS")
local macro_rules
  | `(tactic| walk_at "fn_wgo") => `(tactic| repeat walk_at "fn_wstepO")
local macro_rules
  | `(tactic| walk_at "fn_wst") => `(tactic| repeat walk_at "fn_wstepS")
section
namespace Fn
open PySem PySem.Spec
/-! ## numbers: choose, bags, powers, measure, divisors -/
def chooseF (cc : Nat) : FF := runF 2 (fSeq (fIfS (fTest (fBin oLt (fVar 0) (fK (.int (0))))) (fRaise cc (fVar 0)) fNext)
  (fSeq (fIfS (fNotT (fTest (fCmpN (fK (.int (0))) (fChK oLe (fVar 1) (fChL oLe (fK (.int (400)))))))) (fRaise cc (fVar 1)) fNext)
  (fRet (fB (two bComb) (fCons (fVar 0) (fCons (fVar 1) fNil))))))
def bagsF (cc : Nat) : FF := runF 2 (fSeq (fIfS (fTest (fBin oLt (fVar 0) (fK (.int (0))))) (fRaise cc (fVar 0)) fNext)
  (fSeq (fIfS (fTest (fBin oLt (fVar 1) (fK (.int (0))))) (fRaise cc (fVar 1)) fNext)
  (fSeq (fIfS (fAndT (fTest (fBin oGt (fVar 0) (fK (.int (400))))) (fTest (fBin oGt (fVar 1) (fK (.int (60)))))) (fRaise cc (fVar 0)) fNext)
  (fSeq (fIfS (fTest (fBin oEq (fVar 0) (fK (.int (0))))) (fRet (fIf (fTest (fBin oEq (fVar 1) (fK (.int (0))))) (fK (.int (1))) (fK (.int (0))))) fNext)
  (fRet (fCall (chooseF cc) 2 (fCons (fBin oAdd (fBin oSub (fVar 0) (fK (.int (1)))) (fVar 1)) (fCons (fB (two bMin2) (fCons (fBin oSub (fVar 0) (fK (.int (1)))) (fCons (fVar 1) fNil))) fNil))))))))
theorem wo_comb {Q : Val → Store → Prop} {i j : Int} {h : Store} (c : combB i j = true) (p : Q (.int (PySem.W.mcComb i j)) h) : WO Q (bComb (.int i) (.int j) h) := wo_eq (by simp [fSeq, fNext, fIfS, fAsg, gSb, sLst, fRet, fRetN, fSet, fVar, fK, fBin, fUn, fTest, fTru, tru, toB, fB, one, two, bInt, bMax2, bMin2, bLen, oIx, oMod, oFdiv, oAdd, oSub, oMul, oLt, oLe, oGt, oGe, oNeg, oPow, oInt2, fCons, fNil, fTup, fLst, fIf, fCall, fNotT, fAndT, fOrT, fAnd, fOr, fNot, fDrop, RS.ofE, RS.ofB, RS.ofL, RS.only, Fn.R.bind, Fn.R.of, Fn.R.ofB, runF, fCmpN, fChK, fChL, fIsi, tyN, gsCons, gsNil, gNm, gTp, fPar2, fAug, fSl, fNoP, fPt, newL, oAddI, fMake, fStar, items, wipeE, ctSet, fSetF, bComb, c]) p
/-- choose, where it is let -/
theorem choose_ok {cc : Nat} {a b : Int} {h : Store} (a0 : 0 ≤ a) (a1 : a < 18446744073709551616) (b0 : 0 ≤ b) (b1 : b ≤ 400) : chooseF cc [.int a, .int b] h = .ok (.int (PySem.W.mcComb a b)) h := by
  have q : WE noX (fun x h1 => x = .int (PySem.W.mcComb a b) ∧ h1 = h) (chooseF cc [.int a, .int b] h) := by
    refine we_run ?_
    walk_at "fn_wgo"
    refine wif_d (fun z => by omega) fun _ => ?_
    walk_at "fn_wgo"
    refine wif_t (decide_eq_true b0) ?_
    walk_at "fn_wgo"
    refine wif_d (fun _ => ?_) fun z => absurd b1 z
    walk_at "fn_wgo"
    refine wo_comb ?_ ⟨rfl, rfl⟩
    unfold combB
    simp only [Bool.and_eq_true, Bool.or_eq_true, decide_eq_true_eq]
    omega
  obtain ⟨x, h1, e, rfl, rfl⟩ := q.get
  exact e
/-- bags -/
def bagsI (k m : Int) : Int := if k = 0 then (if m = 0 then 1 else 0) else PySem.W.mcComb (k - 1 + m) (if m < k - 1 then m else k - 1)
theorem bags_ok {cc : Nat} {k m : Int} {h : Store} (k0 : 0 ≤ k) (k1 : k < 9223372036854775808) (m0 : 0 ≤ m) (m1 : m < 9223372036854775808) (hs : k ≤ 400 ∨ m ≤ 60) : bagsF cc [.int k, .int m] h = .ok (.int (bagsI k m)) h := by
  have q : WE noX (fun x h1 => x = .int (bagsI k m) ∧ h1 = h) (bagsF cc [.int k, .int m] h) := by
    refine we_run ?_
    walk_at "fn_wgo"
    refine wif_d (fun z => by omega) fun _ => ?_
    walk_at "fn_wgo"
    refine wif_d (fun z => by omega) fun _ => ?_
    walk_at "fn_wgo"
    refine wif_d (fun z => ?_) fun z => ?_
    · walk_at "fn_wgo"
      refine wif_d (fun z => by omega) fun _ => ?_
      walk_at "fn_wgo"
      refine wif_e (fun z => by omega) fun z => ?_
      walk_at "fn_wgo"
      refine we_eq (choose_ok ?_ ?_ ?_ ?_) ?_
      all_goals first | (refine ⟨?_, rfl⟩; unfold bagsI; rw [if_neg z]) | skip
      all_goals first | omega | (split <;> omega)
    · walk_at "fn_wgo"
      refine wif_f rfl ?_
      walk_at "fn_wgo"
      refine wif_e (fun z => ?_) fun z => ?_
      · walk_at "fn_wgo"
        refine wif_e (fun y => ?_) fun y => ?_
        · walk_at "fn_wgo"
          subst z y
          exact ⟨rfl, rfl⟩
        · walk_at "fn_wgo"
          refine ⟨?_, rfl⟩
          unfold bagsI
          rw [if_pos z, if_neg y]
      · walk_at "fn_wgo"
        refine we_eq (choose_ok ?_ ?_ ?_ ?_) ?_
        all_goals first | (refine ⟨?_, rfl⟩; unfold bagsI; rw [if_neg z]) | skip
        all_goals first | omega | (split <;> omega)
  obtain ⟨x, h1, e, rfl, rfl⟩ := q.get
  exact e
/-! ### divisors -/
def rg2I : Int → Nat → List Int
  | _, 0 => []
  | i, n + 1 => i :: rg2I (i + 1) n
end Fn
end
section
namespace Fn
open PySem PySem.Spec
/-! ## k30: factorials, choices, products that rise -/
def fac : Nat → Nat
  | 0 => 1
  | n + 1 => fac n * (n + 1)
theorem fac_pos : ∀ n, 0 < fac n
  | 0 => Nat.one_pos
  | n + 1 => Nat.mul_pos (fac_pos n) (Nat.succ_pos n)
def chs : Nat → Nat → Nat
  | _, 0 => 1
  | 0, _ + 1 => 0
  | n + 1, k + 1 => chs n k + chs n (k + 1)
theorem chs_zero (n : Nat) : chs n 0 = 1 := by cases n <;> rfl
theorem chs_above : ∀ n k, n < k → chs n k = 0
  | 0, k + 1, _ => rfl
  | n + 1, k + 1, h => by
    unfold chs
    rw [chs_above n k (by omega), chs_above n (k + 1) (by omega)]
theorem chs_self : ∀ n, chs n n = 1
  | 0 => rfl
  | n + 1 => by
    unfold chs
    rw [chs_self n, chs_above n (n + 1) (by omega)]
theorem chs_fac : ∀ s m n, m + n = s → chs s m * (fac m * fac n) = fac s
  | 0, m, n, h => by
    obtain rfl : m = 0 := by omega
    obtain rfl : n = 0 := by omega
    rfl
  | s + 1, 0, n, h => by
    obtain rfl : n = s + 1 := by omega
    rw [chs_zero, Nat.one_mul]
    show 1 * fac (s + 1) = _
    rw [Nat.one_mul]
  | s + 1, m + 1, 0, h => by
    obtain rfl : m = s := by omega
    rw [chs_self, Nat.one_mul]
    show fac (m + 1) * 1 = _
    rw [Nat.mul_one]
  | s + 1, m + 1, n + 1, h => by
    have h1 := chs_fac s m (n + 1) (by omega)
    have h2 := chs_fac s (m + 1) n (by omega)
    have e : chs (s + 1) (m + 1) = chs s m + chs s (m + 1) := rfl
    rw [e, Nat.add_mul]
    have e1 : chs s m * (fac (m + 1) * fac (n + 1)) = fac s * (m + 1) := by
      rw [← h1]
      show chs s m * (fac m * (m + 1) * fac (n + 1)) = chs s m * (fac m * fac (n + 1)) * (m + 1)
      simp only [Nat.mul_assoc, Nat.mul_comm, Nat.mul_left_comm]
    have e2 : chs s (m + 1) * (fac (m + 1) * fac (n + 1)) = fac s * (n + 1) := by
      rw [← h2]
      show chs s (m + 1) * (fac (m + 1) * (fac n * (n + 1))) = chs s (m + 1) * (fac (m + 1) * fac n) * (n + 1)
      simp only [Nat.mul_assoc]
    rw [e1, e2, ← Nat.mul_add]
    show fac s * (m + 1 + (n + 1)) = fac s * (s + 1)
    rw [show m + 1 + (n + 1) = s + 1 by omega]
theorem chs_sym (p q : Nat) : chs (p + q) p = chs (p + q) q := by
  have h1 := chs_fac (p + q) p q rfl
  have h2 := chs_fac (p + q) q p (by omega)
  rw [Nat.mul_comm (fac q)] at h2
  exact Nat.eq_of_mul_eq_mul_right (Nat.mul_pos (fac_pos p) (fac_pos q)) (h1.trans h2.symm)
/-! ### falling, rising -/
def fallZ (a : Int) : Nat → Int
  | 0 => 1
  | k + 1 => fallZ a k * (a - k)
theorem fallZ_eq (a : Int) : ∀ k, Builtin.Math.fallingProduct a k = fallZ a k
  | 0 => rfl
  | k + 1 => by
    have ih := fallZ_eq a k
    unfold Builtin.Math.fallingProduct at ih ⊢
    rw [List.range_succ, List.foldl_append, ih]
    rfl
theorem fall_fac (n : Nat) : ∀ m n : Nat, fallZ ((m + n : Nat) : Int) m * (fac n : Int) = (fac (m + n) : Int)
  | 0, n => by
    rw [Nat.zero_add]
    show (1 : Int) * _ = _
    rw [Int.one_mul]
  | m + 1, n => by
    have ih := fall_fac n m (n + 1)
    have e : m + 1 + n = m + (n + 1) := by omega
    rw [e]
    show fallZ _ m * (((m + (n + 1) : Nat) : Int) - (m : Int)) * _ = _
    rw [← ih]
    have e2 : ((m + (n + 1) : Nat) : Int) - (m : Int) = ((n + 1 : Nat) : Int) := by omega
    rw [e2]
    have e3 : (fac (n + 1) : Int) = (fac n : Int) * ((n + 1 : Nat) : Int) := by
      show ((fac n * (n + 1) : Nat) : Int) = _
      rw [Int.natCast_mul]
    rw [e3, Int.mul_assoc, Int.mul_comm (((n + 1 : Nat)) : Int)]
theorem fac_ne (n : Nat) : (fac n : Int) ≠ 0 := by have := fac_pos n; omega
theorem fall_self (m : Nat) : fallZ (m : Int) m = (fac m : Int) := by
  have h := fall_fac 0 m 0
  rw [Nat.add_zero] at h
  have e : (fac 0 : Int) = 1 := rfl
  rw [e, Int.mul_one] at h
  exact h
theorem fall_chs (m n : Nat) : fallZ ((m + n : Nat) : Int) m = (chs (m + n) m : Int) * (fac m : Int) := by
  have h1 := fall_fac 0 m n
  have h2 := chs_fac (m + n) m n rfl
  have h3 : (chs (m + n) m : Int) * (fac m : Int) * (fac n : Int) = (fac (m + n) : Int) := by
    rw [← h2, Int.natCast_mul, Int.natCast_mul, Int.mul_assoc]
  exact Int.eq_of_mul_eq_mul_right (fac_ne n) (h1.trans h3.symm)
/-! ### what comb tells -/
theorem comb_chs {p q : Nat} (h : q ≤ p) : PySem.W.mcComb ((q + p : Nat) : Int) (q : Int) = (chs (q + p) q : Int) := by
  rw [PySem.W.mcComb_at (m := (q : Int)) (by omega) (by omega) (by omega), fallZ_eq, fallZ_eq, Int.toNat_natCast, fall_self, fall_chs]
  exact Int.mul_ediv_cancel _ (fac_ne q)
/-! ### how great -/
end Fn
end
section
namespace Fn
open PySem PySem.Spec
/-! ## partings, their ways, what the alternating sums of powers say -/
def downI : Nat → List Int
  | 0 => []
  | n + 1 => ((n + 1 : Nat) : Int) :: downI n
def partsF : Nat → Int → Int → List (List Int)
  | 0, _, _ => []
  | n + 1, t, g => if t = 0 then [[]] else (downI (if g < t then g else t).toNat).flatMap fun a => (partsF n (t - a) a).map (a :: ·)
def waysI (p : List Int) : Int := (sset p).foldl (fun w x => w / (fac (p.count x) : Int)) (p.foldl (fun w x => w / (fac x.toNat : Int)) (fac p.sum.toNat : Int))
def signI (m : Nat) : Int := if m % 2 = 1 then (fac (m - 1) : Int) else -(fac (m - 1) : Int)
end Fn
end
section
namespace Fn
open PySem PySem.Spec
/-! ### sums over a table -/
/-! ### bags by their factors -/
end Fn
end
section
namespace Fn
open PySem PySem.Spec
/-! ## rows of a lot, counted -/
/-! ### lot_ledgers -/
end Fn
end
section
namespace Fn
open PySem PySem.Spec
/-! ## the rows, listed by the law itself -/
theorem lt_get' {α : Type} {g : List α} {i : Nat} {o : α} (e : g[i]? = some o) : i < g.length := (List.getElem?_eq_some_iff.mp e).1
/-! ### _law_rows -/
end Fn
end
section
namespace Fn
open PySem PySem.Spec
/-! ## data that equals itself -/
/-! ## more steps -/
section
variable {X : XT} {Q : Val → Store → Prop} {e : Env} {h : Store} {f : FE}
theorem we_isii (p : WE X (fun x h1 => ∃ i, x = .int i ∧ Q (.bl true) h1) (f e h)) : WE X Q (fIsi "int" f e h) := we_isi (p.mono fun x h1 ⟨i, a, q⟩ => by subst a; exact ⟨_, _, rfl, kit_ii, q⟩)
theorem we_isib (p : WE X (fun x h1 => ∃ i, x = .int i ∧ Q (.bl false) h1) (f e h)) : WE X Q (fIsi "bool" f e h) := we_isi (p.mono fun x h1 ⟨i, a, q⟩ => by subst a; exact ⟨_, _, rfl, kit_ib, q⟩)
theorem wo_pow {i j : Int} (c : cPow i j = true) (p : Q (.int (i ^ j.toNat)) h) : WO Q (oPow (.int i) (.int j) h) := wo_eq (by simp [fSeq, fNext, fIfS, fAsg, gSb, sLst, fRet, fRetN, fSet, fVar, fK, fBin, fUn, fTest, fTru, tru, toB, fB, one, two, bInt, bMax2, bMin2, bLen, oIx, oMod, oFdiv, oAdd, oSub, oMul, oLt, oLe, oGt, oGe, oNeg, oPow, oInt2, fCons, fNil, fTup, fLst, fIf, fCall, fNotT, fAndT, fOrT, fAnd, fOr, fNot, fDrop, RS.ofE, RS.ofB, RS.ofL, RS.only, Fn.R.bind, Fn.R.of, Fn.R.ofB, runF, fCmpN, fChK, fChL, fIsi, tyN, gsCons, gsNil, gNm, gTp, fPar2, fAug, fSl, fNoP, fPt, newL, oAddI, fMake, fStar, items, wipeE, ctSet, fSetF, c]) p
theorem wo_pow9 (p : Q (.int 1000000000) h) : WO Q (oPow (.int 10) (.int 9) h) := wo_pow (by decide +kernel) p
end
end Fn
end
section
namespace Fn
open PySem PySem.Spec
/-! ## counts -/
theorem getB_set (t : List Int) (c : Int) (u : List Int) (B : Bag) : getB (setB B t c) u = if u = t then some c else getB B u := by
  have app : ∀ B : Bag, getB (B ++ [(t, c)]) u = match getB B u with
    | some x => some x
    | none => if t = u then some c else none := by
    intro B
    induction B with
    | nil => rfl
    | cons p r ih =>
      rw [List.cons_append, getB, getB]
      by_cases e : p.1 = u
      · rw [if_pos e, if_pos e]
      · rw [if_neg e, if_neg e]
        exact ih
  have mp : ∀ B : Bag, hasB B t = true → getB (B.map fun p => if p.1 = t then (p.1, c) else p) u = if u = t then some c else getB B u := by
    intro B
    induction B with
    | nil => intro z; cases z
    | cons p r ih =>
      intro z
      rw [List.map_cons, getB, getB]
      by_cases e : p.1 = t
      · rw [if_pos e]
        by_cases eu : u = t
        · subst eu
          rw [if_pos e, if_pos rfl]
        · rw [if_neg eu]
          have hpu : ¬ p.1 = u := fun z => eu (by rw [← z, e])
          rw [if_neg hpu, if_neg hpu]
          by_cases hh : hasB r t = true
          · rw [ih hh, if_neg eu]
          · have : (r.map fun p => if p.1 = t then (p.1, c) else p) = r := by
              conv => rhs; rw [← List.map_id r]
              apply List.map_congr_left
              intro q hq
              rw [if_neg (fun z => hh ((hasB_mem t r).mpr (by rw [← z]; exact List.mem_map.mpr ⟨q, hq, rfl⟩)))]
              rfl
            rw [this]
      · rw [if_neg e]
        have hh : hasB r t = true := by
          unfold hasB at z ⊢
          rw [List.any_cons, decide_eq_false e, Bool.false_or] at z
          exact z
        by_cases eu : u = t
        · have hpu : ¬ p.1 = u := fun z => e (by rw [z, eu])
          rw [if_neg hpu, ih hh]
          rw [if_pos eu, if_pos eu]
        · by_cases hpu : p.1 = u
          · rw [if_pos hpu, if_pos hpu, if_neg eu]
          · rw [if_neg hpu, if_neg hpu, ih hh]
  unfold setB
  by_cases h : hasB B t = true
  · rw [if_pos h, mp B h]
  · rw [if_neg h, app B]
    have hn : t ∉ B.map (·.1) := fun z => h ((hasB_mem t B).mpr z)
    by_cases eu : u = t
    · subst eu
      rw [getB_none u B hn, if_pos rfl]
    · rw [if_neg eu, if_neg (fun z => eu z.symm)]
      cases getB B u <;> rfl
theorem cnt_set (B : Bag) (t : List Int) (c : Int) (u : List Int) : cnt (setB B t c) u = if u = t then c else cnt B u := by
  unfold cnt
  rw [getB_set]
  by_cases e : u = t
  · rw [if_pos e, if_pos e]; rfl
  · rw [if_neg e, if_neg e]
def addB (B : Bag) (t : List Int) (c : Int) : Bag := setB B t (cnt B t + c)
theorem cnt_add (B : Bag) (t : List Int) (c : Int) (u : List Int) : cnt (addB B t c) u = cnt B u + (if u = t then c else 0) := by
  unfold addB
  rw [cnt_set]
  by_cases e : u = t
  · rw [if_pos e, if_pos e, e]
  · rw [if_neg e, if_neg e]; omega
structure Bs (B : Bag) (k : Nat) : Prop where
  nd : (B.map (·.1)).Nodup
  four : ∀ t ∈ B.map (·.1), t.length = 4
  len : B.length ≤ k
theorem Bs.nil (k : Nat) : Bs [] k := ⟨List.nodup_nil, fun t h => by simp [fSeq, fNext, fIfS, fAsg, gSb, sLst, fRet, fRetN, fSet, fVar, fK, fBin, fUn, fTest, fTru, tru, toB, fB, one, two, bInt, bMax2, bMin2, bLen, oIx, oMod, oFdiv, oAdd, oSub, oMul, oLt, oLe, oGt, oGe, oNeg, oPow, oInt2, fCons, fNil, fTup, fLst, fIf, fCall, fNotT, fAndT, fOrT, fAnd, fOr, fNot, fDrop, RS.ofE, RS.ofB, RS.ofL, RS.only, Fn.R.bind, Fn.R.of, Fn.R.ofB, runF, fCmpN, fChK, fChL, fIsi, tyN, gsCons, gsNil, gNm, gTp, fPar2, fAug, fSl, fNoP, fPt, newL, oAddI, fMake, fStar, items, wipeE, ctSet, fSetF] at h, by simp [fSeq, fNext, fIfS, fAsg, gSb, sLst, fRet, fRetN, fSet, fVar, fK, fBin, fUn, fTest, fTru, tru, toB, fB, one, two, bInt, bMax2, bMin2, bLen, oIx, oMod, oFdiv, oAdd, oSub, oMul, oLt, oLe, oGt, oGe, oNeg, oPow, oInt2, fCons, fNil, fTup, fLst, fIf, fCall, fNotT, fAndT, fOrT, fAnd, fOr, fNot, fDrop, RS.ofE, RS.ofB, RS.ofL, RS.only, Fn.R.bind, Fn.R.of, Fn.R.ofB, runF, fCmpN, fChK, fChL, fIsi, tyN, gsCons, gsNil, gNm, gTp, fPar2, fAug, fSl, fNoP, fPt, newL, oAddI, fMake, fStar, items, wipeE, ctSet, fSetF]⟩
theorem Bs.set {B : Bag} {k : Nat} (b : Bs B k) {t : List Int} (ht : t.length = 4) (c : Int) : Bs (setB B t c) (k + 1) := by
  have hk := setB_keys B t c
  refine ⟨?_, ?_, ?_⟩
  · rw [hk]
    by_cases h : hasB B t = true
    · rw [if_pos h]; exact b.nd
    · rw [if_neg h]
      have hn : t ∉ B.map (·.1) := fun z => h ((hasB_mem t B).mpr z)
      rw [List.nodup_append]
      refine ⟨b.nd, by simp [fSeq, fNext, fIfS, fAsg, gSb, sLst, fRet, fRetN, fSet, fVar, fK, fBin, fUn, fTest, fTru, tru, toB, fB, one, two, bInt, bMax2, bMin2, bLen, oIx, oMod, oFdiv, oAdd, oSub, oMul, oLt, oLe, oGt, oGe, oNeg, oPow, oInt2, fCons, fNil, fTup, fLst, fIf, fCall, fNotT, fAndT, fOrT, fAnd, fOr, fNot, fDrop, RS.ofE, RS.ofB, RS.ofL, RS.only, Fn.R.bind, Fn.R.of, Fn.R.ofB, runF, fCmpN, fChK, fChL, fIsi, tyN, gsCons, gsNil, gNm, gTp, fPar2, fAug, fSl, fNoP, fPt, newL, oAddI, fMake, fStar, items, wipeE, ctSet, fSetF], fun x hx y hy => ?_⟩
      simp only [List.mem_singleton] at hy
      subst hy
      exact fun z => hn (by rw [← z]; exact hx)
  · intro u hu
    rw [hk] at hu
    by_cases h : hasB B t = true
    · rw [if_pos h] at hu; exact b.four u hu
    · rw [if_neg h, List.mem_append] at hu
      rcases hu with hu | hu
      · exact b.four u hu
      · simp only [List.mem_singleton] at hu
        subst hu
        exact ht
  · have := b.len
    unfold setB
    by_cases h : hasB B t = true
    · rw [if_pos h, List.length_map]; omega
    · rw [if_neg h, List.length_append]; simp [fSeq, fNext, fIfS, fAsg, gSb, sLst, fRet, fRetN, fSet, fVar, fK, fBin, fUn, fTest, fTru, tru, toB, fB, one, two, bInt, bMax2, bMin2, bLen, oIx, oMod, oFdiv, oAdd, oSub, oMul, oLt, oLe, oGt, oGe, oNeg, oPow, oInt2, fCons, fNil, fTup, fLst, fIf, fCall, fNotT, fAndT, fOrT, fAnd, fOr, fNot, fDrop, RS.ofE, RS.ofB, RS.ofL, RS.only, Fn.R.bind, Fn.R.of, Fn.R.ofB, runF, fCmpN, fChK, fChL, fIsi, tyN, gsCons, gsNil, gNm, gTp, fPar2, fAug, fSl, fNoP, fPt, newL, oAddI, fMake, fStar, items, wipeE, ctSet, fSetF]; omega
theorem Bs.add {B : Bag} {k : Nat} (b : Bs B k) {t : List Int} (ht : t.length = 4) (c : Int) : Bs (addB B t c) (k + 1) := b.set ht _
/-! ## a comprehension, by an invariant -/
/-! ## threads, places, coats -/
/-- all but s and d stand -/
structure Kq (s d : Nat) (h h' : Store) : Prop where
  src : Src h' s
  keep : ∀ i o, i ≠ s → i ≠ d → h[i]? = some o → h'[i]? = some o
theorem Kp.q {s d : Nat} {h h' : Store} (a : Kp s h h') : Kq s d h h' := ⟨a.src, fun i o n _ e => a.keep i o n e⟩
theorem Kq.trans {s d : Nat} {h h1 h2 : Store} (a : Kq s d h h1) (b : Kq s d h1 h2) : Kq s d h h2 := ⟨b.src, fun i o n m e => b.keep i o n m (a.keep i o n m e)⟩
theorem Kq.set {s d : Nat} {h h1 : Store} (a : Kq s d h h1) (n : d ≠ s) (o : Ob) : Kq s d h (h1.set d o) := by
  obtain ⟨x, y, e, r⟩ := a.src
  exact ⟨⟨x, y, by rw [List.getElem?_set_ne n]; exact e, r⟩, fun i o n1 n2 q => by rw [List.getElem?_set_ne (Ne.symm n2)]; exact a.keep i o n1 n2 q⟩
structure Bg (B : Bag) (k : Nat) : Prop extends Bs B k where
  nn : ∀ t, 0 ≤ cnt B t
  ub : ∀ t, cnt B t ≤ 3 * k
theorem Bg.nil (k : Nat) : Bg [] k := ⟨Bs.nil k, fun t => Int.le_refl 0, fun t => by show (0 : Int) ≤ 3 * k; omega⟩
theorem Bg.add {B : Bag} {k : Nat} (b : Bg B k) {t : List Int} (ht : t.length = 4) {c : Int} (c0 : 0 ≤ c) (c1 : c ≤ 3) : Bg (addB B t c) (k + 1) := ⟨b.toBs.add ht c, fun u => by
  rw [cnt_add]
  have := b.nn u
  split <;> omega, fun u => by
  rw [cnt_add]
  have := b.ub u
  split <;> omega⟩
end Fn
end
section
namespace Fn
open PySem PySem.Spec L2
/-! ## bags: a kind taken away -/
end Fn
end
section
namespace Fn
open PySem PySem.Spec L2
/-! ## more steps: slices, stars, instances, dicts of tuples -/
section
variable {X : XT} {Q : Val → Store → Prop} {QL : List Val → Store → Prop} {QW : Walk → Store → Prop} {QO : Option Int → Store → Prop} {e : Env} {h : Store} {f fe fo fi fv : FE} {fs : FA} {fl fh : FO}
theorem we_sl (p : WE X (fun x h1 => WE X (fun lo h2 => WE X (fun hi h3 => WO Q (oSl x lo hi h3)) (fh e h2)) (fl e h1)) (fe e h)) : WE X Q (fSl fe fl fh e h) := we_bind (p.mono fun _ _ p => we_bind (p.mono fun _ _ p => we_bind (p.mono fun _ _ p => we_of p)))
theorem we_noP (p : QO none h) : WE X QO (fNoP e h) := p
theorem we_pt (p : WE X (fun x h1 => ∃ i, x = .int i ∧ QO (some i) h1) (f e h)) : WE X QO (fPt f e h) := we_bind (p.mono fun x h1 ⟨i, a, q⟩ => by subst a; exact q)
theorem wo_slT {xs : List Val} {lo hi : Option Int} (p : Q (.tup (cutE xs lo hi)) h) : WO Q (oSl (.tup xs) lo hi h) := p
theorem we_star (p : WE X (fun x h1 => ∃ xs, items h1 x = some xs ∧ WE X (fun ys h2 => QL (xs ++ ys) h2) (fs e h1)) (f e h)) : WE X QL (fStar f fs e h) := we_bind (p.mono fun x h1 ⟨xs, a, q⟩ => by rw [a]; exact we_bind q)
theorem we_enT (p : WE X (fun xs h1 => ∃ ys, xs = [.tup ys] ∧ QW (.vals (enumV 0 ys)) h1) (fs e h)) : WE X QW (iEnT fs e h) := we_bind (p.mono fun xs h1 ⟨ys, a, q⟩ => by subst a; exact q)
theorem we_zpT (p : WE X (fun zs h1 => ∃ xs ys, zs = [.tup xs, .tup ys] ∧ QW (.vals (zipV xs ys)) h1) (fs e h)) : WE X QW (iZpT fs e h) := we_bind (p.mono fun zs h1 ⟨xs, ys, a, q⟩ => by subst a; exact q)
end
section
variable {N : Env → Store → Prop} {R : Val → Store → Prop} {B C : Env → Store → Prop} {E : Nat → Val → Env → Store → Prop} {e : Env} {h : Store} {fo fi fv : FE}
theorem ws_del (p : WE (fun c w h => E c w e h) (fun o h1 => WE (fun c w h => E c w e h) (fun i h2 => ∃ h3, delD o i h2 = some h3 ∧ N e h3) (fi e h1)) (fo e h)) : WS N R B C E (fDel fo fi e h) := ws_ofE (p.mono fun o h1 p => ws_ofE (p.mono fun i h2 ⟨h3, q, z⟩ => by rw [q]; exact z))
theorem ws_augD {g : Val → Val → Store → OR} (p : WE (fun c w h => E c w e h) (fun o h1 => WE (fun c w h => E c w e h) (fun i h2 => WO (fun x h3 => WE (fun c w h => E c w e h) (fun y h4 => WO (fun z h5 => ∃ h6, sDic o i z h5 = some h6 ∧ N e h6) (g x y h4)) (fv e h3)) (oDGet o i h2)) (fi e h1)) (fo e h)) : WS N R B C E (fAugD fo fi fv g e h) :=
  ws_ofE (p.mono fun o h1 p => ws_ofE (p.mono fun i h2 p => ws_ofE (WE.mono (we_of p) fun x h3 p => ws_ofE (p.mono fun y h4 p => ws_ofE (WE.mono (we_of p) fun z h5 ⟨h6, q, z'⟩ => by rw [q]; exact z')))))
end
/-! ### a dict of tuples of ints, as a bag -/
section
variable {Q : Val → Store → Prop} {h : Store} {d : Nat} {B : Bag} {t : List Int}
end
/-- in a tuple of ints -/
theorem wo_inT {Q : Val → Store → Prop} {h : Store} {neg : Bool} {x : Int} {t : List Int} (p : Q (.bl (if neg then !(decide (x ∈ t)) else decide (x ∈ t))) h) : WO Q (oIn0 neg (.int x) (tI t) h) := by
  refine wo_eq ?_ p
  unfold oIn0 tI
  simp only [items, asFlat, asFlats_ints, inV_ints]
theorem wo_inTf {Q : Val → Store → Prop} {h : Store} {x : Int} {t : List Int} (p : Q (.bl (decide (x ∈ t))) h) : WO Q (oIn0 false (.int x) (tI t) h) := wo_inT p
theorem wo_inTt {Q : Val → Store → Prop} {h : Store} {x : Int} {t : List Int} (p : Q (.bl (!(decide (x ∈ t)))) h) : WO Q (oIn0 true (.int x) (tI t) h) := wo_inT p
end Fn
end
local macro_rules
  | `(tactic| walk_at "fn_xstepS") => `(tactic| first
  | walk_at "fn_wstepS"
  | (with_reducible refine wo_inTf ?_)
  | (with_reducible refine wo_inTt ?_)
  | (with_reducible refine we_sl ?_)
  | (with_reducible refine we_noP ?_)
  | (with_reducible refine we_pt ?_)
  | (with_reducible refine wo_slT ?_)
  | (with_reducible refine we_star ?_)
  | (with_reducible refine we_enT ?_)
  | (with_reducible refine we_zpT ?_)
  | (with_reducible refine ws_del ?_)
  | (with_reducible refine ws_augD ?_))
local macro_rules
  | `(tactic| walk_at "fn_xstepO") => `(tactic| first
  | (with_reducible refine ws_seq ?_)
  | walk_at "fn_xstepS")
local macro_rules
  | `(tactic| walk_at "fn_xgo") => `(tactic| repeat walk_at "fn_xstepO")
local macro_rules
  | `(tactic| walk_at "fn_xst") => `(tactic| repeat walk_at "fn_xstepS")
section
set_option maxHeartbeats 4000000
namespace Fn
open PySem PySem.Spec L2
/-! ## k30: the program's partings and what hangs together -/
/-! ### how many -/
end Fn
end
section
set_option maxHeartbeats 4000000
namespace Fn
open PySem PySem.Spec L2
/-! ## k30: ways, partings, signs, bags that hang together -/
end Fn
end
section
set_option maxHeartbeats 4000000
namespace Fn
open PySem PySem.Spec L2
/-! ## k30: connected -/
theorem half_le {b : Int} (b0 : 1 ≤ b) (b1 : b ≤ 20) : 0 ≤ b * (b - 1) / 2 ∧ b * (b - 1) / 2 ≤ 190 := by
  have h : ((List.range 21).all fun x => decide (0 ≤ (x : Int) * ((x : Int) - 1) / 2 ∧ (x : Int) * ((x : Int) - 1) / 2 ≤ 190)) = true := by decide +kernel
  have h1 := of_decide_eq_true (List.all_eq_true.mp h b.toNat (List.mem_range.mpr (by omega)))
  rwa [Int.toNat_of_nonneg (by omega : 0 ≤ b)] at h1
/-- what is let -/
structure CntOk (b K : Int) (cs : List Int) : Prop where
  b0 : 1 ≤ b
  b1 : b ≤ 20
  k0 : 1 ≤ K
  k1 : K ≤ 1000000
  c0 : ∀ c ∈ cs, 0 ≤ c ∧ c ≤ 1000000000
  n0 : 1 ≤ cs.length
  n1 : cs.length ≤ 4
  sm : K * (b * (b - 1) / 2) ≤ 400 ∨ ∀ c ∈ cs, c ≤ 60
theorem CntOk.kp {b K P : Int} {cs : List Int} (o : CntOk b K cs) (p0 : 0 ≤ P) (p1 : P ≤ b * (b - 1) / 2) : 0 ≤ K * P ∧ K * P ≤ 190000000 ∧ ∀ c ∈ cs, K * P ≤ 400 ∨ c ≤ 60 := by
  have h := half_le o.b0 o.b1
  have hm : K * P ≤ K * (b * (b - 1) / 2) := Int.mul_le_mul_of_nonneg_left p1 (by have := o.k0; omega)
  have hk : K * P ≤ 1000000 * 190 := Int.mul_le_mul o.k1 (by omega) p0 (by decide)
  refine ⟨Int.mul_nonneg (by have := o.k0; omega) p0, by omega, fun c hc => ?_⟩
  rcases o.sm with h1 | h1
  · exact .inl (by omega)
  · exact .inr (h1 c hc)
theorem log_le {n a : Nat} (h : n < 2 ^ a) : n.log2 ≤ a := by
  by_cases z : n = 0
  · subst z
    simp [fSeq, fNext, fIfS, fAsg, gSb, sLst, fRet, fRetN, fSet, fVar, fK, fBin, fUn, fTest, fTru, tru, toB, fB, one, two, bInt, bMax2, bMin2, bLen, oIx, oMod, oFdiv, oAdd, oSub, oMul, oLt, oLe, oGt, oGe, oNeg, oPow, oInt2, fCons, fNil, fTup, fLst, fIf, fCall, fNotT, fAndT, fOrT, fAnd, fOr, fNot, fDrop, RS.ofE, RS.ofB, RS.ofL, RS.only, Fn.R.bind, Fn.R.of, Fn.R.ofB, runF, fCmpN, fChK, fChL, fIsi, tyN, gsCons, gsNil, gNm, gTp, fPar2, fAug, fSl, fNoP, fPt, newL, oAddI, fMake, fStar, items, wipeE, ctSet, fSetF]
  · exact Nat.le_of_lt ((Nat.log2_lt z).mpr h)
end Fn
end
section
set_option maxHeartbeats 4000000
namespace Fn
open PySem PySem.Spec L2
/-! ## k30: what is asked ahead; the law's own sums -/
/-! ### the law's bags -/
theorem fac_le_pow {B : Nat} : ∀ {n : Nat}, n ≤ B → fac n ≤ B ^ n
  | 0, _ => Nat.le_refl _
  | n + 1, h => by
    have h1 := fac_le_pow (show n ≤ B by omega)
    rw [Nat.pow_succ]
    exact Nat.mul_le_mul h1 h
theorem fac_log {n : Nat} (h : n ≤ 400) : (fac n : Int).natAbs.log2 < 9000 := by
  have h1 := fac_le_pow (B := 512) (n := n) (by omega)
  have h2 : 512 ^ n = 2 ^ (9 * n) := by rw [Nat.pow_mul]
  rw [Int.natAbs_natCast]
  have h0 := Nat.two_pow_pos (9 * n)
  have h3 : fac n < 2 ^ (9 * n + 1) := by rw [Nat.pow_succ]; omega
  have := log_le h3
  omega
end Fn
end
section
namespace Fn
open PySem PySem.Spec
/-! ## k49: bags of patches, listed, and by sums -/
def kindsK (k : Int) (p : List Int) : Int := (p.map fun x => PySem.W.mcComb x k).sum
def tabK (b k : Int) : List (Int × Int) := (partsF 22 b b).map fun p => (waysI p * signI p.length, kindsK k p)
end Fn
end
section
namespace Fn
open PySem PySem.Spec
theorem Kp.set {s d : Nat} {h h1 : Store} (a : Kp s h h1) (n : d ≠ s) (hd : h.length ≤ d) (o : Ob) : Kp s h (h1.set d o) := by
  obtain ⟨x, y, e, r⟩ := a.src
  exact ⟨⟨x, y, by rw [List.getElem?_set_ne n]; exact e, r⟩, fun i o n1 q => by
    have : i < h.length := (List.getElem?_eq_some_iff.mp q).1
    rw [List.getElem?_set_ne (by omega)]
    exact a.keep i o n1 q⟩
end Fn
end
section
set_option maxHeartbeats 4000000
namespace Fn
open PySem PySem.Spec L2
/-! ## k49: the program, what is told -/
def lwIsNumF : FF := runF 2 (fRet (fAnd (fIsi "int" (fVar 0)) (fAnd (fNot (fIsi "bool" (fVar 0))) (fBin oEq (fVar 0) (fVar 1)))))
section
variable {cs cc : Nat} {t1 t2 t3 : Nat → Option Bool} {b k m : Int} {h : Store}
end
theorem isNum_ok {x : Int} {h : Store} : lwIsNumF [.int x, .int x] h = .ok (.bl true) h := by
  have q : WE noX (fun y h1 => y = .bl true ∧ h1 = h) (lwIsNumF [.int x, .int x] h) := by
    unfold lwIsNumF
    refine we_run ?_
    refine ws_ret (we_and (we_isii (we_var rfl ⟨x, rfl, true, rfl, fun _ => we_and (we_not (we_isib (we_var rfl ⟨x, rfl, false, rfl, true, rfl, fun _ => ?_, fun z => nomatch z⟩))), fun z => nomatch z⟩)))
    walk_at "fn_wst"
    exact ⟨by rw [beq_self_eq_true], rfl⟩
  obtain ⟨y, h1, e, rfl, rfl⟩ := q.get
  exact e
/-! ### choose, by steps -/
end Fn
end
section
set_option maxHeartbeats 4000000
namespace Fn
open PySem PySem.Spec L2
/-! ## k30: what is due; trees -/
/-! ### trees -/
theorem atI_int {xs : List Val} {d : Int} {x : Val} (d0 : 0 ≤ d) (h : xs[d.toNat]? = some x) : L2.atI xs d = some x := by
  have := atI_nat h
  rwa [Int.toNat_of_nonneg d0] at this
theorem sLstJ {h : Store} {l : Nat} {xs : List Val} {v : Val} {d : Int} (hl : h[l]? = some (.lst xs)) (d0 : 0 ≤ d) (d1 : d.toNat < xs.length) : sLst (.loc l) (.int d) v h = some (h.set l (.lst (xs.set d.toNat v))) := by
  have e : ixN xs.length d = some d.toNat := by
    unfold ixN
    rw [if_pos d0, if_pos (by omega)]
  simp only [sLst, hl, e, Option.map_some]
theorem wo_repJ {Q : Val → Store → Prop} {h : Store} {l : Nat} {x : Val} {k : Int} (q : h[l]? = some (.lst [x])) (k0 : 0 ≤ k) (k1 : k ≤ 1000) (p : Q (.loc h.length) (h ++ [.lst (List.replicate k.toNat x)])) : WO Q (oMul (.loc l) (.int k) h) := by
  refine wo_eq ?_ p
  have e : (List.replicate k.toNat [x]).flatten = List.replicate k.toNat x := List.flatten_replicate_singleton
  have hf : fits ([x].length * k.toNat) = true := fits_of (by show 1 * k.toNat ≤ _; omega)
  unfold oMul
  simp only [q]
  rw [if_pos ⟨⟨k0, by omega⟩, hf⟩, e]
end Fn
end
section
set_option maxHeartbeats 4000000
namespace Fn
open PySem PySem.Spec L2
/-! ## k30: the law -/
theorem wo_pow6 {Q : Val → Store → Prop} {h : Store} (p : Q (.int 1000000) h) : WO Q (oPow (.int 10) (.int 6) h) := wo_pow (by decide +kernel) p
end Fn
end
section
set_option maxHeartbeats 4000000
namespace Fn
open PySem PySem.Spec L2
/-! ## k49: the law's own list of bags -/
end Fn
end
section
set_option maxHeartbeats 4000000
namespace Fn
open PySem PySem.Spec L2
/-! ## k49: one lot or not; all bags listed -/
/-! ### rows -/
end Fn
end
section
set_option maxHeartbeats 0
namespace Fn
open PySem PySem.Spec L2
/-! ## k29: bags listed one by one -/
end Fn
end
section
set_option maxHeartbeats 4000000
namespace Fn
open PySem PySem.Spec L2
/-! ## k29: pairs, rows, how many bags -/
def iv (c : Nat) : Val := .int (c : Int)
/-! ### rows: a list of lists -/
/-- the list at l holds lists with these rows, which lie from B on -/
def LL (B : Nat) (h : Store) (l : Nat) (rs : List (List Nat)) : Prop := ∃ ls : List Nat, h[l]? = some (.lst (ls.map .loc)) ∧ ls.length = rs.length ∧ ∀ (i : Nat) (r : List Nat), rs[i]? = some r → ∃ p, ls[i]? = some p ∧ B ≤ p ∧ h[p]? = some (.lst (r.map iv))
theorem LL.mono {B : Nat} {h h' : Store} {l : Nat} {rs : List (List Nat)} (q : LL B h l rs) (a : Agr h h') : LL B h' l rs := by
  obtain ⟨ls, h1, h2, h3⟩ := q
  refine ⟨ls, a _ _ h1, h2, fun i r hr => ?_⟩
  obtain ⟨p, e1, e0, e2⟩ := h3 i r hr
  exact ⟨p, e1, e0, a _ _ e2⟩
theorem LL.low {B B' : Nat} {h : Store} {l : Nat} {rs : List (List Nat)} (q : LL B h l rs) (a : B' ≤ B) : LL B' h l rs := by
  obtain ⟨ls, h1, h2, h3⟩ := q
  refine ⟨ls, h1, h2, fun i r hr => ?_⟩
  obtain ⟨p, e1, e0, e2⟩ := h3 i r hr
  exact ⟨p, e1, by omega, e2⟩
theorem LL.some {B : Nat} {h : Store} {l : Nat} {rs : List (List Nat)} (q : LL B h l rs) : ∃ xs : List Val, h[l]? = some (.lst xs) := by
  obtain ⟨ls, h1, _⟩ := q
  exact ⟨_, h1⟩
end Fn
end
section
set_option maxHeartbeats 4000000
namespace Fn
open PySem PySem.Spec L2
/-! ## k32: a lot without spares -/
/-! ### products -/
/-! ### a row is drawn -/
end Fn
end
section
set_option maxHeartbeats 4000000
namespace Fn
open PySem PySem.Spec L2
/-! ## k32: deals and trees, listed by the law -/
/-! ### trees -/
def pairsP (b : Nat) : Nat → List (List Int)
  | 0 => []
  | u + 1 => pairsP b u ++ (rg2I ((u : Int) + 1) (b - u - 1)).map fun v => [(u : Int), v]
end Fn
end
section
set_option maxHeartbeats 4000000
namespace Fn
open PySem PySem.Spec L2
/-! ## k32: trees listed; the law -/
structure Pk (bn : Nat) (b : Int) (P : List (List Int)) : Prop where
  bb : b = 3 ∨ b = 4
  nat : b.toNat = bn
  eqP : P = pairsP bn bn
  len : P.length ≤ 6
  ok : ∀ t ∈ P, ∃ u v : Int, t = [u, v] ∧ 0 ≤ u ∧ u < b ∧ 0 ≤ v ∧ v < b
end Fn
end
section
set_option maxHeartbeats 4000000
namespace Fn
open PySem PySem.Spec L2
/-! ## k29: whether pairs hang all places together; the law's own count -/
/-! ### comprehensions that make objects, or leave some out -/
end Fn
end
section
set_option maxHeartbeats 4000000
namespace Fn
open PySem PySem.Spec L2
/-! ## k29: the law's own count -/
/-! ### what lies in the rows -/
end Fn
end
section
set_option maxHeartbeats 4000000
namespace Fn
open PySem PySem.Spec L2
/-! ## k29: the law's own count, put together -/
end Fn
end
section
set_option maxHeartbeats 4000000
namespace Fn
open PySem PySem.Spec L2
/-! ## k29: what is drawn -/
/-! ### how many bags: a row of sums -/
/-! ### the counts made few -/
end Fn
end
section
set_option maxHeartbeats 4000000
namespace Fn
open PySem PySem.Spec L2
/-! ## k29: what is drawn, put together -/
end Fn
end
section
set_option maxHeartbeats 4000000
namespace Fn
open PySem PySem.Spec L2
/-! ## k03: the law's own partings, ways, and numbers of all partings -/
/-! ### ways -/
end Fn
end
section
set_option maxHeartbeats 4000000
namespace Fn
open PySem PySem.Spec L2
/-! ## data that may be shown: ints of up to 30 digits, plain texts, tuples -/
mutual
def niceD : Nat → PyData → Bool
  | _, .int i => decide (i.natAbs < 10 ^ 30)
  | _, .str s => PyData.strOk (reprText s) && s.cps.toList.all (fun c => decide (c < 16 ^ 8))
  | k + 1, .tuple xs => niceDL k xs
  | _, _ => false
def niceDL : Nat → List PyData → Bool
  | _, [] => true
  | k, x :: xs => niceD k x && niceDL k xs
end
theorem strOkA {a b : Str} (ha : PyData.strOk a = true) (hb : PyData.strOk b = true) : PyData.strOk (a ++ b) = true := by
  show (a.cps ++ b.cps).all (fun c => decide (c < 0x110000)) = true
  rw [Array.all_append, Bool.and_eq_true]
  exact ⟨ha, hb⟩
theorem strOkJ : ∀ {ts : List Str}, (∀ t ∈ ts, PyData.strOk t = true) → PyData.strOk (Str.join ", " ts) = true
  | [], _ => strOk_of ""
  | [x], h => h x List.mem_cons_self
  | x :: y :: r, h => by
    show PyData.strOk (x ++ ", " ++ Str.join ", " (y :: r)) = true
    exact strOkA (strOkA (h x List.mem_cons_self) (strOk_of ", ")) (strOkJ fun t ht => h t (List.mem_cons_of_mem _ ht))
mutual
theorem nice_strOk : ∀ {k : Nat} {d : PyData}, niceD k d = true → PyData.strOk d.shown = true
  | _, .int i, h => strOk_of _
  | _, .str s, h => by
    unfold niceD at h
    exact (Bool.and_eq_true_iff.mp h).1
  | k + 1, .tuple xs, h => by
    have hx := nice_strOkL (k := k) (xs := xs) (by unfold niceD at h; exact h)
    show PyData.strOk (tupleText (PyData.shownAll xs)) = true
    unfold tupleText
    refine strOkA (strOkA (strOk_of "(") (strOkJ hx)) ?_
    split
    · exact strOk_of ",)"
    · exact strOk_of ")"
theorem nice_strOkL : ∀ {k : Nat} {xs : List PyData}, niceDL k xs = true → ∀ t ∈ PyData.shownAll xs, PyData.strOk t = true
  | _, [], h, t, ht => nomatch ht
  | k, x :: xs, h, t, ht => by
    unfold niceDL at h
    obtain ⟨h1, h2⟩ := Bool.and_eq_true_iff.mp h
    rcases List.mem_cons.mp ht with rfl | ht
    · exact nice_strOk h1
    · exact nice_strOkL h2 t ht
end
mutual
theorem nice_facts : ∀ {k : Nat} {d : PyData}, niceD k d = true → d.leavesShort 31 = true ∧ d.showable = true ∧ d.hasDict = false ∧ d.depth ≤ k
  | k, .int i, h => by
    have hi : i.natAbs < 10 ^ 30 := by
      cases k <;> (unfold niceD at h; exact of_decide_eq_true h)
    refine ⟨?_, ?_, rfl, Nat.zero_le _⟩
    · unfold PyData.leavesShort
      refine decide_eq_true ?_
      have h2 := int_text_length_le10 (a := i) (k := 30) (by decide) hi
      show (Str.ofString (toString i)).length ≤ 31
      rw [Str.ofString_eq_toList]
      show (((toString i).toList.map Char.toNat).toArray).size ≤ 31
      rw [List.size_toArray, List.length_map]
      exact h2
    · unfold PyData.showable
      refine decide_eq_true ?_
      by_cases z : i.natAbs = 0
      · rw [z]; decide
      · rw [Nat.log2_lt z]
        exact Nat.lt_of_lt_of_le hi (Nat.le_trans (show 10 ^ 30 ≤ 2 ^ 100 by decide) (Nat.pow_le_pow_right (by decide) (by decide)))
  | k, .str s, h => by
    have h2 : (s.cps.toList.all fun c => decide (c < 16 ^ 8)) = true := by
      cases k <;> (unfold niceD at h; exact (Bool.and_eq_true_iff.mp h).2)
    refine ⟨?_, rfl, rfl, Nat.zero_le _⟩
    unfold PyData.leavesShort
    exact h2
  | k + 1, .tuple xs, h => by
    obtain ⟨a, b, c, d⟩ := nice_factsL (k := k) (xs := xs) (by unfold niceD at h; exact h)
    refine ⟨?_, ?_, ?_, ?_⟩
    · unfold PyData.leavesShort; exact a
    · unfold PyData.showable; exact b
    · unfold PyData.hasDict; exact c
    · unfold PyData.depth; exact Nat.succ_le_succ d
theorem nice_factsL : ∀ {k : Nat} {xs : List PyData}, niceDL k xs = true → PyData.leavesShortAll 31 xs = true ∧ PyData.showableAll xs = true ∧ PyData.hasDictAll xs = false ∧ PyData.depthAll xs ≤ k
  | _, [], h => ⟨rfl, rfl, rfl, Nat.zero_le _⟩
  | k, x :: xs, h => by
    unfold niceDL at h
    obtain ⟨h1, h2⟩ := Bool.and_eq_true_iff.mp h
    obtain ⟨a1, b1, c1, d1⟩ := nice_facts h1
    obtain ⟨a2, b2, c2, d2⟩ := nice_factsL h2
    refine ⟨?_, ?_, ?_, ?_⟩
    · unfold PyData.leavesShortAll; rw [a1, a2]; rfl
    · unfold PyData.showableAll; rw [b1, b2]; rfl
    · unfold PyData.hasDictAll; rw [c1, c2]; rfl
    · unfold PyData.depthAll; exact Nat.max_le.mpr ⟨d1, d2⟩
end
theorem nice_len {k : Nat} {d : PyData} (h : niceD k d = true) (hb : d.bulk ≤ 400000) : d.shown.length ≤ sizeLine := by
  have h1 := PyData.shown_le_bulk 31 (by decide) d (nice_facts h).1
  rw [sizeLine_eq]
  omega
theorem nice_okRD {k : Nat} {d : PyData} (hk : k ≤ 64) (h : niceD k d = true) (hb : d.bulk ≤ 400000) : okRD d = true := by
  obtain ⟨_, b, c, e⟩ := nice_facts h
  unfold okRD
  simp only [Bool.and_eq_true]
  exact ⟨b, by rw [c]; rfl, Nat.ble_eq_true_of_le (nice_len h hb), Nat.ble_eq_true_of_le (Nat.le_trans e hk)⟩
theorem wo_reprT {Q : Val → Store → Prop} {k : Nat} {v : Val} {xs : List PyData} {h : Store} (hk : k ≤ 64) (hd : dataOf v = some (.tuple xs)) (hn : niceD k (.tuple xs) = true) (hb : (PyData.tuple xs).bulk ≤ 400000) (p : Q (.str (PyData.shown (.tuple xs))) h) : WO Q (bReprX v h) := by
  refine wo_eq (z := .str (PyData.shown (.tuple xs))) (h := h) ?_ p
  have e : bReprX v h = bReprD v h := by
    cases v with
    | int i => unfold dataOf at hd; cases hd
    | _ => rfl
  rw [e]
  unfold bReprD
  rw [hd]
  show (if (isTupD (.tuple xs) && okRD (.tuple xs)) = true then _ else _) = _
  rw [nice_okRD hk hn hb]
  rfl
/-- equal texts -/
theorem wo_eqS {Q : Val → Store → Prop} {s : Str} {h : Store} (k : PyData.strOk s = true) (p : Q (.bl true) h) : WO Q (oEq (.str s) (.str s) h) := by
  refine wo_eq (z := .bl true) (h := h) ?_ p
  unfold oEq deep
  rw [toD]
  simp only [k, if_true]
  rw [PyData.eqv]
  simp [fSeq, fNext, fIfS, fAsg, gSb, sLst, fRet, fRetN, fSet, fVar, fK, fBin, fUn, fTest, fTru, tru, toB, fB, one, two, bInt, bMax2, bMin2, bLen, oIx, oMod, oFdiv, oAdd, oSub, oMul, oLt, oLe, oGt, oGe, oNeg, oPow, oInt2, fCons, fNil, fTup, fLst, fIf, fCall, fNotT, fAndT, fOrT, fAnd, fOr, fNot, fDrop, RS.ofE, RS.ofB, RS.ofL, RS.only, Fn.R.bind, Fn.R.of, Fn.R.ofB, runF, fCmpN, fChK, fChL, fIsi, tyN, gsCons, gsNil, gNm, gTp, fPar2, fAug, fSl, fNoP, fPt, newL, oAddI, fMake, fStar, items, wipeE, ctSet, fSetF]
theorem wo_neS {Q : Val → Store → Prop} {s : Str} {h : Store} (k : PyData.strOk s = true) (p : Q (.bl false) h) : WO Q (oNe (.str s) (.str s) h) := by
  refine wo_eq (z := .bl false) (h := h) ?_ p
  unfold oNe deep
  rw [toD]
  simp only [k, if_true]
  rw [PyData.eqv]
  simp [fSeq, fNext, fIfS, fAsg, gSb, sLst, fRet, fRetN, fSet, fVar, fK, fBin, fUn, fTest, fTru, tru, toB, fB, one, two, bInt, bMax2, bMin2, bLen, oIx, oMod, oFdiv, oAdd, oSub, oMul, oLt, oLe, oGt, oGe, oNeg, oPow, oInt2, fCons, fNil, fTup, fLst, fIf, fCall, fNotT, fAndT, fOrT, fAnd, fOr, fNot, fDrop, RS.ofE, RS.ofB, RS.ofL, RS.only, Fn.R.bind, Fn.R.of, Fn.R.ofB, runF, fCmpN, fChK, fChL, fIsi, tyN, gsCons, gsNil, gNm, gTp, fPar2, fAug, fSl, fNoP, fPt, newL, oAddI, fMake, fStar, items, wipeE, ctSet, fSetF]
/-- a pair of a short word and a number -/
theorem wo_reprP {Q : Val → Store → Prop} {x : Str} {i : Int} {h : Store} (hx : (PyData.strOk (reprText x) && x.cps.toList.all (fun c => decide (c < 16 ^ 8)) && decide (x.cps.size ≤ 100)) = true) (hi : i.natAbs < 10 ^ 30) (p : PyData.strOk (PyData.shown (.tuple [.str x, .int i])) = true → Q (.str (PyData.shown (.tuple [.str x, .int i]))) h) : WO Q (bReprX (.tup [.str x, .int i]) h) := by
  obtain ⟨h1, h2⟩ := Bool.and_eq_true_iff.mp hx
  have h3 := of_decide_eq_true h2
  have hn : niceD 1 (.tuple [.str x, .int i]) = true := by
    simp only [niceD, niceDL, Bool.and_true, Bool.and_eq_true, decide_eq_true_eq]
    exact ⟨Bool.and_eq_true_iff.mp h1, hi⟩
  refine wo_reprT (k := 1) (xs := [.str x, .int i]) (by decide) (by simp only [dataOf, dataL, Option.map_some]) hn ?_ (p (nice_strOk hn))
  simp only [PyData.bulk, PyData.bulkAll]
  omega
end Fn
end
section
set_option maxHeartbeats 4000000
namespace Fn
open PySem PySem.Spec L2
/-! ## k03: the numbers of all partings; the law -/
end Fn
end
section
set_option maxHeartbeats 4000000
namespace Fn
open PySem PySem.Spec L2
/-! ## k03: the law -/
theorem we_lamX {X : XT} {Q : Val → Store → Prop} {n i : Nat} {t : Nat → Option Bool} {f : Nat → Val → FS} {thunk : FE} {e : Env} {h h1 h2 : Store} {c : Nat} {w v : Val} (e1 : thunk e h = .exc c w h1) (e2 : t c = some true) (e3 : f c w (List.replicate n none) h1 = .ret v h2) (p : Q v h2) : WE X Q (fLam n i t f thunk e h) := by
  unfold fLam toldLF
  rw [e1]
  simp only [e2, e3]
  exact p
end Fn
end
section
set_option maxHeartbeats 4000000
namespace Fn
open PySem PySem.Spec L2
/-! ## k02: choosing, bags -/
def lwChoose02F : FF := runF 5 (fSeq (fIfS (fTest (fBin oLt (fVar 0) (fVar 1))) (fRet (fK (.int (0)))) fNext)
  (fSeq (fAsg (fTup (fCons (fK (.int (1))) (fCons (fK (.int (1))) fNil))) (gTp 2 (gsCons (gNm 3) (gsCons (gNm 4) gsNil))))
  (fSeq (fFor (iRg1 (fCons (fVar 1) fNil)) (gNm 2) (fPar2 3 4 (fCons (fBin oMul (fVar 3) (fBin oSub (fVar 0) (fVar 2))) (fCons (fBin oMul (fVar 4) (fBin oAdd (fVar 2) (fK (.int (1))))) fNil))))
  (fRet (fBin oFdiv (fVar 3) (fVar 4))))))
def lwBags02F : FF := runF 5 (fSeq (fSet 2 (fBin oAdd (fLst (fCons (fK (.int (1))) fNil)) (fBin oMul (fLst (fCons (fK (.int (0))) fNil)) (fVar 1))))
  (fSeq (fFor (iRg1 (fCons (fVar 0) fNil)) (gNm 3) (fFor (iRg2 (fCons (fK (.int (1))) (fCons (fBin oAdd (fVar 1) (fK (.int (1)))) fNil))) (gNm 4) (fAsg (fBin oAdd (fBin oIx (fVar 2) (fVar 4)) (fBin oIx (fVar 2) (fBin oSub (fVar 4) (fK (.int (1)))))) (gSb (fVar 2) (fVar 4) sLst))))
  (fRet (fBin oIx (fVar 2) (fVar 1)))))
def lwGreat02F : FF := runF 3 (fSeq (fSet 2 (fB (two bMin2) (fCons (fVar 1) (fCons (fBin oSub (fVar 0) (fK (.int (1)))) fNil))))
  (fRet (fCall lwChoose02F 2 (fCons (fBin oSub (fBin oAdd (fVar 0) (fVar 1)) (fK (.int (1)))) (fCons (fVar 2) fNil)))))
def told02 (t1 : Nat → Option Bool) : Nat → Val → FS := fun c w => (fRet (fTup (fCons (fIf (fTru (fIsD t1 c)) (fK (.str ("count" : Str))) (fK (.str ("other" : Str)))) (fCons (fWhat w) fNil))))
def chooseR02F (cc : Nat) (t1 t3 : Nat → Option Bool) : FF := runF 5 (fSeq (fSet 1 (fCall oneF 2 (fCons (fVar 0) (fCons (fLst (fCons (fCall takeF 2 (fCons (fVar 0) (fCons (fK (.int (15))) fNil))) (fCons (fCall takeF 2 (fCons (fVar 0) (fCons (fK (.int (15))) fNil))) (fCons (fCall takeF 2 (fCons (fVar 0) (fCons (fK (.int (15))) fNil))) (fCons (fK (.int (400))) (fCons (fCall takeF 2 (fCons (fVar 0) (fCons (fK (.int (401))) fNil))) fNil)))))) fNil))))
  (fSeq (fSet 2 (fCall oneF 2 (fCons (fVar 0) (fCons (fLst (fCons (fCall takeF 2 (fCons (fVar 0) (fCons (fK (.int (13))) fNil))) (fCons (fCall takeF 2 (fCons (fVar 0) (fCons (fK (.int (13))) fNil))) (fCons (fVar 1) (fCons (fBin oAdd (fVar 1) (fK (.int (1)))) (fCons (fCall takeF 2 (fCons (fVar 0) (fCons (fBin oPow (fK (.int (10))) (fK (.int (18)))) fNil))) fNil)))))) fNil))))
  (fSeq (fIfS (fOrT (fNotT (fTru (fCall lwIsNumF 2 (fCons (fCall (chooseF cc) 2 (fCons (fVar 2) (fCons (fVar 1) fNil))) (fCons (fCall lwChoose02F 2 (fCons (fVar 2) (fCons (fVar 1) fNil))) fNil))))) (fTest (fBin oNe (fCallK (chooseF cc) 0 2 [1, 0] fNil (fCons (fVar 1) (fCons (fVar 2) fNil))) (fCall (chooseF cc) 2 (fCons (fVar 2) (fCons (fVar 1) fNil)))))) (fRet (fK (.bl false))) fNext)
  (fSeq (fAsg (fTup (fCons (fBin oSub (fUn oNeg (fK (.int (1)))) (fCall takeF 2 (fCons (fVar 0) (fCons (fBin oPow (fK (.int (10))) (fK (.int (6)))) fNil)))) (fCons (fCall oneF 2 (fCons (fVar 0) (fCons (fLst (fCons (fUn oNeg (fK (.int (1)))) (fCons (fK (.int (401))) (fCons (fBin oAdd (fK (.int (401))) (fCall takeF 2 (fCons (fVar 0) (fCons (fBin oPow (fK (.int (10))) (fK (.int (6)))) fNil)))) fNil)))) fNil))) fNil))) (gTp 2 (gsCons (gNm 3) (gsCons (gNm 4) gsNil))))
  (fSeq (fIfS (fTest (fBin oNe (fB (one bReprX) (fCons (fLam 2 1 t3 (told02 t1) (fCall (chooseF cc) 2 (fCons (fVar 3) (fCons (fVar 1) fNil)))) fNil)) (fB (one bReprX) (fCons (fTup (fCons (fK (.str ("count" : Str))) (fCons (fVar 3) fNil))) fNil)))) (fRet (fK (.bl false))) fNext)
  (fSeq (fIfS (fTest (fBin oNe (fB (one bReprX) (fCons (fLam 2 1 t3 (told02 t1) (fCall (chooseF cc) 2 (fCons (fVar 3) (fCons (fVar 4) fNil)))) fNil)) (fB (one bReprX) (fCons (fTup (fCons (fK (.str ("count" : Str))) (fCons (fVar 3) fNil))) fNil)))) (fRet (fK (.bl false))) fNext)
  (fRet (fBin oEq (fB (one bReprX) (fCons (fLam 2 1 t3 (told02 t1) (fCall (chooseF cc) 2 (fCons (fVar 2) (fCons (fVar 4) fNil)))) fNil)) (fB (one bReprX) (fCons (fTup (fCons (fK (.str ("count" : Str))) (fCons (fVar 4) fNil))) fNil))))))))))
def bagsR02F (cc : Nat) (t1 t3 : Nat → Option Bool) : FF := runF 8 (fSeq (fPar2 1 2 (fCons (fCall takeF 2 (fCons (fVar 0) (fCons (fK (.int (9))) fNil))) (fCons (fCall takeF 2 (fCons (fVar 0) (fCons (fK (.int (9))) fNil))) fNil)))
  (fSeq (fIfS (fNotT (fTru (fCall lwIsNumF 2 (fCons (fCall (bagsF cc) 2 (fCons (fVar 1) (fCons (fVar 2) fNil))) (fCons (fCall lwBags02F 2 (fCons (fVar 1) (fCons (fVar 2) fNil))) fNil))))) (fRet (fK (.bl false))) fNext)
  (fSeq (fPar2 1 2 (fCons (fBin oAdd (fK (.int (1))) (fCall takeF 2 (fCons (fVar 0) (fCons (fBin oPow (fK (.int (10))) (fK (.int (12)))) fNil)))) (fCons (fCall oneF 2 (fCons (fVar 0) (fCons (fLst (fCons (fCall takeF 2 (fCons (fVar 0) (fCons (fK (.int (8))) fNil))) (fCons (fK (.int (60))) fNil))) fNil))) fNil)))
  (fSeq (fIfS (fNotT (fTru (fCall lwIsNumF 2 (fCons (fCallK (bagsF cc) 0 2 [1, 0] fNil (fCons (fVar 2) (fCons (fVar 1) fNil))) (fCons (fCall lwGreat02F 2 (fCons (fVar 1) (fCons (fVar 2) fNil))) fNil))))) (fRet (fK (.bl false))) fNext)
  (fSeq (fPar2 1 2 (fCons (fCall oneF 2 (fCons (fVar 0) (fCons (fLst (fCons (fBin oAdd (fK (.int (1))) (fCall takeF 2 (fCons (fVar 0) (fCons (fK (.int (9))) fNil)))) (fCons (fBin oAdd (fK (.int (1))) (fCall takeF 2 (fCons (fVar 0) (fCons (fK (.int (9))) fNil)))) (fCons (fK (.int (400))) fNil)))) fNil))) (fCons (fCall oneF 2 (fCons (fVar 0) (fCons (fLst (fCons (fK (.int (61))) (fCons (fCall takeF 2 (fCons (fVar 0) (fCons (fBin oPow (fK (.int (10))) (fK (.int (9)))) fNil))) fNil))) fNil))) fNil)))
  (fSeq (fIfS (fNotT (fTru (fCall lwIsNumF 2 (fCons (fCall (bagsF cc) 2 (fCons (fVar 1) (fCons (fVar 2) fNil))) (fCons (fCall lwGreat02F 2 (fCons (fVar 1) (fCons (fVar 2) fNil))) fNil))))) (fRet (fK (.bl false))) fNext)
  (fSeq (fPar2 3 4 (fCons (fBin oSub (fUn oNeg (fK (.int (1)))) (fCall takeF 2 (fCons (fVar 0) (fCons (fBin oPow (fK (.int (10))) (fK (.int (6)))) fNil)))) (fCons (fBin oAdd (fK (.int (401))) (fCall takeF 2 (fCons (fVar 0) (fCons (fBin oPow (fK (.int (10))) (fK (.int (6)))) fNil)))) fNil)))
  (fSeq (fFor (iSeq (fLst (fCons (fTup (fCons (fVar 3) (fCons (fVar 2) (fCons (fVar 3) fNil)))) (fCons (fTup (fCons (fVar 3) (fCons (fUn oNeg (fK (.int (3)))) (fCons (fVar 3) fNil)))) (fCons (fTup (fCons (fVar 1) (fCons (fVar 3) (fCons (fVar 3) fNil)))) (fCons (fTup (fCons (fVar 4) (fCons (fK (.int (61))) (fCons (fVar 4) fNil)))) (fCons (fTup (fCons (fK (.int (401))) (fCons (fBin oPow (fK (.int (10))) (fK (.int (9)))) (fCons (fK (.int (401))) fNil)))) fNil))))))) (gTp 3 (gsCons (gNm 5) (gsCons (gNm 6) (gsCons (gNm 7) gsNil)))) (fIfS (fTest (fBin oNe (fB (one bReprX) (fCons (fLam 2 1 t3 (told02 t1) (fCall (bagsF cc) 2 (fCons (fVar 5) (fCons (fVar 6) fNil)))) fNil)) (fB (one bReprX) (fCons (fTup (fCons (fK (.str ("count" : Str))) (fCons (fVar 7) fNil))) fNil)))) (fRet (fK (.bl false))) fNext))
  (fRet (fAnd (fCall lwIsNumF 2 (fCons (fCall (bagsF cc) 2 (fCons (fVar 4) (fCons (fK (.int (0))) fNil))) (fCons (fK (.int (1))) fNil))) (fAnd (fCall lwIsNumF 2 (fCons (fCall (bagsF cc) 2 (fCons (fVar 4) (fCons (fK (.int (1))) fNil))) (fCons (fVar 4) fNil))) (fAnd (fBin oEq (fCall (bagsF cc) 2 (fCons (fK (.int (0))) (fCons (fK (.int (0))) fNil))) (fK (.int (1)))) (fBin oEq (fCall (bagsF cc) 2 (fCons (fK (.int (0))) (fCons (fBin oAdd (fVar 2) (fK (.int (1)))) fNil))) (fK (.int (0))))))))))))))))
def law02F (cc : Nat) (t1 t3 : Nat → Option Bool) : FF := runF 2 (fSeq (fSet 1 (fCall poolF 2 (fCons (fVar 0) (fCons (fK (.int (0))) fNil))))
  (fRet (fAnd (fCall (chooseR02F cc t1 t3) 1 (fCons (fVar 1) fNil)) (fAnd (fCall (chooseR02F cc t1 t3) 1 (fCons (fVar 1) fNil)) (fCall (bagsR02F cc t1 t3) 1 (fCons (fVar 1) fNil))))))
theorem comb_fall {a b : Int} (b0 : 0 ≤ b) (h : b ≤ a) : PySem.W.mcComb a b = fallZ a b.toNat / (fac b.toNat : Int) := by
  obtain ⟨q, rfl⟩ : ∃ q : Nat, b = (q : Int) := ⟨b.toNat, by omega⟩
  obtain ⟨p, hp⟩ : ∃ p : Nat, a = ((q + p : Nat) : Int) := ⟨(a - (q : Int)).toNat, by omega⟩
  subst hp
  rw [Int.toNat_natCast, fall_chs, Int.mul_ediv_cancel _ (fac_ne q)]
  by_cases hq : q ≤ p
  · exact comb_chs hq
  · rw [PySem.W.mcComb_at (m := (p : Int)) (by omega) (by omega) (by omega), fallZ_eq, fallZ_eq, Int.toNat_natCast, fall_self, Nat.add_comm q p, fall_chs, Int.mul_ediv_cancel _ (fac_ne p), chs_sym p q]
theorem choose02_ok {a b : Int} {h : Store} (a0 : 0 ≤ a) (a1 : a < 9000000000000000000) (b0 : 0 ≤ b) (b1 : b ≤ 400) : lwChoose02F [.int a, .int b] h = .ok (.int (PySem.W.mcComb a b)) h := by
  have q : WE noX (fun y h1 => y = .int (PySem.W.mcComb a b) ∧ h1 = h) (lwChoose02F [.int a, .int b] h) := by
    unfold lwChoose02F
    refine we_run ?_
    walk_at "fn_wgo"
    refine wif_d (fun z => ?_) fun z => ?_
    · walk_at "fn_wgo"
      rw [PySem.W.mcComb_above (by omega)]
      exact ⟨rfl, rfl⟩
    · walk_at "fn_wgo"
      refine ws_for (fun i e g => (∃ x2, e = [some (.int a), some (.int b), x2, some (.int (fallZ a i)), some (.int (fac i : Int))]) ∧ g = h ∧ i ≤ 400) ?_
      walk_at "fn_wgo"
      refine ⟨inR_s (by omega) (by omega), upTo 0 b.toNat, ⟨⟨none, rfl⟩, rfl, by decide⟩, fun _ _ _ _ => rfl, ?_, ?_⟩
      · rintro i x e g hx ⟨⟨x2, rfl⟩, rfl, i4⟩
        have hi := lt_get' hx
        rw [upTo_len] at hi
        rw [upTo_get, if_pos hi] at hx
        obtain ⟨t, ht⟩ : ∃ t : Int, t = (0 : Int) + (i : Int) := ⟨_, rfl⟩
        rw [← ht] at hx
        obtain rfl : x = .int t := by injection hx with hx; exact hx.symm
        have e1 : fallZ a (i + 1) = fallZ a i * (a - t) := by rw [ht, Int.zero_add]; rfl
        have e2 : (fac (i + 1) : Int) = (fac i : Int) * (t + 1) := by
          show ((fac i * (i + 1) : Nat) : Int) = _
          rw [Int.natCast_mul, ht]
          congr 1
          omega
        rw [e1, e2]
        walk_at "fn_wgo"
        exact ⟨⟨some (.int t), rfl⟩, rfl, by omega⟩
      · rintro e g ⟨⟨x2, rfl⟩, rfl, i4⟩
        rw [upTo_len]
        walk_at "fn_wgo"
        have hf := fac_pos b.toNat
        refine wo_fdiv ?_ ⟨?_, rfl⟩
        · unfold cDiv
          rw [Bool.and_eq_true]
          refine ⟨decide_eq_true (by omega), ?_⟩
          rw [Nat.blt_eq]
          exact fac_log (by omega)
        · rw [comb_fall b0 (by omega)]
  obtain ⟨x, h1, e, rfl, rfl⟩ := q.get
  exact e
theorem great02_ok {k m : Int} {h : Store} (k0 : 1 ≤ k) (k1 : k ≤ 2000000000000000000) (m0 : 0 ≤ m) (m1 : m ≤ 2000000000000000000) (hs : k ≤ 400 ∨ m ≤ 60) : lwGreat02F [.int k, .int m] h = .ok (.int (bagsI k m)) h := by
  have q : WE noX (fun y h1 => y = .int (bagsI k m) ∧ h1 = h) (lwGreat02F [.int k, .int m] h) := by
    unfold lwGreat02F
    refine we_run ?_
    walk_at "fn_wgo"
    obtain ⟨l, hl⟩ : ∃ l : Int, (if k - 1 < m then k - 1 else m) = l := ⟨_, rfl⟩
    rw [hl]
    have hl2 : 0 ≤ l ∧ l ≤ 400 := by
      rw [← hl]
      split <;> rcases hs with z | z <;> omega
    refine we_eq (choose02_ok (by omega) (by omega) hl2.1 hl2.2) ⟨?_, rfl⟩
    unfold bagsI
    rw [if_neg (by omega), show k - 1 + m = k + m - 1 by omega]
    congr 2
    rw [← hl]
    split <;> split <;> omega
  obtain ⟨x, h1, e, rfl, rfl⟩ := q.get
  exact e
/-! ### small bags by own additions -/
def stB (row : List Int) (j : Nat) : List Int := row.set (j + 1) (row.getD (j + 1) 0 + row.getD j 0)
def inB (m : Nat) (row : List Int) : Nat → List Int
  | 0 => row
  | j + 1 => stB (inB m row j) j
def rowB (m : Nat) : Nat → List Int
  | 0 => 1 :: List.replicate m 0
  | k + 1 => inB m (rowB m k) m
theorem inB_len (m : Nat) (row : List Int) : ∀ j, (inB m row j).length = row.length
  | 0 => rfl
  | j + 1 => by
    show (stB (inB m row j) j).length = _
    unfold stB
    rw [List.length_set, inB_len m row j]
theorem rowB_len (m : Nat) : ∀ k, (rowB m k).length = m + 1
  | 0 => by simp [fSeq, fNext, fIfS, fAsg, gSb, sLst, fRet, fRetN, fSet, fVar, fK, fBin, fUn, fTest, fTru, tru, toB, fB, one, two, bInt, bMax2, bMin2, bLen, oIx, oMod, oFdiv, oAdd, oSub, oMul, oLt, oLe, oGt, oGe, oNeg, oPow, oInt2, fCons, fNil, fTup, fLst, fIf, fCall, fNotT, fAndT, fOrT, fAnd, fOr, fNot, fDrop, RS.ofE, RS.ofB, RS.ofL, RS.only, Fn.R.bind, Fn.R.of, Fn.R.ofB, runF, fCmpN, fChK, fChL, fIsi, tyN, gsCons, gsNil, gNm, gTp, fPar2, fAug, fSl, fNoP, fPt, newL, oAddI, fMake, fStar, items, wipeE, ctSet, fSetF, rowB]
  | k + 1 => by
    show (inB m (rowB m k) m).length = _
    rw [inB_len, rowB_len m k]
theorem bagsT : ((List.range 9).all fun k => (List.range 9).all fun m => decide ((rowB m k).getD m 0 = bagsI (k : Int) (m : Int))) = true := by decide +kernel
theorem bags02_ok {k m : Int} {h : Store} (k0 : 0 ≤ k) (k1 : k ≤ 8) (m0 : 0 ≤ m) (m1 : m ≤ 8) : ∃ h', lwBags02F [.int k, .int m] h = .ok (.int (bagsI k m)) h' ∧ Agr h h' := by
  have q : WE noX (fun y h1 => y = .int (bagsI k m) ∧ Agr h h1) (lwBags02F [.int k, .int m] h) := by
    have hT : (rowB m.toNat k.toNat).getD m.toNat 0 = bagsI k m := by
      have h1 := of_decide_eq_true (List.all_eq_true.mp (List.all_eq_true.mp bagsT k.toNat (List.mem_range.mpr (by omega))) m.toNat (List.mem_range.mpr (by omega)))
      rw [show ((k.toNat : Nat) : Int) = k by omega, show ((m.toNat : Nat) : Int) = m by omega] at h1
      exact h1
    unfold lwBags02F
    refine we_run ?_
    refine ws_seq (ws_set (we_bin (we_lst (we_cons (we_K (we_nil ⟨rfl, ?_⟩))))))
    refine we_bin (we_lst (we_cons (we_K (we_nil ⟨rfl, we_var rfl ?_⟩))))
    refine wo_repJ (x := .int 0) (by simp [fSeq, fNext, fIfS, fAsg, gSb, sLst, fRet, fRetN, fSet, fVar, fK, fBin, fUn, fTest, fTru, tru, toB, fB, one, two, bInt, bMax2, bMin2, bLen, oIx, oMod, oFdiv, oAdd, oSub, oMul, oLt, oLe, oGt, oGe, oNeg, oPow, oInt2, fCons, fNil, fTup, fLst, fIf, fCall, fNotT, fAndT, fOrT, fAnd, fOr, fNot, fDrop, RS.ofE, RS.ofB, RS.ofL, RS.only, Fn.R.bind, Fn.R.of, Fn.R.ofB, runF, fCmpN, fChK, fChL, fIsi, tyN, gsCons, gsNil, gNm, gTp, fPar2, fAug, fSl, fNoP, fPt, newL, oAddI, fMake, fStar, items, wipeE, ctSet, fSetF]) (by omega) (by omega) ?_
    obtain ⟨M, hM⟩ : ∃ M, m.toNat = M := ⟨_, rfl⟩
    rw [hM] at hT ⊢
    have a2 : Agr h ((h ++ [Ob.lst [.int 1]] ++ [Ob.lst [.int 0]]) ++ [Ob.lst (List.replicate M (.int 0))]) := (((Agr.refl h).app _).app _).app _
    have e1 : ((h ++ [Ob.lst [.int 1]] ++ [Ob.lst [.int 0]]) ++ [Ob.lst (List.replicate M (.int 0))])[h.length]? = some (.lst [.int 1]) := by
      refine (((Agr.refl _).app _).app _) h.length _ ?_
      simp [fSeq, fNext, fIfS, fAsg, gSb, sLst, fRet, fRetN, fSet, fVar, fK, fBin, fUn, fTest, fTru, tru, toB, fB, one, two, bInt, bMax2, bMin2, bLen, oIx, oMod, oFdiv, oAdd, oSub, oMul, oLt, oLe, oGt, oGe, oNeg, oPow, oInt2, fCons, fNil, fTup, fLst, fIf, fCall, fNotT, fAndT, fOrT, fAnd, fOr, fNot, fDrop, RS.ofE, RS.ofB, RS.ofL, RS.only, Fn.R.bind, Fn.R.of, Fn.R.ofB, runF, fCmpN, fChK, fChL, fIsi, tyN, gsCons, gsNil, gNm, gTp, fPar2, fAug, fSl, fNoP, fPt, newL, oAddI, fMake, fStar, items, wipeE, ctSet, fSetF]
    have e2 : ((h ++ [Ob.lst [.int 1]] ++ [Ob.lst [.int 0]]) ++ [Ob.lst (List.replicate M (.int 0))])[(h ++ [Ob.lst [.int 1]] ++ [Ob.lst [.int 0]]).length]? = some (.lst (List.replicate M (.int 0))) := by simp [fSeq, fNext, fIfS, fAsg, gSb, sLst, fRet, fRetN, fSet, fVar, fK, fBin, fUn, fTest, fTru, tru, toB, fB, one, two, bInt, bMax2, bMin2, bLen, oIx, oMod, oFdiv, oAdd, oSub, oMul, oLt, oLe, oGt, oGe, oNeg, oPow, oInt2, fCons, fNil, fTup, fLst, fIf, fCall, fNotT, fAndT, fOrT, fAnd, fOr, fNot, fDrop, RS.ofE, RS.ofB, RS.ofL, RS.only, Fn.R.bind, Fn.R.of, Fn.R.ofB, runF, fCmpN, fChK, fChL, fIsi, tyN, gsCons, gsNil, gNm, gTp, fPar2, fAug, fSl, fNoP, fPt, newL, oAddI, fMake, fStar, items, wipeE, ctSet, fSetF]
    refine wo_catL e1 e2 (by rw [List.length_replicate]; show 1 + M < 16000000; omega) ?_
    have hgl : h.length ≤ ((h ++ [Ob.lst [.int 1]] ++ [Ob.lst [.int 0]]) ++ [Ob.lst (List.replicate M (.int 0))]).length := by simp [fSeq, fNext, fIfS, fAsg, gSb, sLst, fRet, fRetN, fSet, fVar, fK, fBin, fUn, fTest, fTru, tru, toB, fB, one, two, bInt, bMax2, bMin2, bLen, oIx, oMod, oFdiv, oAdd, oSub, oMul, oLt, oLe, oGt, oGe, oNeg, oPow, oInt2, fCons, fNil, fTup, fLst, fIf, fCall, fNotT, fAndT, fOrT, fAnd, fOr, fNot, fDrop, RS.ofE, RS.ofB, RS.ofL, RS.only, Fn.R.bind, Fn.R.of, Fn.R.ofB, runF, fCmpN, fChK, fChL, fIsi, tyN, gsCons, gsNil, gNm, gTp, fPar2, fAug, fSl, fNoP, fPt, newL, oAddI, fMake, fStar, items, wipeE, ctSet, fSetF]
    generalize (h ++ [Ob.lst [.int 1]] ++ [Ob.lst [.int 0]]) ++ [Ob.lst (List.replicate M (.int 0))] = g0 at a2 hgl
    have e3 : (g0 ++ [Ob.lst ([.int 1] ++ List.replicate M (.int 0))])[g0.length]? = some (.lst ((rowB M 0).map .int)) := by
      simp [fSeq, fNext, fIfS, fAsg, gSb, sLst, fRet, fRetN, fSet, fVar, fK, fBin, fUn, fTest, fTru, tru, toB, fB, one, two, bInt, bMax2, bMin2, bLen, oIx, oMod, oFdiv, oAdd, oSub, oMul, oLt, oLe, oGt, oGe, oNeg, oPow, oInt2, fCons, fNil, fTup, fLst, fIf, fCall, fNotT, fAndT, fOrT, fAnd, fOr, fNot, fDrop, RS.ofE, RS.ofB, RS.ofL, RS.only, Fn.R.bind, Fn.R.of, Fn.R.ofB, runF, fCmpN, fChK, fChL, fIsi, tyN, gsCons, gsNil, gNm, gTp, fPar2, fAug, fSl, fNoP, fPt, newL, oAddI, fMake, fStar, items, wipeE, ctSet, fSetF, rowB]
    have a3 : Agr h (g0 ++ [Ob.lst ([.int 1] ++ List.replicate M (.int 0))]) := a2.app _
    have hl3 : g0.length < (g0 ++ [Ob.lst ([.int 1] ++ List.replicate M (.int 0))]).length := by simp [fSeq, fNext, fIfS, fAsg, gSb, sLst, fRet, fRetN, fSet, fVar, fK, fBin, fUn, fTest, fTru, tru, toB, fB, one, two, bInt, bMax2, bMin2, bLen, oIx, oMod, oFdiv, oAdd, oSub, oMul, oLt, oLe, oGt, oGe, oNeg, oPow, oInt2, fCons, fNil, fTup, fLst, fIf, fCall, fNotT, fAndT, fOrT, fAnd, fOr, fNot, fDrop, RS.ofE, RS.ofB, RS.ofL, RS.only, Fn.R.bind, Fn.R.of, Fn.R.ofB, runF, fCmpN, fChK, fChL, fIsi, tyN, gsCons, gsNil, gNm, gTp, fPar2, fAug, fSl, fNoP, fPt, newL, oAddI, fMake, fStar, items, wipeE, ctSet, fSetF]
    generalize hL : g0.length = L at e3 hl3 hgl
    generalize g0 ++ [Ob.lst ([.int 1] ++ List.replicate M (.int 0))] = g1 at e3 a3 hl3
    refine ws_seq (ws_for (fun i e g => ∃ x3 x4, e = [some (.int k), some (.int m), some (.loc L), x3, x4] ∧ Agr h g ∧ L < g.length ∧ g[L]? = some (.lst ((rowB M i).map .int))) ?_)
    walk_at "fn_wst"
    refine ⟨inR_s (by omega) (by omega), upTo 0 k.toNat, ⟨_, _, rfl, a3, hl3, e3⟩, fun _ _ _ _ => rfl, ?_, ?_⟩
    · rintro i x e g hx ⟨x3, x4, rfl, ag, hLg, hg⟩
      walk_at "fn_wst"
      have hlr := rowB_len M i
      have er : rowB M (i + 1) = inB M (rowB M i) M := rfl
      rw [er]
      generalize rowB M i = R at hg hlr
      refine ws_for (fun j e g2 => ∃ x4, e = [some (.int k), some (.int m), some (.loc L), some x, x4] ∧ Agr h g2 ∧ L < g2.length ∧ g2[L]? = some (.lst ((inB M R j).map .int)) ∧ j ≤ M) ?_
      walk_at "fn_wst"
      rw [Int.add_sub_cancel]
      refine ⟨by rw [Bool.and_eq_true]; exact ⟨inR_s (by decide) (by decide), inR_s (by omega) (by omega)⟩, upTo 1 m.toNat, ⟨_, rfl, ag, hLg, hg, Nat.zero_le _⟩, fun _ _ _ _ => rfl, ?_, ?_⟩
      · rintro j y e g2 hy ⟨x4', rfl, ag2, hL2, hg2, hj⟩
        have hi := lt_get' hy
        rw [upTo_len] at hi
        rw [upTo_get, if_pos hi] at hy
        obtain ⟨J, hJ⟩ : ∃ J : Int, J = 1 + (j : Int) := ⟨_, rfl⟩
        obtain rfl : y = .int J := by injection hy with hy; rw [← hy, hJ]
        have hlj := inB_len M R j
        have es : inB M R (j + 1) = stB (inB M R j) j := rfl
        rw [es]
        generalize inB M R j = W at hg2 hlj
        have g1' : (W.map Val.int)[J.toNat]? = some (.int (W.getD (j + 1) 0)) := by
          rw [show J.toNat = j + 1 by omega, List.getElem?_map, List.getElem?_eq_getElem (by omega), List.getD_eq_getElem?_getD, List.getElem?_eq_getElem (by omega)]
          rfl
        have g2' : (W.map Val.int)[(J - 1).toNat]? = some (.int (W.getD j 0)) := by
          rw [show (J - 1).toNat = j by omega, List.getElem?_map, List.getElem?_eq_getElem (by omega), List.getD_eq_getElem?_getD, List.getElem?_eq_getElem (by omega)]
          rfl
        refine wg_nm (ws_asg (we_bin (we_bin (we_var rfl (we_var rfl (wo_ixL hg2 (atI_int (by omega) g1') ?_))))))
        refine we_bin (we_var rfl (we_bin (we_var rfl (we_K (wo_sub (wo_ixL hg2 (atI_int (by omega) g2') ?_))))))
        refine wo_add (wg_sb (we_var rfl (we_var rfl ⟨_, sLstJ hg2 (by omega) (by rw [List.length_map]; omega), ?_⟩)))
        refine ⟨_, rfl, ag2.set hgl _, by rw [List.length_set]; exact hL2, ?_, by omega⟩
        rw [List.getElem?_set_self hL2, show J.toNat = j + 1 by omega]
        unfold stB
        rw [List.map_set]
      · rintro e g2 ⟨x4', rfl, ag2, hL2, hg2, hj⟩
        rw [upTo_len, hM] at hg2
        exact ⟨_, _, rfl, ag2, hL2, hg2⟩
    · rintro e g ⟨x3, x4, rfl, ag, hLg, hg⟩
      rw [upTo_len] at hg
      have hlr := rowB_len M k.toNat
      generalize rowB M k.toNat = R at hg hlr hT
      refine ws_ret (we_bin (we_var rfl (we_var rfl (wo_ixL hg (x := .int (bagsI k m)) (atI_int m0 ?_) ⟨rfl, ag⟩))))
      rw [hM, List.getElem?_map, List.getElem?_eq_getElem (by omega), ← hT, List.getD_eq_getElem?_getD, List.getElem?_eq_getElem (by omega)]
      rfl
  obtain ⟨x, h1, e, rfl, a⟩ := q.get
  exact ⟨h1, e, a⟩
end Fn
end
section
set_option maxHeartbeats 4000000
namespace Fn
open PySem PySem.Spec L2
/-! ## k02: what is refused; the law -/
theorem told02_count {c : Nat} {t1 : Nat → Option Bool} {w : Val} {e : Env} {h : Store} (q1 : t1 c = some true) : told02 t1 c w e h = .ret (.tup [.str "count", w]) h := by
  unfold told02
  simp [fSeq, fNext, fIfS, fAsg, gSb, sLst, fRet, fRetN, fSet, fVar, fK, fBin, fUn, fTest, fTru, tru, toB, fB, one, two, bInt, bMax2, bMin2, bLen, oIx, oMod, oFdiv, oAdd, oSub, oMul, oLt, oLe, oGt, oGe, oNeg, oPow, oInt2, fCons, fNil, fTup, fLst, fIf, fCall, fNotT, fAndT, fOrT, fAnd, fOr, fNot, fDrop, RS.ofE, RS.ofB, RS.ofL, RS.only, Fn.R.bind, Fn.R.of, Fn.R.ofB, runF, fCmpN, fChK, fChL, fIsi, tyN, gsCons, gsNil, gNm, gTp, fPar2, fAug, fSl, fNoP, fPt, newL, oAddI, fMake, fStar, items, wipeE, ctSet, fSetF, fRet, fTup, fCons, fIf, fTru, fIsD, fK, fWhat, fNil, q1, truthy]
theorem chooseXa {cc : Nat} {a b : Int} {h : Store} (ha : a < 0) : chooseF cc [.int a, .int b] h = .exc cc (.int a) h := by
  have q : WE (fun c w h' => c = cc ∧ w = .int a ∧ h' = h) (fun _ _ => False) (chooseF cc [.int a, .int b] h) := by
    unfold chooseF
    refine we_run ?_
    walk_at "fn_wgo"
    refine wif_t (decide_eq_true ha) ?_
    walk_at "fn_wgo"
    exact ⟨rfl, rfl, rfl⟩
  obtain ⟨c, w, h1, e, rfl, rfl, rfl⟩ := q.getX
  exact e
theorem chooseXb {cc : Nat} {a b : Int} {h : Store} (ha : 0 ≤ a) (hb : b < 0 ∨ 400 < b) : chooseF cc [.int a, .int b] h = .exc cc (.int b) h := by
  have q : WE (fun c w h' => c = cc ∧ w = .int b ∧ h' = h) (fun _ _ => False) (chooseF cc [.int a, .int b] h) := by
    unfold chooseF
    refine we_run ?_
    walk_at "fn_wgo"
    refine wif_d (fun z => by omega) fun _ => ?_
    walk_at "fn_wgo"
    refine wif_d (fun z => ?_) fun z => ?_
    · walk_at "fn_wgo"
      refine wif_d (fun z2 => by omega) fun _ => ?_
      walk_at "fn_wgo"
      exact ⟨rfl, rfl, rfl⟩
    · walk_at "fn_wgo"
      refine wif_f rfl ?_
      walk_at "fn_wgo"
      exact ⟨rfl, rfl, rfl⟩
  obtain ⟨c, w, h1, e, rfl, rfl, rfl⟩ := q.getX
  exact e
theorem bagsXa {cc : Nat} {a b : Int} {h : Store} (ha : a < 0) : bagsF cc [.int a, .int b] h = .exc cc (.int a) h := by
  have q : WE (fun c w h' => c = cc ∧ w = .int a ∧ h' = h) (fun _ _ => False) (bagsF cc [.int a, .int b] h) := by
    unfold bagsF
    refine we_run ?_
    walk_at "fn_wgo"
    refine wif_t (decide_eq_true ha) ?_
    walk_at "fn_wgo"
    exact ⟨rfl, rfl, rfl⟩
  obtain ⟨c, w, h1, e, rfl, rfl, rfl⟩ := q.getX
  exact e
theorem bagsXb {cc : Nat} {a b : Int} {h : Store} (ha : 0 ≤ a) (hb : b < 0) : bagsF cc [.int a, .int b] h = .exc cc (.int b) h := by
  have q : WE (fun c w h' => c = cc ∧ w = .int b ∧ h' = h) (fun _ _ => False) (bagsF cc [.int a, .int b] h) := by
    unfold bagsF
    refine we_run ?_
    walk_at "fn_wgo"
    refine wif_d (fun z => by omega) fun _ => ?_
    walk_at "fn_wgo"
    refine wif_t (decide_eq_true hb) ?_
    walk_at "fn_wgo"
    exact ⟨rfl, rfl, rfl⟩
  obtain ⟨c, w, h1, e, rfl, rfl, rfl⟩ := q.getX
  exact e
theorem bagsXc {cc : Nat} {a b : Int} {h : Store} (ha : 400 < a) (hb : 60 < b) : bagsF cc [.int a, .int b] h = .exc cc (.int a) h := by
  have q : WE (fun c w h' => c = cc ∧ w = .int a ∧ h' = h) (fun _ _ => False) (bagsF cc [.int a, .int b] h) := by
    unfold bagsF
    refine we_run ?_
    walk_at "fn_wgo"
    refine wif_d (fun z => by omega) fun _ => ?_
    walk_at "fn_wgo"
    refine wif_d (fun z => by omega) fun _ => ?_
    walk_at "fn_wgo"
    refine wif_t (decide_eq_true ha) ?_
    walk_at "fn_wgo"
    refine wif_t (decide_eq_true hb) ?_
    walk_at "fn_wgo"
    exact ⟨rfl, rfl, rfl⟩
  obtain ⟨c, w, h1, e, rfl, rfl, rfl⟩ := q.getX
  exact e
theorem wo_pow18 {Q : Val → Store → Prop} {h : Store} (p : Q (.int 1000000000000000000) h) : WO Q (oPow (.int 10) (.int 18) h) := wo_pow (by decide +kernel) p
theorem wo_pow12 {Q : Val → Store → Prop} {h : Store} (p : Q (.int 1000000000000) h) : WO Q (oPow (.int 10) (.int 12) h) := wo_pow (by decide +kernel) p
theorem chooseR_ok {cc s : Nat} {t1 t3 : Nat → Option Bool} {h : Store} (S : Src h s) (q1 : t1 cc = some true) (q3 : t3 cc = some true) : ∃ h', chooseR02F cc t1 t3 [.loc s] h = .ok (.bl true) h' ∧ Src h' s := by
  have q : WE noX (fun y h' => y = .bl true ∧ Src h' s) (chooseR02F cc t1 t3 [.loc s] h) := by
    unfold chooseR02F
    refine we_run ?_
    obtain ⟨d1, h1, e1, d10, d11, kp1⟩ := take_ok (top := 15) S (by decide) (by decide)
    obtain ⟨d2, h2, e2, d20, d21, kp2⟩ := take_ok (top := 15) kp1.src (by decide) (by decide)
    obtain ⟨d3, h3, e3, d30, d31, kp3⟩ := take_ok (top := 15) kp2.src (by decide) (by decide)
    obtain ⟨d4, h4, e4, d40, d41, kp4⟩ := take_ok (top := 401) kp3.src (by decide) (by decide)
    obtain ⟨x5, h5, e5, m5, kp5⟩ := one_new (xs := [.int d1, .int d2, .int d3, .int 400, .int d4]) kp4.src (by simp [fSeq, fNext, fIfS, fAsg, gSb, sLst, fRet, fRetN, fSet, fVar, fK, fBin, fUn, fTest, fTru, tru, toB, fB, one, two, bInt, bMax2, bMin2, bLen, oIx, oMod, oFdiv, oAdd, oSub, oMul, oLt, oLe, oGt, oGe, oNeg, oPow, oInt2, fCons, fNil, fTup, fLst, fIf, fCall, fNotT, fAndT, fOrT, fAnd, fOr, fNot, fDrop, RS.ofE, RS.ofB, RS.ofL, RS.only, Fn.R.bind, Fn.R.of, Fn.R.ofB, runF, fCmpN, fChK, fChL, fIsi, tyN, gsCons, gsNil, gNm, gTp, fPar2, fAug, fSl, fNoP, fPt, newL, oAddI, fMake, fStar, items, wipeE, ctSet, fSetF]) (by simp [fSeq, fNext, fIfS, fAsg, gSb, sLst, fRet, fRetN, fSet, fVar, fK, fBin, fUn, fTest, fTru, tru, toB, fB, one, two, bInt, bMax2, bMin2, bLen, oIx, oMod, oFdiv, oAdd, oSub, oMul, oLt, oLe, oGt, oGe, oNeg, oPow, oInt2, fCons, fNil, fTup, fLst, fIf, fCall, fNotT, fAndT, fOrT, fAnd, fOr, fNot, fDrop, RS.ofE, RS.ofB, RS.ofL, RS.only, Fn.R.bind, Fn.R.of, Fn.R.ofB, runF, fCmpN, fChK, fChL, fIsi, tyN, gsCons, gsNil, gNm, gTp, fPar2, fAug, fSl, fNoP, fPt, newL, oAddI, fMake, fStar, items, wipeE, ctSet, fSetF])
    have hb : ∃ b : Int, x5 = .int b ∧ 0 ≤ b ∧ b ≤ 400 := by
      simp only [List.mem_cons, List.not_mem_nil, or_false] at m5
      rcases m5 with rfl | rfl | rfl | rfl | rfl
      all_goals first | exact ⟨_, rfl, by decide, by decide⟩ | exact ⟨_, rfl, by omega, by omega⟩
    obtain ⟨b, rfl, b0, b1⟩ := hb
    refine ws_seq ?_
    walk_at "fn_wst"
    refine we_eq e1 ?_
    walk_at "fn_wst"
    refine we_eq e2 ?_
    walk_at "fn_wst"
    refine we_eq e3 ?_
    walk_at "fn_wst"
    refine we_eq e4 ?_
    walk_at "fn_wst"
    refine we_eq e5 ?_
    have S5 := kp5.src
    clear e1 e2 e3 e4 e5 kp1 kp2 kp3 kp4 kp5 m5 d10 d11 d20 d21 d30 d31 d40 d41 S
    obtain ⟨d1, h1, e1, d10, d11, kp1⟩ := take_ok (top := 13) S5 (by decide) (by decide)
    obtain ⟨d2, h2, e2, d20, d21, kp2⟩ := take_ok (top := 13) kp1.src (by decide) (by decide)
    obtain ⟨d3, h3, e3, d30, d31, kp3⟩ := take_ok (top := 1000000000000000000) kp2.src (by decide) (by decide)
    obtain ⟨x5, h6, e5, m5, kp5⟩ := one_new (xs := [.int d1, .int d2, .int b, .int (b + 1), .int d3]) kp3.src (by simp [fSeq, fNext, fIfS, fAsg, gSb, sLst, fRet, fRetN, fSet, fVar, fK, fBin, fUn, fTest, fTru, tru, toB, fB, one, two, bInt, bMax2, bMin2, bLen, oIx, oMod, oFdiv, oAdd, oSub, oMul, oLt, oLe, oGt, oGe, oNeg, oPow, oInt2, fCons, fNil, fTup, fLst, fIf, fCall, fNotT, fAndT, fOrT, fAnd, fOr, fNot, fDrop, RS.ofE, RS.ofB, RS.ofL, RS.only, Fn.R.bind, Fn.R.of, Fn.R.ofB, runF, fCmpN, fChK, fChL, fIsi, tyN, gsCons, gsNil, gNm, gTp, fPar2, fAug, fSl, fNoP, fPt, newL, oAddI, fMake, fStar, items, wipeE, ctSet, fSetF]) (by simp [fSeq, fNext, fIfS, fAsg, gSb, sLst, fRet, fRetN, fSet, fVar, fK, fBin, fUn, fTest, fTru, tru, toB, fB, one, two, bInt, bMax2, bMin2, bLen, oIx, oMod, oFdiv, oAdd, oSub, oMul, oLt, oLe, oGt, oGe, oNeg, oPow, oInt2, fCons, fNil, fTup, fLst, fIf, fCall, fNotT, fAndT, fOrT, fAnd, fOr, fNot, fDrop, RS.ofE, RS.ofB, RS.ofL, RS.only, Fn.R.bind, Fn.R.of, Fn.R.ofB, runF, fCmpN, fChK, fChL, fIsi, tyN, gsCons, gsNil, gNm, gTp, fPar2, fAug, fSl, fNoP, fPt, newL, oAddI, fMake, fStar, items, wipeE, ctSet, fSetF])
    have ha : ∃ a : Int, x5 = .int a ∧ 0 ≤ a ∧ a < 1000000000000000000 := by
      simp only [List.mem_cons, List.not_mem_nil, or_false] at m5
      rcases m5 with rfl | rfl | rfl | rfl | rfl
      all_goals exact ⟨_, rfl, by omega, by omega⟩
    obtain ⟨a, rfl, a0, a1⟩ := ha
    refine ws_seq ?_
    walk_at "fn_wst"
    refine we_eq e1 ?_
    walk_at "fn_wst"
    refine we_eq e2 ?_
    walk_at "fn_wst"
    refine wo_pow18 ?_
    walk_at "fn_wst"
    refine we_eq e3 ?_
    walk_at "fn_wst"
    refine we_eq e5 ?_
    have S6 := kp5.src
    clear e1 e2 e3 e5 kp1 kp2 kp3 kp5 m5 d10 d11 d20 d21 d30 d31 S5
    generalize hC : PySem.W.mcComb a b = Cm
    have ec : ∀ h, chooseF cc [.int a, .int b] h = .ok (.int Cm) h := fun h => by rw [← hC]; exact choose_ok a0 (by omega) b0 b1
    have el : ∀ h, lwChoose02F [.int a, .int b] h = .ok (.int Cm) h := fun h => by rw [← hC]; exact choose02_ok a0 (by omega) b0 b1
    refine ws_seq ?_
    refine ws_if (we_orT (we_notT (we_tru (we_call (we_cons (we_call (we_cons (we_var rfl (we_cons (we_var rfl (we_nil ⟨rfl, we_eq (ec _) ?_⟩)))))))))))
    refine we_cons (we_call (we_cons (we_var rfl (we_cons (we_var rfl (we_nil ⟨rfl, we_eq (el _) (we_nil ⟨rfl, we_eq isNum_ok ?_⟩)⟩))))))
    refine ⟨_, rfl, wif_f rfl (we_test (we_bin (we_callK (we_nil (we_cons (we_var rfl (we_cons (we_var rfl (we_nil ⟨⟨rfl, rfl⟩, we_eq (ec _) ?_⟩)))))))))⟩
    refine we_call (we_cons (we_var rfl (we_cons (we_var rfl (we_nil ⟨rfl, we_eq (ec _) (wo_eq oNe_int ⟨_, rfl, ?_⟩)⟩)))))
    refine wif_f (by simp [fSeq, fNext, fIfS, fAsg, gSb, sLst, fRet, fRetN, fSet, fVar, fK, fBin, fUn, fTest, fTru, tru, toB, fB, one, two, bInt, bMax2, bMin2, bLen, oIx, oMod, oFdiv, oAdd, oSub, oMul, oLt, oLe, oGt, oGe, oNeg, oPow, oInt2, fCons, fNil, fTup, fLst, fIf, fCall, fNotT, fAndT, fOrT, fAnd, fOr, fNot, fDrop, RS.ofE, RS.ofB, RS.ofL, RS.only, Fn.R.bind, Fn.R.of, Fn.R.ofB, runF, fCmpN, fChK, fChL, fIsi, tyN, gsCons, gsNil, gNm, gTp, fPar2, fAug, fSl, fNoP, fPt, newL, oAddI, fMake, fStar, items, wipeE, ctSet, fSetF]) ?_
    walk_at "fn_wst"
    obtain ⟨d1, h7, e1, d10, d11, kp1⟩ := take_ok (top := 1000000) S6 (by decide) (by decide)
    obtain ⟨d2, h8, e2, d20, d21, kp2⟩ := take_ok (top := 1000000) kp1.src (by decide) (by decide)
    obtain ⟨x5, h9, e5, m5, kp5⟩ := one_new (xs := [.int (-1), .int 401, .int (401 + d2)]) kp2.src (by simp [fSeq, fNext, fIfS, fAsg, gSb, sLst, fRet, fRetN, fSet, fVar, fK, fBin, fUn, fTest, fTru, tru, toB, fB, one, two, bInt, bMax2, bMin2, bLen, oIx, oMod, oFdiv, oAdd, oSub, oMul, oLt, oLe, oGt, oGe, oNeg, oPow, oInt2, fCons, fNil, fTup, fLst, fIf, fCall, fNotT, fAndT, fOrT, fAnd, fOr, fNot, fDrop, RS.ofE, RS.ofB, RS.ofL, RS.only, Fn.R.bind, Fn.R.of, Fn.R.ofB, runF, fCmpN, fChK, fChL, fIsi, tyN, gsCons, gsNil, gNm, gTp, fPar2, fAug, fSl, fNoP, fPt, newL, oAddI, fMake, fStar, items, wipeE, ctSet, fSetF]) (by simp [fSeq, fNext, fIfS, fAsg, gSb, sLst, fRet, fRetN, fSet, fVar, fK, fBin, fUn, fTest, fTru, tru, toB, fB, one, two, bInt, bMax2, bMin2, bLen, oIx, oMod, oFdiv, oAdd, oSub, oMul, oLt, oLe, oGt, oGe, oNeg, oPow, oInt2, fCons, fNil, fTup, fLst, fIf, fCall, fNotT, fAndT, fOrT, fAnd, fOr, fNot, fDrop, RS.ofE, RS.ofB, RS.ofL, RS.only, Fn.R.bind, Fn.R.of, Fn.R.ofB, runF, fCmpN, fChK, fChL, fIsi, tyN, gsCons, gsNil, gNm, gTp, fPar2, fAug, fSl, fNoP, fPt, newL, oAddI, fMake, fStar, items, wipeE, ctSet, fSetF])
    have hw : ∃ w : Int, x5 = .int w ∧ (w < 0 ∨ 400 < w) ∧ w.natAbs ≤ 10000000 := by
      simp only [List.mem_cons, List.not_mem_nil, or_false] at m5
      rcases m5 with rfl | rfl | rfl
      · exact ⟨_, rfl, .inl (by decide), by decide⟩
      · exact ⟨_, rfl, .inr (by decide), by decide⟩
      · exact ⟨_, rfl, .inr (by omega), by omega⟩
    obtain ⟨w, rfl, w0, w1⟩ := hw
    refine ws_seq ?_
    walk_at "fn_wst"
    refine wo_pow6 ?_
    walk_at "fn_wst"
    refine we_eq e1 ?_
    walk_at "fn_wst"
    refine wo_pow6 ?_
    walk_at "fn_wst"
    refine we_eq e2 ?_
    walk_at "fn_wst"
    refine we_eq e5 ?_
    walk_at "fn_wst"
    have S9 := kp5.src
    obtain ⟨ls, hls⟩ : ∃ ls : Int, -1 - d1 = ls := ⟨_, rfl⟩
    have l0 : ls < 0 := by omega
    have l1 : ls.natAbs < 10 ^ 30 := Nat.lt_of_le_of_lt (show ls.natAbs ≤ 1000000 by omega) (by decide)
    have w2 : w.natAbs < 10 ^ 30 := Nat.lt_of_le_of_lt w1 (by decide)
    rw [hls]
    clear e1 e2 e5 kp1 kp2 kp5 m5 d10 d11 d20 d21 hls S6
    refine ws_seq ?_
    refine ws_if (we_test (we_bin (we_B (we_cons ?_))))
    refine we_lamX (e1 := (show fCall (chooseF cc) 2 (fCons (fVar 3) (fCons (fVar 1) fNil)) _ h9 = .exc cc (.int ls) h9 from ?_)) q3 (told02_count q1) ?_
    · show chooseF cc [.int ls, .int b] h9 = _
      exact chooseXa l0
    refine we_nil (wo_one (wo_reprP (by decide +kernel) l1 fun k1 => ?_))
    refine we_B (we_cons (we_tup (we_cons (we_K (we_cons (we_var rfl (we_nil ⟨rfl, we_nil (wo_one (wo_reprP (by decide +kernel) l1 fun k2 => wo_neS k1 ⟨_, rfl, wif_f rfl ?_⟩))⟩)))))))
    walk_at "fn_wst"
    refine ws_seq ?_
    refine ws_if (we_test (we_bin (we_B (we_cons ?_))))
    refine we_lamX (e1 := (show fCall (chooseF cc) 2 (fCons (fVar 3) (fCons (fVar 4) fNil)) _ h9 = .exc cc (.int ls) h9 from ?_)) q3 (told02_count q1) ?_
    · show chooseF cc [.int ls, .int w] h9 = _
      exact chooseXa l0
    refine we_nil (wo_one (wo_reprP (by decide +kernel) l1 fun k1 => ?_))
    refine we_B (we_cons (we_tup (we_cons (we_K (we_cons (we_var rfl (we_nil ⟨rfl, we_nil (wo_one (wo_reprP (by decide +kernel) l1 fun k2 => wo_neS k1 ⟨_, rfl, wif_f rfl ?_⟩))⟩)))))))
    walk_at "fn_wst"
    refine we_lamX (e1 := (show fCall (chooseF cc) 2 (fCons (fVar 2) (fCons (fVar 4) fNil)) _ h9 = .exc cc (.int w) h9 from ?_)) q3 (told02_count q1) ?_
    · show chooseF cc [.int a, .int w] h9 = _
      exact chooseXb a0 w0
    refine we_nil (wo_one (wo_reprP (by decide +kernel) w2 fun k1 => ?_))
    refine we_B (we_cons (we_tup (we_cons (we_K (we_cons (we_var rfl (we_nil ⟨rfl, we_nil (wo_one (wo_reprP (by decide +kernel) w2 fun k2 => wo_eqS k1 ⟨rfl, S9⟩))⟩)))))))
  obtain ⟨y, h', e, rfl, r⟩ := q.get
  exact ⟨h', e, r⟩
end Fn
end
section
set_option maxHeartbeats 4000000
namespace Fn
open PySem PySem.Spec L2
/-! ## k02: bags; the law -/
theorem bagsR_ok {cc s : Nat} {t1 t3 : Nat → Option Bool} {h : Store} (S : Src h s) (q1 : t1 cc = some true) (q3 : t3 cc = some true) : ∃ h', bagsR02F cc t1 t3 [.loc s] h = .ok (.bl true) h' := by
  have q : WE noX (fun y h' => y = .bl true) (bagsR02F cc t1 t3 [.loc s] h) := by
    unfold bagsR02F
    refine we_run ?_
    obtain ⟨k, h1, e1, k0, k1, kp1⟩ := take_ok (top := 9) S (by decide) (by decide)
    obtain ⟨m, h2, e2, m0, m1, kp2⟩ := take_ok (top := 9) kp1.src (by decide) (by decide)
    have S2 := kp2.src
    refine ws_seq ?_
    walk_at "fn_wst"
    refine we_eq e1 ?_
    walk_at "fn_wst"
    refine we_eq e2 ?_
    walk_at "fn_wst"
    clear e1 e2 kp1 kp2
    obtain ⟨h3, e3, a3⟩ := bags02_ok (k := k) (m := m) (h := h2) k0 (by omega) m0 (by omega)
    have S3 := (a3.kp S2).src
    refine ws_seq ?_
    refine ws_if (we_notT (we_tru (we_call (we_cons (we_call (we_cons (we_var rfl (we_cons (we_var rfl (we_nil ⟨rfl, we_eq (bags_ok k0 (by omega) m0 (by omega) (.inl (by omega))) ?_⟩))))))))))
    refine we_cons (we_call (we_cons (we_var rfl (we_cons (we_var rfl (we_nil ⟨rfl, we_eq e3 (we_nil ⟨rfl, we_eq isNum_ok ⟨_, rfl, wif_f rfl ?_⟩⟩)⟩))))))
    walk_at "fn_wst"
    clear e3 a3 S2 k0 k1 m0 m1
    obtain ⟨d1, h4, e1, d10, d11, kp1⟩ := take_ok (top := 1000000000000) S3 (by decide) (by decide)
    obtain ⟨d2, h5, e2, d20, d21, kp2⟩ := take_ok (top := 8) kp1.src (by decide) (by decide)
    obtain ⟨x5, h6, e5, m5, kp5⟩ := one_new (xs := [.int d2, .int 60]) kp2.src (by simp [fSeq, fNext, fIfS, fAsg, gSb, sLst, fRet, fRetN, fSet, fVar, fK, fBin, fUn, fTest, fTru, tru, toB, fB, one, two, bInt, bMax2, bMin2, bLen, oIx, oMod, oFdiv, oAdd, oSub, oMul, oLt, oLe, oGt, oGe, oNeg, oPow, oInt2, fCons, fNil, fTup, fLst, fIf, fCall, fNotT, fAndT, fOrT, fAnd, fOr, fNot, fDrop, RS.ofE, RS.ofB, RS.ofL, RS.only, Fn.R.bind, Fn.R.of, Fn.R.ofB, runF, fCmpN, fChK, fChL, fIsi, tyN, gsCons, gsNil, gNm, gTp, fPar2, fAug, fSl, fNoP, fPt, newL, oAddI, fMake, fStar, items, wipeE, ctSet, fSetF]) (by simp [fSeq, fNext, fIfS, fAsg, gSb, sLst, fRet, fRetN, fSet, fVar, fK, fBin, fUn, fTest, fTru, tru, toB, fB, one, two, bInt, bMax2, bMin2, bLen, oIx, oMod, oFdiv, oAdd, oSub, oMul, oLt, oLe, oGt, oGe, oNeg, oPow, oInt2, fCons, fNil, fTup, fLst, fIf, fCall, fNotT, fAndT, fOrT, fAnd, fOr, fNot, fDrop, RS.ofE, RS.ofB, RS.ofL, RS.only, Fn.R.bind, Fn.R.of, Fn.R.ofB, runF, fCmpN, fChK, fChL, fIsi, tyN, gsCons, gsNil, gNm, gTp, fPar2, fAug, fSl, fNoP, fPt, newL, oAddI, fMake, fStar, items, wipeE, ctSet, fSetF])
    have hm : ∃ c : Int, x5 = .int c ∧ 0 ≤ c ∧ c ≤ 60 := by
      simp only [List.mem_cons, List.not_mem_nil, or_false] at m5
      rcases m5 with rfl | rfl
      all_goals first | exact ⟨_, rfl, by decide, by decide⟩ | exact ⟨_, rfl, by omega, by omega⟩
    obtain ⟨c, rfl, c0, c1⟩ := hm
    obtain ⟨k, hk⟩ : ∃ k, 1 + d1 = k := ⟨_, rfl⟩
    have S6 := kp5.src
    refine ws_seq ?_
    walk_at "fn_wst"
    refine wo_pow12 ?_
    walk_at "fn_wst"
    refine we_eq e1 ?_
    walk_at "fn_wst"
    refine we_eq e2 ?_
    walk_at "fn_wst"
    refine we_eq e5 ?_
    walk_at "fn_wst"
    rw [hk]
    have k0 : 1 ≤ k := by omega
    have k1 : k ≤ 1000000000000 := by omega
    clear e1 e2 e5 kp1 kp2 kp5 m5 d10 d11 d20 d21 hk S3
    refine ws_seq ?_
    refine ws_if (we_notT (we_tru (we_call (we_cons (we_callK (we_nil (we_cons (we_var rfl (we_cons (we_var rfl (we_nil ⟨⟨rfl, rfl⟩, we_eq (bags_ok (k := k) (m := c) (by omega) (by omega) c0 (by omega) (.inr c1)) ?_⟩)))))))))))
    refine we_cons (we_call (we_cons (we_var rfl (we_cons (we_var rfl (we_nil ⟨rfl, we_eq (great02_ok k0 (by omega) c0 (by omega) (.inr c1)) (we_nil ⟨rfl, we_eq isNum_ok ⟨_, rfl, wif_f rfl ?_⟩⟩)⟩))))))
    walk_at "fn_wst"
    obtain ⟨d1, h7, e1, d10, d11, kp1⟩ := take_ok (top := 9) S6 (by decide) (by decide)
    obtain ⟨d2, h8, e2, d20, d21, kp2⟩ := take_ok (top := 9) kp1.src (by decide) (by decide)
    obtain ⟨x9, h9, e3, m3, kp3⟩ := one_new (xs := [.int (1 + d1), .int (1 + d2), .int 400]) kp2.src (by simp [fSeq, fNext, fIfS, fAsg, gSb, sLst, fRet, fRetN, fSet, fVar, fK, fBin, fUn, fTest, fTru, tru, toB, fB, one, two, bInt, bMax2, bMin2, bLen, oIx, oMod, oFdiv, oAdd, oSub, oMul, oLt, oLe, oGt, oGe, oNeg, oPow, oInt2, fCons, fNil, fTup, fLst, fIf, fCall, fNotT, fAndT, fOrT, fAnd, fOr, fNot, fDrop, RS.ofE, RS.ofB, RS.ofL, RS.only, Fn.R.bind, Fn.R.of, Fn.R.ofB, runF, fCmpN, fChK, fChL, fIsi, tyN, gsCons, gsNil, gNm, gTp, fPar2, fAug, fSl, fNoP, fPt, newL, oAddI, fMake, fStar, items, wipeE, ctSet, fSetF]) (by simp [fSeq, fNext, fIfS, fAsg, gSb, sLst, fRet, fRetN, fSet, fVar, fK, fBin, fUn, fTest, fTru, tru, toB, fB, one, two, bInt, bMax2, bMin2, bLen, oIx, oMod, oFdiv, oAdd, oSub, oMul, oLt, oLe, oGt, oGe, oNeg, oPow, oInt2, fCons, fNil, fTup, fLst, fIf, fCall, fNotT, fAndT, fOrT, fAnd, fOr, fNot, fDrop, RS.ofE, RS.ofB, RS.ofL, RS.only, Fn.R.bind, Fn.R.of, Fn.R.ofB, runF, fCmpN, fChK, fChL, fIsi, tyN, gsCons, gsNil, gNm, gTp, fPar2, fAug, fSl, fNoP, fPt, newL, oAddI, fMake, fStar, items, wipeE, ctSet, fSetF])
    obtain ⟨d4, h10, e4, d40, d41, kp4⟩ := take_ok (top := 1000000000) kp3.src (by decide) (by decide)
    obtain ⟨x11, h11, e5, m5, kp5⟩ := one_new (xs := [.int 61, .int d4]) kp4.src (by simp [fSeq, fNext, fIfS, fAsg, gSb, sLst, fRet, fRetN, fSet, fVar, fK, fBin, fUn, fTest, fTru, tru, toB, fB, one, two, bInt, bMax2, bMin2, bLen, oIx, oMod, oFdiv, oAdd, oSub, oMul, oLt, oLe, oGt, oGe, oNeg, oPow, oInt2, fCons, fNil, fTup, fLst, fIf, fCall, fNotT, fAndT, fOrT, fAnd, fOr, fNot, fDrop, RS.ofE, RS.ofB, RS.ofL, RS.only, Fn.R.bind, Fn.R.of, Fn.R.ofB, runF, fCmpN, fChK, fChL, fIsi, tyN, gsCons, gsNil, gNm, gTp, fPar2, fAug, fSl, fNoP, fPt, newL, oAddI, fMake, fStar, items, wipeE, ctSet, fSetF]) (by simp [fSeq, fNext, fIfS, fAsg, gSb, sLst, fRet, fRetN, fSet, fVar, fK, fBin, fUn, fTest, fTru, tru, toB, fB, one, two, bInt, bMax2, bMin2, bLen, oIx, oMod, oFdiv, oAdd, oSub, oMul, oLt, oLe, oGt, oGe, oNeg, oPow, oInt2, fCons, fNil, fTup, fLst, fIf, fCall, fNotT, fAndT, fOrT, fAnd, fOr, fNot, fDrop, RS.ofE, RS.ofB, RS.ofL, RS.only, Fn.R.bind, Fn.R.of, Fn.R.ofB, runF, fCmpN, fChK, fChL, fIsi, tyN, gsCons, gsNil, gNm, gTp, fPar2, fAug, fSl, fNoP, fPt, newL, oAddI, fMake, fStar, items, wipeE, ctSet, fSetF])
    have hk : ∃ c : Int, x9 = .int c ∧ 1 ≤ c ∧ c ≤ 400 := by
      simp only [List.mem_cons, List.not_mem_nil, or_false] at m3
      rcases m3 with rfl | rfl | rfl
      all_goals first | exact ⟨_, rfl, by decide, by decide⟩ | exact ⟨_, rfl, by omega, by omega⟩
    have hm : ∃ c : Int, x11 = .int c ∧ 0 ≤ c ∧ c ≤ 1000000000 := by
      simp only [List.mem_cons, List.not_mem_nil, or_false] at m5
      rcases m5 with rfl | rfl
      all_goals first | exact ⟨_, rfl, by decide, by decide⟩ | exact ⟨_, rfl, by omega, by omega⟩
    obtain ⟨k, rfl, k0, k1⟩ := hk
    obtain ⟨m, rfl, m0, m1⟩ := hm
    have S11 := kp5.src
    refine ws_seq ?_
    walk_at "fn_wst"
    refine we_eq e1 ?_
    walk_at "fn_wst"
    refine we_eq e2 ?_
    walk_at "fn_wst"
    refine we_eq e3 ?_
    walk_at "fn_wst"
    refine wo_pow9 ?_
    walk_at "fn_wst"
    refine we_eq e4 ?_
    walk_at "fn_wst"
    refine we_eq e5 ?_
    walk_at "fn_wst"
    clear e1 e2 e3 e4 e5 kp1 kp2 kp3 kp4 kp5 m3 m5 d10 d11 d20 d21 d40 d41 S6 c0 c1
    refine ws_seq ?_
    refine ws_if (we_notT (we_tru (we_call (we_cons (we_call (we_cons (we_var rfl (we_cons (we_var rfl (we_nil ⟨rfl, we_eq (bags_ok (k := k) (m := m) (by omega) (by omega) m0 (by omega) (.inl k1)) ?_⟩))))))))))
    refine we_cons (we_call (we_cons (we_var rfl (we_cons (we_var rfl (we_nil ⟨rfl, we_eq (great02_ok k0 (by omega) m0 (by omega) (.inl k1)) (we_nil ⟨rfl, we_eq isNum_ok ⟨_, rfl, wif_f rfl ?_⟩⟩)⟩))))))
    walk_at "fn_wst"
    obtain ⟨d1, h12, e1, d10, d11, kp1⟩ := take_ok (top := 1000000) S11 (by decide) (by decide)
    obtain ⟨d2, h13, e2, d20, d21, kp2⟩ := take_ok (top := 1000000) kp1.src (by decide) (by decide)
    obtain ⟨ls, hls⟩ : ∃ ls : Int, -1 - d1 = ls := ⟨_, rfl⟩
    obtain ⟨w, hw⟩ : ∃ w : Int, 401 + d2 = w := ⟨_, rfl⟩
    refine ws_seq ?_
    walk_at "fn_wst"
    refine wo_pow6 ?_
    walk_at "fn_wst"
    refine we_eq e1 ?_
    walk_at "fn_wst"
    refine wo_pow6 ?_
    walk_at "fn_wst"
    refine we_eq e2 ?_
    walk_at "fn_wst"
    rw [hls, hw]
    have l0 : ls < 0 := by omega
    have w0 : 401 ≤ w ∧ w ≤ 2000000 := by omega
    have l1 : ls.natAbs < 10 ^ 30 := Nat.lt_of_le_of_lt (show ls.natAbs ≤ 1000000 by omega) (by decide)
    have w1 : w.natAbs < 10 ^ 30 := Nat.lt_of_le_of_lt (show w.natAbs ≤ 2000000 by omega) (by decide)
    have S13 := kp2.src
    clear e1 e2 kp1 kp2 d10 d11 d20 d21 hls hw S11
    have rows : ∀ {j : Nat} {x : Val}, [Val.tup [.int ls, .int m, .int ls], .tup [.int ls, .int (-3), .int ls], .tup [.int k, .int ls, .int ls], .tup [.int w, .int 61, .int w], .tup [.int 401, .int 1000000000, .int 401]][j]? = some x → ∃ a b c : Int, x = .tup [.int a, .int b, .int c] ∧ c.natAbs < 10 ^ 30 ∧ ∀ g, bagsF cc [.int a, .int b] g = .exc cc (.int c) g := fun {j x} hx => by
      have hm := List.mem_of_getElem? hx
      simp only [List.mem_cons, List.not_mem_nil, or_false] at hm
      rcases hm with rfl | rfl | rfl | rfl | rfl
      · exact ⟨_, _, _, rfl, l1, fun g => bagsXa l0⟩
      · exact ⟨_, _, _, rfl, l1, fun g => bagsXa l0⟩
      · exact ⟨_, _, _, rfl, l1, fun g => bagsXb (by omega) l0⟩
      · exact ⟨_, _, _, rfl, w1, fun g => bagsXc (by omega) (by decide)⟩
      · exact ⟨_, _, _, rfl, by decide, fun g => bagsXc (by decide) (by decide)⟩
    refine ws_seq (ws_for (fun i e g => ∃ x5 x6 x7, e = [some (.loc s), some (.int k), some (.int m), some (.int ls), some (.int w), x5, x6, x7] ∧ Agr h13 g ∧ g[h13.length]? = some (.lst [.tup [.int ls, .int m, .int ls], .tup [.int ls, .int (-3), .int ls], .tup [.int k, .int ls, .int ls], .tup [.int w, .int 61, .int w], .tup [.int 401, .int 1000000000, .int 401]])) ?_)
    refine we_seq (we_lst ?_)
    walk_at "fn_wst"
    refine wo_pow9 ?_
    walk_at "fn_wst"
    generalize hXS : [Val.tup [.int ls, .int m, .int ls], .tup [.int ls, .int (-3), .int ls], .tup [.int k, .int ls, .int ls], .tup [.int w, .int 61, .int w], .tup [.int 401, .int 1000000000, .int 401]] = XS at rows ⊢
    refine ⟨_, seqW_of (xs := XS) (by simp [fSeq, fNext, fIfS, fAsg, gSb, sLst, fRet, fRetN, fSet, fVar, fK, fBin, fUn, fTest, fTru, tru, toB, fB, one, two, bInt, bMax2, bMin2, bLen, oIx, oMod, oFdiv, oAdd, oSub, oMul, oLt, oLe, oGt, oGe, oNeg, oPow, oInt2, fCons, fNil, fTup, fLst, fIf, fCall, fNotT, fAndT, fOrT, fAnd, fOr, fNot, fDrop, RS.ofE, RS.ofB, RS.ofL, RS.only, Fn.R.bind, Fn.R.of, Fn.R.ofB, runF, fCmpN, fChK, fChL, fIsi, tyN, gsCons, gsNil, gNm, gTp, fPar2, fAug, fSl, fNoP, fPt, newL, oAddI, fMake, fStar, items, wipeE, ctSet, fSetF]), XS, ⟨_, _, _, rfl, (Agr.refl h13).app _, by simp [fSeq, fNext, fIfS, fAsg, gSb, sLst, fRet, fRetN, fSet, fVar, fK, fBin, fUn, fTest, fTru, tru, toB, fB, one, two, bInt, bMax2, bMin2, bLen, oIx, oMod, oFdiv, oAdd, oSub, oMul, oLt, oLe, oGt, oGe, oNeg, oPow, oInt2, fCons, fNil, fTup, fLst, fIf, fCall, fNotT, fAndT, fOrT, fAnd, fOr, fNot, fDrop, RS.ofE, RS.ofB, RS.ofL, RS.only, Fn.R.bind, Fn.R.of, Fn.R.ofB, runF, fCmpN, fChK, fChL, fIsi, tyN, gsCons, gsNil, gNm, gTp, fPar2, fAug, fSl, fNoP, fPt, newL, oAddI, fMake, fStar, items, wipeE, ctSet, fSetF]⟩, fun _ _ _ ⟨_, _, _, _, _, q⟩ => live_of q, ?_, ?_⟩
    · rintro i x e g hx ⟨x5, x6, x7, rfl, ag, hg⟩
      obtain ⟨a, b, c, rfl, hc, hb⟩ := rows hx
      refine wg_tp rfl ?_
      refine ws_if (we_test (we_bin (we_B (we_cons ?_))))
      refine we_lamX (e1 := (show fCall (bagsF cc) 2 (fCons (fVar 5) (fCons (fVar 6) fNil)) _ g = .exc cc (.int c) g from ?_)) q3 (told02_count q1) ?_
      · show bagsF cc [.int a, .int b] g = _
        exact hb g
      refine we_nil (wo_one (wo_reprP (by decide +kernel) hc fun k1 => ?_))
      refine we_B (we_cons (we_tup (we_cons (we_K (we_cons (we_var rfl (we_nil ⟨rfl, we_nil (wo_one (wo_reprP (by decide +kernel) hc fun k2 => wo_neS k1 ⟨_, rfl, wif_f rfl ?_⟩))⟩)))))))
      refine ws_next ?_
      exact ⟨_, _, _, rfl, ag, hg⟩
    · rintro e g ⟨x5, x6, x7, rfl, ag, hg⟩
      have b0 : bagsI w 0 = 1 := by
        unfold bagsI
        rw [if_neg (by omega), if_pos (by omega), comb_fall (by decide) (by omega)]
        rfl
      have b1 : bagsI w 1 = w := by
        unfold bagsI
        rw [if_neg (by omega), if_pos (by omega), comb_fall (by decide) (by omega)]
        show fallZ (w - 1 + 1) 1 / 1 = w
        rw [Int.ediv_one, show w - 1 + 1 = w by omega]
        show 1 * (w - 0) = w
        omega
      have b2 : bagsI 0 (m + 1) = 0 := by
        unfold bagsI
        rw [if_pos rfl, if_neg (by omega)]
      refine ws_ret (we_and (we_call (we_cons (we_call (we_cons (we_var rfl (we_cons (we_K (we_nil ⟨rfl, we_eq (bags_ok (by omega) (by omega) (by decide) (by decide) (.inr (by decide))) ?_⟩)))))))))
      rw [b0]
      refine we_cons (we_K (we_nil ⟨rfl, we_eq isNum_ok ⟨_, rfl, fun _ => ?_, fun z => nomatch z⟩⟩))
      refine we_and (we_call (we_cons (we_call (we_cons (we_var rfl (we_cons (we_K (we_nil ⟨rfl, we_eq (bags_ok (by omega) (by omega) (by decide) (by decide) (.inr (by decide))) ?_⟩))))))))
      rw [b1]
      refine we_cons (we_var rfl (we_nil ⟨rfl, we_eq isNum_ok ⟨_, rfl, fun _ => ?_, fun z => nomatch z⟩⟩))
      refine we_and (we_bin (we_call (we_cons (we_K (we_cons (we_K (we_nil ⟨rfl, we_eq (bags_ok (by decide) (by decide) (by decide) (by decide) (.inl (by decide))) (we_K (wo_eq oEq_int ⟨true, by rfl, fun _ => ?_, fun z => nomatch z⟩))⟩)))))))
      refine we_bin (we_call (we_cons (we_K (we_cons (we_bin (we_var rfl (we_K (wo_add (we_nil ⟨rfl, we_eq (bags_ok (by decide) (by decide) (by omega) (by omega) (.inl (by decide))) ?_⟩)))))))))
      rw [b2]
      exact we_K (wo_eq oEq_int rfl)
  obtain ⟨y, h', e, rfl⟩ := q.get
  exact ⟨h', e⟩
theorem law02_ok (cc : Nat) (t1 t3 : Nat → Option Bool) (ns : List Int) (q1 : t1 cc = some true) (q3 : t3 cc = some true) : ∃ h', law02F cc t1 t3 [.ro (ns.map .int)] [] = .ok (.bl true) h' := by
  have q : WE noX (fun y _ => y = .bl true) (law02F cc t1 t3 [.ro (ns.map .int)] []) := by
    unfold law02F
    refine we_run ?_
    have hp : ∃ (s : Nat) (h0 : Store), poolF [.ro (ns.map .int), .int 0] [] = .ok (.loc s) h0 ∧ Src h0 s := by
      obtain ⟨big, mixed, e0, g0, g1, g2⟩ := poolK_ok ns 0 (by decide) (by decide) []
      exact ⟨_, _, e0, big, mixed, by simp [fSeq, fNext, fIfS, fAsg, gSb, sLst, fRet, fRetN, fSet, fVar, fK, fBin, fUn, fTest, fTru, tru, toB, fB, one, two, bInt, bMax2, bMin2, bLen, oIx, oMod, oFdiv, oAdd, oSub, oMul, oLt, oLe, oGt, oGe, oNeg, oPow, oInt2, fCons, fNil, fTup, fLst, fIf, fCall, fNotT, fAndT, fOrT, fAnd, fOr, fNot, fDrop, RS.ofE, RS.ofB, RS.ofL, RS.only, Fn.R.bind, Fn.R.of, Fn.R.ofB, runF, fCmpN, fChK, fChL, fIsi, tyN, gsCons, gsNil, gNm, gTp, fPar2, fAug, fSl, fNoP, fPt, newL, oAddI, fMake, fStar, items, wipeE, ctSet, fSetF], g0, g1, g2⟩
    obtain ⟨s, h0, e0, S0⟩ := hp
    obtain ⟨h1, e1, S1⟩ := chooseR_ok (cc := cc) (t1 := t1) (t3 := t3) S0 q1 q3
    obtain ⟨h2, e2, S2⟩ := chooseR_ok (cc := cc) (t1 := t1) (t3 := t3) S1 q1 q3
    obtain ⟨h3, e3⟩ := bagsR_ok (cc := cc) (t1 := t1) (t3 := t3) S2 q1 q3
    walk_at "fn_wgo"
    refine we_eq e0 ?_
    refine ws_ret (we_and (we_call (we_cons (we_var rfl (we_nil ⟨rfl, we_eq e1 ⟨_, rfl, fun _ => ?_, fun z => nomatch z⟩⟩)))))
    refine we_and (we_call (we_cons (we_var rfl (we_nil ⟨rfl, we_eq e2 ⟨_, rfl, fun _ => ?_, fun z => nomatch z⟩⟩))))
    exact we_call (we_cons (we_var rfl (we_nil ⟨rfl, we_eq e3 rfl⟩)))
  obtain ⟨x, h1, e, rfl⟩ := q.get
  exact ⟨h1, e⟩
end Fn
end
end
section
namespace Gk02
open Fn
theorem law_true (ns : List Int) (hl : ns.length ≤ 63) : ∃ h', f_law [.ro (ns.map .int)] [] = .ok (.bl true) h' := law02_ok 1 (tab [false, true]) (tab [true, true]) ns rfl rfl
end Gk02
open PySem PySem.W PyProof.Rows
set_option maxHeartbeats 0 in
theorem PySem.Challenge.cw_carriedends_k02_choosing_and_bags_holds : PySem.Challenge.rw_carriedends_k02_choosing_and_bags.Holds := by
  w_on; o_law
  refine HandSHeadRun.head_imp (r := OpenLaw.row PySem.Challenge.rw_carriedends_k02_choosing_and_bags) (q := view (OpenLaw.row PySem.Challenge.rw_carriedends_k02_choosing_and_bags).prog [20]) (H := Gk02.hk) (ob := Gk02.ob) (M := 4000) (loose := Gk02.loose) (d := HandSHeadRun.topDef (OpenLaw.row PySem.Challenge.rw_carriedends_k02_choosing_and_bags).prog 20) (kwd := []) Gk02.ob_eq
    Gk02.run (by kernel_rfl) (by kernel_rfl) (by kernel_rfl) (by rfl) (by first | assumption | decide +kernel) (by decide +kernel) ⟨rfl, rfl, rfl, rfl, rfl, by decide +kernel⟩ ?hw ?hc
  case hw => w_witness2
  case hc => exact Fn.walk_fnL (l := PySem.Challenge.rw_carriedends_k02_choosing_and_bags) (n := 63) (k := 8) (y := "law") (st := Gk02.s_law) (F := Gk02.f_law) (Cn := Gk02.clsNames) rfl (by decide) (by kernel_rfl) ⟨⟨rfl, by decide, by decide⟩, rfl⟩ Gk02.b_law (by kernel_rfl) (fun w K mg h base X G c lm => Gk02.r_law (Gk02.tx_of X G c lm)) Gk02.law_true
end
