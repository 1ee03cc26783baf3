import PyProof.Rows.All
import Wide.All
import OpenK.AllK
import Wide.FinOn
import PySem.Challenge.RW_untaughthelm_k00_numbers_of_every_field
import HandS.ForMost
import HandS.Wide
import HandS.Gcd
import HandS.IsInst
import HandS.Deep
import HandS.TupMul
import HandS.FStr
import HandS.Flow
import HandS.Defaults
import HandS.Head3
import HandS.HeadHook2
import HandS.EndBits
import HandS.HeadEnd
set_option Elab.async false
set_option linter.all false
set_option maxRecDepth 100000
/-! Values without addresses, a store of what may change, and what of them stands in the abstract heap. -/
namespace Pv
open PySem PySem.Spec PyProof.Rows L2

inductive PV where
  | non | bl (b : Bool) | int (i : Int) | str (x : Str) | ty (n : String)
  | tup (xs : List PV) | lst (xs : List PV) | scr (ns : List Int)
  | ins (c : Nat) (fs : List (Str × PV))
  | ref (n : Nat)
/-- what may change: a list, an instance -/
inductive SO where
  | lst (xs : List PV) | ins (c : Nat) (fs : List (Str × PV))
abbrev Store := List SO

/-- never written by a program: a tuple, a locked thing -/
def Stay : HO → Prop
  | .tup _ => True
  | .frz _ _ => True
  | _ => False

/-- a list that the top has written -/
def KL (K : W.Frag) (a : Addr) (xs : List V) : Prop := ∃ (o : Obj) (its : Array Value) (n : Nat), K.lookup a = some o ∧ o.cls = .type "list" ∧ o.dict = none ∧ o.data = .seq its n ∧ its.size ≤ sizeLine ∧ Vals xs its.toList
section
variable (K : W.Frag) (cl : Nat → Addr) (H : Hp) (m : List Addr)
mutual
def Rp : PV → V → Prop
  | .non, v => v = .non
  | .bl b, v => v = .bl b
  | .int i, v => v = .int i
  | .str x, v => v = .str x
  | .ty n, v => v = .ty n
  | .tup xs, v => ∃ a ys, v = .ref a ∧ SqT K H a ys ∧ RpL xs ys
  | .lst xs, v => ∃ a ys, v = .ref a ∧ H a = some (.lst ys) ∧ a ∉ m ∧ RpL xs ys
  | .scr ns, v => ∃ a, v = .ref a ∧ ((Rd H a (.lst (ns.map V.int)) ∧ a ∉ m) ∨ KL K a (ns.map V.int))
  | .ins c fs, v => ∃ a dx gs, v = .ref a ∧ H a = some (.ins (cl c) dx gs) ∧ a ∉ m ∧ RpF fs gs
  | .ref n, v => ∃ a, v = .ref a ∧ m[n]? = some a
def RpL : List PV → List V → Prop
  | [], ys => ys = []
  | x :: xs, ys => ∃ y zs, ys = y :: zs ∧ Rp x y ∧ RpL xs zs
def RpF : List (Str × PV) → List (Str × V) → Prop
  | [], ys => ys = []
  | (f, x) :: xs, ys => ∃ y zs, ys = (f, y) :: zs ∧ Rp x y ∧ RpF xs zs
end
def RpO : SO → HO → Prop
  | .lst xs, o => ∃ ys, o = .lst ys ∧ RpL K cl H m xs ys
  | .ins c fs, o => ∃ dx gs, o = .ins (cl c) dx gs ∧ RpF K cl H m fs gs
/-- the store as it stands -/
structure SR (st : Store) : Prop where
  len : m.length = st.length
  nd : m.Nodup
  at_ : ∀ (n : Nat) (a : Addr) (o : SO), m[n]? = some a → st[n]? = some o → ∃ u, H a = some u ∧ RpO K cl H m o u
/-- the names' values -/
def ER (env : List (Option PV)) (σ : L2.St) : Prop := env.length = σ.length ∧ ∀ (i : Nat) (x : PV), env[i]? = some (some x) → ∃ v, σ[i]? = some (some v) ∧ Rp K cl H m x v
end

/-- later: what was not to change is as it was; more may be tracked -/
structure Ext (m : List Addr) (H : Hp) (m' : List Addr) (H' : Hp) : Prop where
  pre : ∃ new, m' = m ++ new ∧ ∀ a ∈ new, H a = none
  keep : ∀ a o, H a = some o → (a ∉ m ∨ Stay o) → H' a = some o
  trk : ∀ a, H a ≠ none → H' a ≠ none

theorem Ext.refl (m : List Addr) (H : Hp) : Ext m H m H := ⟨⟨[], by simp, fun _ h => by simp at h⟩, fun _ _ h _ => h, fun _ h => h⟩
theorem Ext.trans {m m1 m2 : List Addr} {H H1 H2 : Hp} (a : Ext m H m1 H1) (b : Ext m1 H1 m2 H2) : Ext m H m2 H2 := by
  obtain ⟨⟨n1, rfl, f1⟩, k1, t1⟩ := a
  obtain ⟨⟨n2, rfl, f2⟩, k2, t2⟩ := b
  refine ⟨⟨n1 ++ n2, by rw [List.append_assoc], fun c hc => ?_⟩, fun c o h q => ?_, fun c h => t2 c (t1 c h)⟩
  · rcases List.mem_append.mp hc with z | z
    · exact f1 c z
    · cases e : H c with
      | none => rfl
      | some o => exact absurd (f2 c z) (t1 c (by rw [e]; simp))
  · have h1 := k1 c o h q
    refine k2 c o h1 ?_
    rcases q with q | q
    · refine .inl fun z => ?_
      rcases List.mem_append.mp z with z | z
      · exact q z
      · rw [f1 c z] at h; cases h
    · exact .inr q
section
variable {K : W.Frag} {cl : Nat → Addr} {m m' : List Addr} {H H' : Hp}
theorem Ext.notin (e : Ext m H m' H') {a : Addr} {o : HO} (h : H a = some o) (n : a ∉ m) : a ∉ m' := by
  obtain ⟨⟨new, rfl, f⟩, _, _⟩ := e
  intro z
  rcases List.mem_append.mp z with z | z
  · exact n z
  · rw [f a z] at h; cases h
theorem Ext.at_ (e : Ext m H m' H') {n : Nat} {a : Addr} (h : m[n]? = some a) : m'[n]? = some a := by
  obtain ⟨⟨new, rfl, f⟩, _, _⟩ := e
  rw [List.getElem?_append_left (List.getElem?_eq_some_iff.mp h).1]
  exact h
theorem Ext.sqT (e : Ext m H m' H') {a : Addr} {ys : List V} (h : SqT K H a ys) : SqT K H' a ys := by
  rcases h with (h | ⟨o, h⟩) | h
  · exact .inl (.inl (e.keep _ _ h (.inr trivial)))
  · exact .inl (.inr ⟨o, e.keep _ _ h (.inr trivial)⟩)
  · exact .inr h
theorem Ext.rdL (e : Ext m H m' H') {a : Addr} {ys : List V} (h : Rd H a (.lst ys)) (n : a ∉ m) : Rd H' a (.lst ys) := by
  rcases h with h | ⟨o, h⟩
  · exact .inl (e.keep _ _ h (.inl n))
  · exact .inr ⟨o, e.keep _ _ h (.inr trivial)⟩
theorem Rd.trk {a : Addr} {o : HO} (h : Rd H a o) : ∃ u, H a = some u := by
  rcases h with h | ⟨_, h⟩
  · exact ⟨_, h⟩
  · exact ⟨_, h⟩
mutual
theorem Rp.mono (e : Ext m H m' H') : ∀ (x : PV) (v : V), Rp K cl H m x v → Rp K cl H' m' x v
  | .non, v, h => h
  | .bl b, v, h => h
  | .int i, v, h => h
  | .str i, v, h => h
  | .ty n, v, h => h
  | .tup xs, v, h => by
    obtain ⟨a, ys, e1, q, r⟩ := h
    exact ⟨a, ys, e1, e.sqT q, RpL.mono e xs ys r⟩
  | .lst xs, v, h => by
    obtain ⟨a, ys, e1, q, n, r⟩ := h
    exact ⟨a, ys, e1, e.keep _ _ q (.inl n), e.notin q n, RpL.mono e xs ys r⟩
  | .scr ns, v, h => by
    obtain ⟨a, e1, q⟩ := h
    rcases q with ⟨q, n⟩ | q
    · obtain ⟨u, hu⟩ := Rd.trk q
      exact ⟨a, e1, .inl ⟨e.rdL q n, e.notin hu n⟩⟩
    · exact ⟨a, e1, .inr q⟩
  | .ins c fs, v, h => by
    obtain ⟨a, dx, gs, e1, q, n, r⟩ := h
    exact ⟨a, dx, gs, e1, e.keep _ _ q (.inl n), e.notin q n, RpF.mono e fs gs r⟩
  | .ref n, v, h => by
    obtain ⟨a, e1, q⟩ := h
    exact ⟨a, e1, e.at_ q⟩
theorem RpL.mono (e : Ext m H m' H') : ∀ (xs : List PV) (vs : List V), RpL K cl H m xs vs → RpL K cl H' m' xs vs
  | [], vs, h => h
  | x :: xs, vs, h => by
    obtain ⟨y, zs, e1, r, q⟩ := h
    exact ⟨y, zs, e1, Rp.mono e x y r, RpL.mono e xs zs q⟩
theorem RpF.mono (e : Ext m H m' H') : ∀ (xs : List (Str × PV)) (vs : List (Str × V)), RpF K cl H m xs vs → RpF K cl H' m' xs vs
  | [], vs, h => h
  | (f, x) :: xs, vs, h => by
    obtain ⟨y, zs, e1, r, q⟩ := h
    exact ⟨y, zs, e1, Rp.mono e x y r, RpF.mono e xs zs q⟩
end
theorem ER.mono (e : Ext m H m' H') {env : List (Option PV)} {σ : L2.St} (h : ER K cl H m env σ) : ER K cl H' m' env σ :=
  ⟨h.1, fun i x hx => let ⟨v, h1, h2⟩ := h.2 i x hx; ⟨v, h1, Rp.mono e _ _ h2⟩⟩
end
end Pv

set_option Elab.async false
set_option linter.all false
set_option maxRecDepth 100000
/-! A small language and what it does: the mirror of a program's text. -/
namespace Pv
open PySem PySem.Spec PyProof.Rows L2

inductive BOp where | add | sub | mul | fdiv | mod | pow
inductive COp where | lt | le | gt | ge | eq | ne | isN | notN | mem | notMem | isC | notC
/-- a class: a built-in one, an own one -/
inductive Cs where | ty (n : String) | cl (c : Nat)
  deriving DecidableEq
inductive Bi where
  | len | tuple | list (mu : Bool) | abs | int | gcd | all | any | sum | min2 | max2 | str
  | isi (t : Cs) | isiT (ts : List Cs)
def isIsi : Bi → Bool
  | .isi _ => true | .isiT _ => true | _ => false
def isGcd : Bi → Bool
  | .gcd => true | _ => false
/-- what a loop walks -/
inductive Ik where | seq | rng1 | rng2 | zip2 | enum
inductive Tg where
  | n (i : Nat) | t (ts : List Tg)
inductive Ex where
  | v (i : Nat) | c (x : PV) | g (i : Nat)
  | bin (o : BOp) (a b : Ex) | cat (mu : Bool) (a b : Ex) | neg (a : Ex) | not (a : Ex)
  | cmp (o : COp) (a b : Ex) | chain (o p : COp) (a b c : Ex)
  | and (a b : Ex) | or (a b : Ex) | ite (c a b : Ex)
  | tup (es : List Ex) | lst (mu : Bool) (es : List Ex)
  | idx (a i : Ex) | slc (a lo hi : Ex) | nil
  | attr (a : Ex) (f : Str)
  | call (f : Nat) (es : List Ex) | new (c : Nat) (mu : Bool) (es : List Ex) | meth (a : Ex) (m : Str) (es : List Ex)
  | bi (b : Bi) (es : List Ex)
  | comp (mu : Bool) (e : Ex) (tg : Tg) (k : Ik) (its : List Ex) (ts : List Ex)
inductive Sm where
  | set (t : Tg) (e : Ex) | par (i j : Nat) (a b : Ex) | aug (i : Nat) (o : BOp) (e : Ex)
  | setIx (a i e : Ex) | swap (a i b j : Ex) (x y : Ex) | setAt (a : Ex) (f : Str) (e : Ex)
  | ex (e : Ex) | app (a e : Ex) | ext (a e : Ex)
  | ite (c : Ex) (a b : List Sm) | whl (c : Ex) (b : List Sm) | for_ (tg : Tg) (k : Ik) (its : List Ex) (b : List Sm)
  | ret (e : Ex) | retN | brk | cnt | pass | bad

/-- an exception in the air: its class, what it was made of -/
structure PX where
  c : Nat
  fs : List (Str × PV)
inductive Res (α : Type) where
  | ok (a : α) (st : Store) | exc (x : PX) (st : Store) | bad
def Res.bind {α β : Type} (r : Res α) (f : α → Store → Res β) : Res β := match r with
  | .ok a st => f a st
  | .exc x st => .exc x st
  | .bad => .bad
inductive Fl where | nx | ret (v : PV) | bk | ct
abbrev En := List (Option PV)

/-- a def: how many parameters, the defaults of the last ones, how many names, its body; mu: a list that it hands back stays one that may change -/
structure Df where
  np : Nat
  dv : List PV
  nn : Nat
  mu : Bool
  body : List Sm
/-- a class: its __init__ and its methods by name (numbers of defs) -/
structure Kl where
  init : Option Nat
  ms : List (Str × Nat)
  ats : List Str
structure Prog where
  df : List Df
  kl : List Kl
  gl : List PV
  isl : List (Cs × Cs × Bool)
  /-- how often a while loop may turn -/
  wf : Nat

/-! ### data -/
mutual
/-- every reference replaced -/
def frz (f : Nat → Option PV) : PV → Option PV
  | .tup xs => match frzL f xs with
    | some ys => some (.tup ys)
    | none => none
  | .lst xs => match frzL f xs with
    | some ys => some (.lst ys)
    | none => none
  | .ins c fs => match frzF f fs with
    | some gs => some (.ins c gs)
    | none => none
  | .ref n => f n
  | .non => some .non
  | .bl b => some (.bl b)
  | .int i => some (.int i)
  | .str x => some (.str x)
  | .ty n => some (.ty n)
  | .scr ns => some (.scr ns)
def frzL (f : Nat → Option PV) : List PV → Option (List PV)
  | [] => some []
  | x :: xs => match frz f x, frzL f xs with
    | some y, some ys => some (y :: ys)
    | _, _ => none
def frzF (f : Nat → Option PV) : List (Str × PV) → Option (List (Str × PV))
  | [] => some []
  | (n, x) :: xs => match frz f x, frzF f xs with
    | some y, some ys => some ((n, y) :: ys)
    | _, _ => none
end
/-- references from n₀ on replaced by what stands there (but x), d deep -/
def onRef (st : Store) (n₀ x : Nat) : Nat → Nat → Option PV
  | 0, n => if n < n₀ then some (.ref n) else none
  | d + 1, n => if n < n₀ then some (.ref n) else if n = x then none else match st[n]? with
    | some (.lst xs) => match frzL (onRef st n₀ x d) xs with
      | some ys => some (.lst ys)
      | none => none
    | some (.ins c fs) => match frzF (onRef st n₀ x d) fs with
      | some gs => some (.ins c gs)
      | none => none
    | none => none
mutual
/-- a value as data -/
def dat (f : Nat → Option PyData) : PV → Option PyData
  | .non => some .none
  | .bl b => some (.bool b)
  | .int i => some (.int i)
  | .str x => some (.str x)
  | .tup xs => match dats f xs with
    | some ds => some (.tuple ds)
    | none => none
  | .lst xs => match dats f xs with
    | some ds => some (.list ds)
    | none => none
  | .ref n => f n
  | _ => none
def dats (f : Nat → Option PyData) : List PV → Option (List PyData)
  | [] => some []
  | x :: xs => match dat f x, dats f xs with
    | some y, some ys => some (y :: ys)
    | _, _ => none
end
def refD (st : Store) : Nat → Nat → Option PyData
  | 0, _ => none
  | d + 1, n => match st[n]? with
    | some (.lst xs) => match dats (refD st d) xs with
      | some ds => some (.list ds)
      | none => none
    | _ => none
/-- lists that may change are read -/
def datOf (st : Store) (v : PV) : Option PyData := dat (refD st 3) v
/-- a list or a tuple: whether it is a tuple, its items -/
def seqOf (st : Store) : PV → Option (Bool × List PV)
  | .tup xs => some (true, xs)
  | .lst xs => some (false, xs)
  | .ref n => match st[n]? with
    | some (.lst xs) => some (false, xs)
    | _ => none
  | _ => none
def insOf (st : Store) : PV → Option (Nat × List (Str × PV))
  | .ins c fs => some (c, fs)
  | .ref n => match st[n]? with
    | some (.ins c fs) => some (c, fs)
    | _ => none
  | _ => none
def truth (st : Store) : PV → Option Bool
  | .non => some false
  | .bl b => some b
  | .int i => some (decide (i ≠ 0))
  | .str x => if x.length ≤ sizeLine then some (decide (x.length ≠ 0)) else none
  | .tup xs => some (!xs.isEmpty)
  | .lst xs => some (!xs.isEmpty)
  | .ref n => match st[n]? with
    | some (.lst xs) => some (!xs.isEmpty)
    | _ => none
  | _ => none
/-- a new list: one that may change, or one that will not -/
def mkL (mu : Bool) (xs : List PV) (st : Store) : Res PV := if mu then .ok (.ref st.length) (st ++ [.lst xs]) else .ok (.lst xs) st

/-! ### operations -/
def MulOk (i j : Int) : Prop := i.natAbs.log2 + j.natAbs.log2 < 100000000
def DivOk (_ j : Int) : Prop := j ≠ 0 ∧ j.natAbs.log2 < 9000
def PowOk (i j : Int) : Prop := 0 ≤ j ∧ j ≤ 1000 ∧ i.natAbs < 2 ^ 64
instance : Decidable (MulOk i j) := by unfold MulOk; infer_instance
instance : Decidable (DivOk i j) := by unfold DivOk; infer_instance
instance : Decidable (PowOk i j) := by unfold PowOk; infer_instance
def bin2 (o : BOp) (a b : PV) (st : Store) : Res PV := match o, a, b with
  | .add, .int i, .int j => .ok (.int (i + j)) st
  | .sub, .int i, .int j => .ok (.int (i - j)) st
  | .mul, .int i, .int j => if MulOk i j then .ok (.int (i * j)) st else .bad
  | .fdiv, .int i, .int j => if DivOk i j then .ok (.int (i.fdiv j)) st else .bad
  | .mod, .int i, .int j => if j ≠ 0 then .ok (.int (i.fmod j)) st else .bad
  | .pow, .int i, .int j => if PowOk i j then .ok (.int (i ^ j.toNat)) st else .bad
  | .add, .tup xs, .tup ys => if xs.length + ys.length ≤ sizeLine then .ok (.tup (xs ++ ys)) st else .bad
  | .add, .str x, .str y => if x.length + y.length ≤ sizeLine then .ok (.str (x ++ y)) st else .bad
  | _, _, _ => .bad
/-- lists are added to a new list -/
def addL (mu : Bool) (a b : PV) (st : Store) : Res PV := match seqOf st a, seqOf st b with
  | some (false, xs), some (false, ys) => if xs.length + ys.length ≤ sizeLine then mkL mu (xs ++ ys) st else .bad
  | _, _ => .bad
def cmp2 (o : COp) (a b : PV) (st : Store) : Option Bool := match o with
  | .lt => match a, b with | .int i, .int j => some (decide (i < j)) | _, _ => none
  | .le => match a, b with | .int i, .int j => some (decide (i ≤ j)) | _, _ => none
  | .gt => match a, b with | .int i, .int j => some (decide (j < i)) | _, _ => none
  | .ge => match a, b with | .int i, .int j => some (decide (j ≤ i)) | _, _ => none
  | .eq => match datOf st a, datOf st b with
    | some d, some e => if SeqAt.shaped d = true ∧ SeqAt.shaped e = true then some (PyData.eqv d e) else none
    | _, _ => none
  | .ne => match datOf st a, datOf st b with
    | some d, some e => if SeqAt.shaped d = true ∧ SeqAt.shaped e = true then some (!PyData.eqv d e) else none
    | _, _ => none
  | .isN => match b with | .non => some (match a with | .non => true | _ => false) | _ => none
  | .notN => match b with | .non => some (match a with | .non => false | _ => true) | _ => none
  | _ => none

/-- a in b: a list of any data, a tuple of flat data -/
def memL (st : Store) (a b : PV) : Option Bool := match datOf st a, datOf st b with
  | some d, some (.list ds) => if SeqAt.shaped d = true ∧ SeqAt.shaped (.list ds) = true then some (ds.any fun z => PyData.eqv z d) else none
  | _, _ => none
def intsOf : List PV → Option (List Int)
  | [] => some []
  | .int i :: xs => match intsOf xs with
    | some is => some (i :: is)
    | none => none
  | _ :: _ => none
def blsOf : List PV → Option (List Bool)
  | [] => some []
  | .bl i :: xs => match blsOf xs with
    | some is => some (i :: is)
    | none => none
  | _ :: _ => none
def mem2 (st : Store) (a b : PV) : Option Bool := match b with
  | .tup xs => match a, intsOf xs with
    | .int i, some is => some (is.any fun j => decide (j = i))
    | _, _ => none
  | _ => memL st a b
def isV (a b : PV) : Option Bool := match b with
  | .non => some (match a with | .non => true | _ => false)
  | .bl c => some (match a with | .bl d => decide (d = c) | _ => false)
  | _ => none
def cmpR (o : COp) (a b : PV) (st : Store) : Option Bool := match o with
  | .mem => mem2 st a b
  | .notMem => (mem2 st a b).map (!·)
  | .isC => isV a b
  | .notC => (isV a b).map (!·)
  | o => cmp2 o a b st
/-- the type's name -/
def tyOf (st : Store) : PV → Option Cs
  | .non => some (.ty "NoneType")
  | .bl _ => some (.ty "bool")
  | .int _ => some (.ty "int")
  | .str _ => some (.ty "str")
  | .tup _ => some (.ty "tuple")
  | .lst _ => some (.ty "list")
  | .ins c _ => some (.cl c)
  | .ref n => match st[n]? with
    | some (.lst _) => some (.ty "list")
    | some (.ins c _) => some (.cl c)
    | none => none
  | _ => none
/-- is one class under another: built-in ones as they are, others by a list -/
def isaT (l : List (Cs × Cs × Bool)) (a b : Cs) : Option Bool := match a, b with
  | .ty x, .ty y => kitB x y
  | a, b => (l.find? fun q => decide (q.1 = a ∧ q.2.1 = b)).map (·.2.2)
def isaA (l : List (Cs × Cs × Bool)) (a : Cs) : List Cs → Option Bool
  | [] => some false
  | c :: r => match isaT l a c with
    | some true => some true
    | some false => isaA l a r
    | none => none
def csOk (n : Nat) : Cs → Bool
  | .ty _ => true
  | .cl c => decide (c < n)
def biF (l : List (Cs × Cs × Bool)) (n : Nat) (b : Bi) (vs : List PV) (st : Store) : Res PV := match b, vs with
  | .len, [v] => match seqOf st v with
    | some (_, xs) => .ok (.int xs.length) st
    | none => .bad
  | .tuple, [v] => match seqOf st v with
    | some (_, xs) => .ok (.tup xs) st
    | none => .bad
  | .list mu, [v] => match seqOf st v with
    | some (_, xs) => mkL mu xs st
    | none => .bad
  | .abs, [.int i] => .ok (.int (if i < 0 then -i else i)) st
  | .int, [.int i] => .ok (.int i) st
  | .gcd, [.int i, .int j] => .ok (.int ((Nat.gcd i.natAbs j.natAbs : Nat) : Int)) st
  | .all, [v] => match seqOf st v with
    | some (false, xs) => match blsOf xs with
      | some bs => .ok (.bl (bs.all id)) st
      | none => .bad
    | _ => .bad
  | .any, [v] => match seqOf st v with
    | some (false, xs) => match blsOf xs with
      | some bs => .ok (.bl (bs.any id)) st
      | none => .bad
    | _ => .bad
  | .sum, [v] => match seqOf st v with
    | some (false, xs) => match intsOf xs with
      | some is => .ok (.int is.sum) st
      | none => .bad
    | _ => .bad
  | .min2, [.int i, .int j] => .ok (.int (if j < i then j else i)) st
  | .max2, [.int i, .int j] => .ok (.int (if j > i then j else i)) st
  | .str, [.int i] => if i.natAbs.log2 < 1920 then .ok (.str (toString i)) st else .bad
  | .isi c, [v] => match (tyOf st v).bind fun t => if csOk n t then isaT l t c else none with
    | some r => .ok (.bl r) st
    | none => .bad
  | .isiT cs, [v] => match (tyOf st v).bind fun t => if csOk n t then isaA l t cs else none with
    | some r => .ok (.bl r) st
    | none => .bad
  | _, _ => .bad

/-! ### running -/
structure Ev where
  E : Ex → En → Store → Res PV
  T : Ex → En → Store → Res Bool
  S : Sm → En → Store → Res (Fl × En)
  call : Nat → List PV → Store → Res PV
def evL (r : Ev) : List Ex → En → Store → Res (List PV)
  | [], _, st => .ok [] st
  | e :: es, env, st => (r.E e env st).bind fun v st => (evL r es env st).bind fun vs st => .ok (v :: vs) st
def blk (r : Ev) : List Sm → En → Store → Res (Fl × En)
  | [], env, st => .ok (.nx, env) st
  | s :: ss, env, st => (r.S s env st).bind fun a st => match a with
    | (.nx, env) => blk r ss env st
    | (f, env) => .ok (f, env) st
mutual
def asg : Tg → PV → En → Option En
  | .n i, v, env => if i < env.length then some (env.set i (some v)) else none
  | .t ts, v, env => match v with
    | .tup xs => asgs ts xs env
    | _ => none
def asgs : List Tg → List PV → En → Option En
  | [], [], env => some env
  | t :: ts, x :: xs, env => match asg t x env with
    | some env => asgs ts xs env
    | none => none
  | _, _, _ => none
end
mutual
def slots : Tg → List Nat
  | .n i => [i]
  | .t ts => slotss ts
def slotss : List Tg → List Nat
  | [] => []
  | t :: ts => slots t ++ slotss ts
end
/-- what a loop walks: the items, and what must stay as it is meanwhile -/
def walk (k : Ik) (vs : List PV) (st : Store) : Option (List PV × (Store → Prop)) := match k, vs with
  | .seq, [v] => match seqOf st v with
    | some (b, xs) => some (xs, fun st' => seqOf st' v = some (b, xs))
    | none => none
  | .rng1, [.int j] => if -(2 ^ 62) ≤ j ∧ j < 2 ^ 62 then some ((List.range j.toNat).map fun (i : Nat) => .int i, fun _ => True) else none
  | .rng2, [.int i, .int j] => if -(2 ^ 62) ≤ i ∧ i < 2 ^ 62 ∧ -(2 ^ 62) ≤ j ∧ j < 2 ^ 62 then some ((List.range (j - i).toNat).map fun (k : Nat) => .int (i + k), fun _ => True) else none
  | .zip2, [v, w] => match seqOf st v, seqOf st w with
    | some (b, xs), some (c, ys) => some ((xs.zip ys).map fun p => .tup [p.1, p.2], fun st' => seqOf st' v = some (b, xs) ∧ seqOf st' w = some (c, ys))
    | _, _ => none
  | .enum, [v] => match seqOf st v with
    | some (b, xs) => some (xs.zipIdx.map fun p => .tup [.int p.2, p.1], fun st' => seqOf st' v = some (b, xs))
    | none => none
  | _, _ => none
open Classical in
noncomputable def forL (r : Ev) (tg : Tg) (body : List Sm) (g : Store → Prop) : List PV → En → Store → Res (Fl × En)
  | [], env, st => if g st then .ok (.nx, env) st else .bad
  | x :: xs, env, st => if g st then match asg tg x env with
      | some env => (blk r body env st).bind fun a st => match a with
        | (.nx, env) => forL r tg body g xs env st
        | (.ct, env) => forL r tg body g xs env st
        | (.bk, env) => .ok (.nx, env) st
        | (.ret v, env) => .ok (.ret v, env) st
      | none => .bad
    else .bad
def whileN (r : Ev) (c : Ex) (body : List Sm) : Nat → En → Store → Res (Fl × En)
  | 0, _, _ => .bad
  | n + 1, env, st => (r.T c env st).bind fun b st => if b then (blk r body env st).bind fun a st => match a with
      | (.nx, env) => whileN r c body n env st
      | (.ct, env) => whileN r c body n env st
      | (.bk, env) => .ok (.nx, env) st
      | (.ret v, env) => .ok (.ret v, env) st
    else .ok (.nx, env) st
def tests (r : Ev) : List Ex → En → Store → Res Bool
  | [], _, st => .ok true st
  | [t], env, st => r.T t env st
  | _, _, _ => .bad
/-- one item more at the list at d -/
def push (d : Nat) (y : PV) (st : Store) : Option Store := match st[d]? with
  | some (.lst acc) => if acc.length < sizeLine then some (st.set d (.lst (acc ++ [y]))) else none
  | _ => none
open Classical in
noncomputable def compL (r : Ev) (e : Ex) (tg : Tg) (ts : List Ex) (g : Store → Prop) (d : Nat) (env : En) : List PV → Store → Res Unit
  | [], st => if g st then .ok () st else .bad
  | x :: xs, st => if g st then match asg tg x env with
      | some env' => (tests r ts env' st).bind fun b st => if b then (r.E e env' st).bind fun y st => match push d y st with
          | some st => compL r e tg ts g d env xs st
          | none => .bad
        else compL r e tg ts g d env xs st
      | none => .bad
    else .bad
def wipeE (env : En) : List Nat → En
  | [] => env
  | v :: vs => (wipeE env vs).set v none
mutual
/-- no reference from n₀ on -/
def oldV (n₀ : Nat) : PV → Bool
  | .tup xs => oldVs n₀ xs
  | .lst xs => oldVs n₀ xs
  | .ins _ fs => oldFs n₀ fs
  | .ref n => decide (n < n₀)
  | _ => true
def oldVs (n₀ : Nat) : List PV → Bool
  | [] => true
  | x :: xs => oldV n₀ x && oldVs n₀ xs
def oldFs (n₀ : Nat) : List (Str × PV) → Bool
  | [] => true
  | (_, x) :: xs => oldV n₀ x && oldFs n₀ xs
end
def oldO (n₀ : Nat) : SO → Bool
  | .lst xs => oldVs n₀ xs
  | .ins _ fs => oldFs n₀ fs
/-- what stood before a call refers to nothing that was made in it -/
def OldOk (st st' : Store) : Prop := st.length ≤ st'.length ∧ ∀ n, n < st.length → st'[n]? = st[n]? ∨ ∀ o, st'[n]? = some o → oldO st.length o = true
open Classical in
/-- behind a call: what it made is let go; mu: the list that it hands back may change on -/
noncomputable def done (st : Store) (mu : Bool) (v : PV) (st' : Store) : Res PV :=
  if st'.length = st.length then .ok v st'
  else if OldOk st st' then match mu, v with
    | true, .ref n => if n < st.length then .ok (.ref n) (st'.take st.length) else match st'[n]? with
      | some (.lst xs) => match frzL (onRef st' st.length n 3) xs with
        | some ys => .ok (.ref st.length) (st'.take st.length ++ [.lst ys])
        | none => .bad
      | some (.ins c fs) => match frzF (onRef st' st.length n 3) fs with
        | some gs => .ok (.ref st.length) (st'.take st.length ++ [.ins c gs])
        | none => .bad
      | none => .bad
    | _, v => match frz (onRef st' st.length st'.length 3) v with
      | some v' => .ok v' (st'.take st.length)
      | none => .bad
  else .bad
noncomputable def comp (r : Ev) (mu : Bool) (e : Ex) (tg : Tg) (k : Ik) (its ts : List Ex) (env : En) (st : Store) : Res PV :=
  (evL r its env st).bind fun vs st => match walk k vs st with
    | some (xs, g) => (compL r e tg ts g st.length (wipeE env (slots tg)) xs (st ++ [.lst []])).bind fun _ st' => if mu then .ok (.ref st.length) st' else done st false (.ref st.length) st'
    | none => .bad
def partOf (r : Ev) (e : Ex) (env : En) (st : Store) : Res (Option Int) := match e with
  | .nil => .ok none st
  | e => (r.E e env st).bind fun v st => match v with
    | .int i => .ok (some i) st
    | _ => .bad
def cutP (xs : List PV) (lo hi : Option Int) : List PV := (xs.drop (HT.sIx xs.length 0 lo)).take (HT.sIx xs.length xs.length hi - HT.sIx xs.length 0 lo)
def tl {α : Type} (x : Option α) (st : Store) : Res α := match x with
  | some a => .ok a st
  | none => .bad
def putP (f : Str) (v : PV) : List (Str × PV) → List (Str × PV)
  | [] => [(f, v)]
  | (g, x) :: r => if g = f then (g, v) :: r else (g, x) :: putP f v r
/-- the arguments with the defaults behind them -/
def pad (d : Df) (vs : List PV) : List PV := vs ++ d.dv.drop (d.dv.length - (d.np - vs.length))
open Classical in
noncomputable def newI (r : Ev) (c f : Nat) (mu : Bool) (vs : List PV) (st : Store) : Res PV :=
  (r.call f (.ref st.length :: vs) (st ++ [.ins c []])).bind fun v st' => match v with
    | .non => if mu then .ok (.ref st.length) st' else done st false (.ref st.length) st'
    | _ => .bad
noncomputable def stepE (P : Prog) (r : Ev) : Ex → En → Store → Res PV
  | .v i, env, st => match env[i]? with
    | some (some x) => .ok x st
    | _ => .bad
  | .c x, _, st => .ok x st
  | .g i, _, st => tl P.gl[i]? st
  | .bin o a b, env, st => (r.E a env st).bind fun x st => (r.E b env st).bind fun y st => bin2 o x y st
  | .cat mu a b, env, st => (r.E a env st).bind fun x st => (r.E b env st).bind fun y st => addL mu x y st
  | .neg a, env, st => (r.E a env st).bind fun x st => match x with
    | .int i => .ok (.int (-i)) st
    | _ => .bad
  | .not a, env, st => (r.E a env st).bind fun x st => (tl (truth st x) st).bind fun b st => .ok (.bl (!b)) st
  | .cmp o a b, env, st => (r.E a env st).bind fun x st => (r.E b env st).bind fun y st => (tl (cmpR o x y st) st).bind fun b st => .ok (.bl b) st
  | .chain o p a b c, env, st => (r.E a env st).bind fun x st => (r.E b env st).bind fun y st => (tl (cmpR o x y st) st).bind fun k st =>
      if k then (r.E c env st).bind fun z st => (tl (cmpR p y z st) st).bind fun k st => .ok (.bl k) st else .ok (.bl false) st
  | .and a b, env, st => (r.E a env st).bind fun x st => match x with
    | .bl true => r.E b env st
    | .bl false => .ok (.bl false) st
    | _ => .bad
  | .or a b, env, st => (r.E a env st).bind fun x st => match x with
    | .bl false => r.E b env st
    | .bl true => .ok (.bl true) st
    | _ => .bad
  | .ite c a b, env, st => (r.T c env st).bind fun k st => if k then r.E a env st else r.E b env st
  | .tup es, env, st => (evL r es env st).bind fun vs st => if vs.length ≤ sizeLine then .ok (.tup vs) st else .bad
  | .lst mu es, env, st => (evL r es env st).bind fun vs st => if vs.length ≤ sizeLine then mkL mu vs st else .bad
  | .idx a i, env, st => (r.E a env st).bind fun x st => (r.E i env st).bind fun y st => match y with
    | .int i => match seqOf st x with
      | some (_, xs) => tl (atI xs i) st
      | none => .bad
    | _ => .bad
  | .slc a lo hi, env, st => (r.E a env st).bind fun x st => (partOf r lo env st).bind fun l st => (partOf r hi env st).bind fun h st => match x with
    | .tup xs => if HT.sIx xs.length 0 l = 0 ∧ HT.sIx xs.length xs.length h = xs.length then .bad else .ok (.tup (cutP xs l h)) st
    | .scr ns => .ok (.lst (cutP (ns.map .int) l h)) st
    | x => match seqOf st x with
      | some (false, xs) => .ok (.lst (cutP xs l h)) st
      | _ => .bad
  | .attr a f, env, st => (r.E a env st).bind fun x st => match insOf st x with
    | some (c, fs) => match P.kl[c]? with
      | some k => if f ∈ k.ats then tl (fs.lookup f) st else .bad
      | none => .bad
    | none => .bad
  | .call f es, env, st => (evL r es env st).bind fun vs st => match P.df[f]? with
    | some d => r.call f (pad d vs) st
    | none => .bad
  | .new c mu es, env, st => (evL r es env st).bind fun vs st => match P.kl[c]? with
    | some ⟨some f, _, _⟩ => match P.df[f]? with
      | some d => newI r c f mu (pad { d with np := d.np - 1 } vs) st
      | none => .bad
    | _ => .bad
  | .meth a m es, env, st => (r.E a env st).bind fun x st => match insOf st x with
    | some (c, fs) => match P.kl[c]?, fs.lookup m with
      | some k, none => match k.ms.lookup m with
        | some f => match P.df[f]? with
          | some d => (evL r es env st).bind fun vs st => r.call f (x :: pad { d with np := d.np - 1 } vs) st
          | none => .bad
        | none => .bad
      | _, _ => .bad
    | none => .bad
  | .bi b es, env, st => (evL r es env st).bind fun vs st => biF P.isl P.kl.length b vs st
  | .comp mu e tg k its ts, env, st => comp r mu e tg k its ts env st
  | .nil, _, _ => .bad
def stepT (r : Ev) : Ex → En → Store → Res Bool
  | .and a b, env, st => (r.T a env st).bind fun k st => if k then r.T b env st else .ok false st
  | .or a b, env, st => (r.T a env st).bind fun k st => if k then .ok true st else r.T b env st
  | .not a, env, st => (r.T a env st).bind fun k st => .ok (!k) st
  | .ite c a b, env, st => (r.T c env st).bind fun k st => if k then r.T a env st else r.T b env st
  | .cmp o a b, env, st => (r.E a env st).bind fun x st => (r.E b env st).bind fun y st => tl (cmpR o x y st) st
  | .chain o p a b c, env, st => (r.E a env st).bind fun x st => (r.E b env st).bind fun y st => (tl (cmpR o x y st) st).bind fun k st =>
      if k then (r.E c env st).bind fun z st => tl (cmpR p y z st) st else .ok false st
  | e, env, st => (r.E e env st).bind fun v st => tl (truth st v) st
noncomputable def stepS (P : Prog) (r : Ev) : Sm → En → Store → Res (Fl × En)
  | .set t e, env, st => (r.E e env st).bind fun v st => (tl (asg t v env) st).bind fun env st => .ok (.nx, env) st
  | .par i j a b, env, st => (r.E a env st).bind fun x st => (r.E b env st).bind fun y st => .ok (.nx, (env.set i (some x)).set j (some y)) st
  | .aug i o e, env, st => match env[i]? with
    | some (some x) => (r.E e env st).bind fun y st => (bin2 o x y st).bind fun z st => .ok (.nx, env.set i (some z)) st
    | _ => .bad
  | .setIx a i e, env, st => (r.E e env st).bind fun v st => (r.E a env st).bind fun x st => (r.E i env st).bind fun y st => match x, y with
    | .ref n, .int k => match st[n]? with
      | some (.lst xs) => (tl (ixN xs.length k) st).bind fun j st => .ok (.nx, env) (st.set n (.lst (xs.set j v)))
      | _ => .bad
    | _, _ => .bad
  | .setAt a f e, env, st => (r.E e env st).bind fun v st => (r.E a env st).bind fun x st => match x with
    | .ref n => match st[n]? with
      | some (.ins c fs) => match P.kl[c]? with
        | some k => if f ∈ k.ats ∧ fs.length < 1000 then .ok (.nx, env) (st.set n (.ins c (putP f v fs))) else .bad
        | none => .bad
      | _ => .bad
    | _ => .bad
  | .swap _ _ _ _ _ _, _, _ => .bad
  | .ex e, env, st => (r.E e env st).bind fun _ st => .ok (.nx, env) st
  | .app a e, env, st => (r.E a env st).bind fun x st => match x with
    | .ref n => match st[n]? with
      | some (.lst _) => (r.E e env st).bind fun y st => (tl (push n y st) st).bind fun st' _ => .ok (.nx, env) st'
      | _ => .bad
    | _ => .bad
  | .ext a e, env, st => (r.E a env st).bind fun x st => match x with
    | .ref n => match st[n]? with
      | some (.lst _) => (r.E e env st).bind fun y st => match seqOf st y, st[n]? with
        | some (false, ys), some (.lst xs) => if xs.length + ys.length ≤ sizeLine then .ok (.nx, env) (st.set n (.lst (xs ++ ys))) else .bad
        | _, _ => .bad
      | _ => .bad
    | _ => .bad
  | .ite c a b, env, st => (r.T c env st).bind fun k st => if k then blk r a env st else blk r b env st
  | .whl c b, env, st => whileN r c b P.wf env st
  | .for_ tg k its b, env, st => (evL r its env st).bind fun vs st => match walk k vs st with
    | some (xs, g) => forL r tg b g xs env st
    | none => .bad
  | .ret e, env, st => (r.E e env st).bind fun v st => .ok (.ret v, env) st
  | .retN, env, st => .ok (.ret .non, env) st
  | .brk, env, st => .ok (.bk, env) st
  | .cnt, env, st => .ok (.ct, env) st
  | .pass, env, st => .ok (.nx, env) st
  | .bad, _, _ => .bad
noncomputable def stepC (P : Prog) (r : Ev) (f : Nat) (vs : List PV) (st : Store) : Res PV := match P.df[f]? with
  | some d => if vs.length = d.np ∧ d.np ≤ d.nn then (blk r d.body (vs.map some ++ List.replicate (d.nn - d.np) none) st).bind fun a st' => match a with
      | (.nx, _) => done st d.mu .non st'
      | (.ret v, _) => done st d.mu v st'
      | _ => .bad
    else .bad
  | none => .bad
noncomputable def ev (P : Prog) : Nat → Ev
  | 0 => ⟨fun _ _ _ => .bad, fun _ _ _ => .bad, fun _ _ _ => .bad, fun _ _ _ => .bad⟩
  | k + 1 => ⟨stepE P (ev P k), stepT (ev P k), stepS P (ev P k), stepC P (ev P k)⟩
end Pv

set_option Elab.async false
set_option linter.all false
set_option maxRecDepth 100000
/-! What the small language says is what the text does: the readings. -/
namespace Pv
open PySem PySem.Spec PyProof.Rows L2
section
variable (K : W.Frag) (cl : Nat → Addr)
/-- what is wanted behind a value, from the state (m, H) on -/
def Fin (m : List Addr) (H : Hp) (res : Res PV) (Q : VK) : Prop := match res with
  | .ok v st' => ∀ u H' m', Ext m H m' H' → SR K cl H' m' st' → Rp K cl H' m' v u → Q u H'
  | _ => False
def FinB (m : List Addr) (H : Hp) (res : Res Bool) (Q : Bool → Hp → Prop) : Prop := match res with
  | .ok v st' => ∀ H' m', Ext m H m' H' → SR K cl H' m' st' → Q v H'
  | _ => False
def FinL (m : List Addr) (H : Hp) (res : Res (List PV)) (Q : List V → Hp → Prop) : Prop := match res with
  | .ok v st' => ∀ u H' m', Ext m H m' H' → SR K cl H' m' st' → RpL K cl H' m' v u → Q u H'
  | _ => False
def FinS (m : List Addr) (H : Hp) (res : Res (Fl × En)) (D : Ends) : Prop := match res with
  | .ok (.nx, env) st' => ∀ σ' H' m', Ext m H m' H' → SR K cl H' m' st' → ER K cl H' m' env σ' → D.nx σ' H'
  | .ok (.bk, env) st' => ∀ σ' H' m', Ext m H m' H' → SR K cl H' m' st' → ER K cl H' m' env σ' → D.bk σ' H'
  | .ok (.ct, env) st' => ∀ σ' H' m', Ext m H m' H' → SR K cl H' m' st' → ER K cl H' m' env σ' → D.ct σ' H'
  | .ok (.ret v, _) st' => ∀ u H' m', Ext m H m' H' → SR K cl H' m' st' → Rp K cl H' m' v u → D.rt u H'
  | _ => False
/-- a state of the mirror that stands for (σ, H) -/
def At (σ : L2.St) (H : Hp) (R : List Addr → En → Store → Prop) : Prop := ∃ m env st, SR K cl H m st ∧ ER K cl H m env σ ∧ R m env st
def rdE (r : Ev) (c : Ex) : TE := fun σ H Q => At K cl σ H fun m env st => Fin K cl m H (r.E c env st) Q
def rdT (r : Ev) (c : Ex) : TT := fun σ H Q => At K cl σ H fun m env st => FinB K cl m H (r.T c env st) Q
def rdL (r : Ev) (cs : List Ex) : TA := fun σ H Q => At K cl σ H fun m env st => FinL K cl m H (evL r cs env st) Q
def rdS (r : Ev) (c : Sm) : TS := fun D σ H => At K cl σ H fun m env st => FinS K cl m H (r.S c env st) D
def rdB (r : Ev) (cs : List Sm) : TS := fun D σ H => At K cl σ H fun m env st => FinS K cl m H (blk r cs env st) D
end
section
variable {K : W.Frag} {cl : Nat → Addr} {m m' : List Addr} {H H' : Hp} {σ : L2.St} {env : En} {st : Store}
theorem Fin.mono {res : Res PV} {Q : VK} (e : Ext m H m' H') (h : Fin K cl m H res Q) : Fin K cl m' H' res Q := by
  cases res with
  | ok v st => exact fun u H2 m2 e2 => h u H2 m2 (e.trans e2)
  | exc _ _ => exact h
  | bad => exact h
theorem FinB.mono {res : Res Bool} {Q : Bool → Hp → Prop} (e : Ext m H m' H') (h : FinB K cl m H res Q) : FinB K cl m' H' res Q := by
  cases res with
  | ok v st => exact fun H2 m2 e2 => h H2 m2 (e.trans e2)
  | exc _ _ => exact h
  | bad => exact h
theorem FinL.mono {res : Res (List PV)} {Q : List V → Hp → Prop} (e : Ext m H m' H') (h : FinL K cl m H res Q) : FinL K cl m' H' res Q := by
  cases res with
  | ok v st => exact fun u H2 m2 e2 => h u H2 m2 (e.trans e2)
  | exc _ _ => exact h
  | bad => exact h
theorem FinS.mono {res : Res (Fl × En)} {D : Ends} (e : Ext m H m' H') (h : FinS K cl m H res D) : FinS K cl m' H' res D := by
  cases res with
  | ok v st =>
    obtain ⟨f, env⟩ := v
    cases f with
    | nx => exact fun u H2 m2 e2 => h u H2 m2 (e.trans e2)
    | ret v => exact fun u H2 m2 e2 => h u H2 m2 (e.trans e2)
    | bk => exact fun u H2 m2 e2 => h u H2 m2 (e.trans e2)
    | ct => exact fun u H2 m2 e2 => h u H2 m2 (e.trans e2)
  | exc _ _ => exact h
  | bad => exact h
/-- any of the four, as a predicate of a result that goes on -/
structure Cn {α : Type} (F : List Addr → Hp → Res α → Prop) : Prop where
  mono : ∀ {m m' H H' res}, Ext m H m' H' → F m H res → F m' H' res
  nb : ∀ {m H}, ¬ F m H .bad
  nx : ∀ {m H x st}, ¬ F m H (.exc x st)
theorem cnE (Q : VK) : Cn (fun m H res => Fin K cl m H res Q) := ⟨fun e h => h.mono e, fun h => h, fun h => h⟩
theorem cnB (Q : Bool → Hp → Prop) : Cn (fun m H res => FinB K cl m H res Q) := ⟨fun e h => h.mono e, fun h => h, fun h => h⟩
theorem cnL (Q : List V → Hp → Prop) : Cn (fun m H res => FinL K cl m H res Q) := ⟨fun e h => h.mono e, fun h => h, fun h => h⟩
theorem cnS (D : Ends) : Cn (fun m H res => FinS K cl m H res D) := ⟨fun e h => h.mono e, fun h => h, fun h => h⟩
section
variable {β : Type} {F : List Addr → Hp → Res β → Prop} {r : Ev}
/-- a value, then what follows -/
theorem rdE_bind {c : Ex} {f : PV → Store → Res β} {R : VK} (C : Cn F) (sr : SR K cl H m st) (er : ER K cl H m env σ) (h : F m H ((r.E c env st).bind f))
    (k : ∀ v st' u H' m', Ext m H m' H' → SR K cl H' m' st' → ER K cl H' m' env σ → Rp K cl H' m' v u → F m' H' (f v st') → R u H') : rdE K cl r c σ H R := by
  refine ⟨m, env, st, sr, er, ?_⟩
  cases e : r.E c env st with
  | ok v st' =>
    rw [e] at h
    show Fin K cl m H (r.E c env st) R
    rw [e]
    exact fun u H' m' x s rp => k v st' u H' m' x s (er.mono x) rp (C.mono x h)
  | exc x s =>
    rw [e] at h
    exact absurd h C.nx
  | bad =>
    rw [e] at h
    exact absurd h C.nb
theorem rdT_bind {c : Ex} {f : Bool → Store → Res β} {R : Bool → Hp → Prop} (C : Cn F) (sr : SR K cl H m st) (er : ER K cl H m env σ) (h : F m H ((r.T c env st).bind f))
    (k : ∀ v st' H' m', Ext m H m' H' → SR K cl H' m' st' → ER K cl H' m' env σ → F m' H' (f v st') → R v H') : rdT K cl r c σ H R := by
  refine ⟨m, env, st, sr, er, ?_⟩
  cases e : r.T c env st with
  | ok v st' =>
    rw [e] at h
    show FinB K cl m H (r.T c env st) R
    rw [e]
    exact fun H' m' x s => k v st' H' m' x s (er.mono x) (C.mono x h)
  | exc x s =>
    rw [e] at h
    exact absurd h C.nx
  | bad =>
    rw [e] at h
    exact absurd h C.nb
theorem rdL_bind {c : List Ex} {f : List PV → Store → Res β} {R : List V → Hp → Prop} (C : Cn F) (sr : SR K cl H m st) (er : ER K cl H m env σ) (h : F m H ((evL r c env st).bind f))
    (k : ∀ v st' u H' m', Ext m H m' H' → SR K cl H' m' st' → ER K cl H' m' env σ → RpL K cl H' m' v u → F m' H' (f v st') → R u H') : rdL K cl r c σ H R := by
  refine ⟨m, env, st, sr, er, ?_⟩
  cases e : evL r c env st with
  | ok v st' =>
    rw [e] at h
    show FinL K cl m H (evL r c env st) R
    rw [e]
    exact fun u H' m' x s rp => k v st' u H' m' x s (er.mono x) rp (C.mono x h)
  | exc x s =>
    rw [e] at h
    exact absurd h C.nx
  | bad =>
    rw [e] at h
    exact absurd h C.nb
/-- a plain step that may fail -/
theorem tl_bind {α : Type} {x : Option α} {f : α → Store → Res β} (C : Cn F) (h : F m H ((tl x st).bind f)) : ∃ a, x = some a ∧ F m H (f a st) := by
  cases x with
  | some a => exact ⟨a, rfl, h⟩
  | none => exact absurd h C.nb
end
end
end Pv

set_option Elab.async false
set_option linter.all false
set_option maxRecDepth 100000
/-! The store: what is new, what is let go; data. -/
namespace Pv
open PySem PySem.Spec PyProof.Rows L2
section
variable {K : W.Frag} {cl : Nat → Addr} {m m' : List Addr} {H H' : Hp} {σ : L2.St} {env : En} {st st' : Store} {p a : Addr}
theorem SR.tracked (sr : SR K cl H m st) (h : a ∈ m) : ∃ o, H a = some o := by
  obtain ⟨n, hn⟩ := List.mem_iff_getElem?.mp h
  have hl : n < m.length := (List.getElem?_eq_some_iff.mp hn).1
  obtain ⟨u, hu, _⟩ := sr.at_ n a (st[n]'(by rw [← sr.len]; exact hl)) hn (List.getElem?_eq_getElem _)
  exact ⟨u, hu⟩
theorem SR.free (sr : SR K cl H m st) (h : H p = none) : p ∉ m := fun z => by
  obtain ⟨o, e⟩ := sr.tracked z
  rw [h] at e; cases e
theorem Ext.new (o : HO) (h : H p = none) : Ext m H m (upd H p o) :=
  ⟨⟨[], by simp, fun _ z => by simp at z⟩, fun a u e _ => by rw [upd_ne (ne_of_none e h)]; exact e, fun a e => by
    by_cases z : a = p
    · subst z; rw [upd_same]; simp
    · rw [upd_ne z]; exact e⟩
theorem RpO.mono (e : Ext m H m' H') : ∀ {o : SO} {u : HO}, RpO K cl H m o u → RpO K cl H' m' o u
  | .lst xs, u, h => let ⟨ys, e1, r⟩ := h; ⟨ys, e1, RpL.mono e _ _ r⟩
  | .ins c fs, u, h => let ⟨dx, gs, e1, r⟩ := h; ⟨dx, gs, e1, RpF.mono e _ _ r⟩
/-- the store stands on, where its own addresses are as they were -/
theorem SR.keep (sr : SR K cl H m st) (e : Ext m H m H') (k : ∀ a ∈ m, H' a = H a) : SR K cl H' m st :=
  ⟨sr.len, sr.nd, fun n a o h1 h2 => by
    obtain ⟨u, hu, r⟩ := sr.at_ n a o h1 h2
    exact ⟨u, by rw [k a (List.mem_of_getElem? h1)]; exact hu, r.mono e⟩⟩
theorem SR.new (sr : SR K cl H m st) (o : HO) (h : H p = none) : SR K cl (upd H p o) m st :=
  sr.keep (Ext.new o h) fun a ha => upd_ne (fun z => sr.free h (z ▸ ha))
/-- a new tuple -/
theorem newT (sr : SR K cl H m st) {xs : List PV} {ys : List V} (r : RpL K cl H m xs ys) (h : H p = none) :
    Ext m H m (upd H p (.tup ys)) ∧ SR K cl (upd H p (.tup ys)) m st ∧ Rp K cl (upd H p (.tup ys)) m (.tup xs) (.ref p) :=
  ⟨Ext.new _ h, sr.new _ h, ⟨p, ys, rfl, .inl (.inl upd_same), RpL.mono (Ext.new _ h) _ _ r⟩⟩
/-- a new list that will not change -/
theorem newF (sr : SR K cl H m st) {xs : List PV} {ys : List V} (r : RpL K cl H m xs ys) (h : H p = none) :
    Ext m H m (upd H p (.lst ys)) ∧ SR K cl (upd H p (.lst ys)) m st ∧ Rp K cl (upd H p (.lst ys)) m (.lst xs) (.ref p) :=
  ⟨Ext.new _ h, sr.new _ h, ⟨p, ys, rfl, upd_same, sr.free h, RpL.mono (Ext.new _ h) _ _ r⟩⟩
theorem Ext.newM (sr : SR K cl H m st) (o : HO) (h : H p = none) : Ext m H (m ++ [p]) (upd H p o) :=
  ⟨⟨[p], rfl, fun a z => by rw [List.mem_singleton.mp z]; exact h⟩, (Ext.new o h : Ext m H m _).keep, (Ext.new o h : Ext m H m _).trk⟩
/-- a new object that may change -/
theorem newO (sr : SR K cl H m st) {x : SO} {o : HO} (r : RpO K cl H m x o) (h : H p = none) :
    Ext m H (m ++ [p]) (upd H p o) ∧ SR K cl (upd H p o) (m ++ [p]) (st ++ [x]) ∧ Rp K cl (upd H p o) (m ++ [p]) (.ref st.length) (.ref p) := by
  have e := Ext.newM sr o h
  refine ⟨e, ⟨by simp [sr.len], ?_, fun n a y h1 h2 => ?_⟩, ⟨p, rfl, by rw [← sr.len]; simp⟩⟩
  · rw [List.nodup_append]
    exact ⟨sr.nd, by simp, fun a ha b hb z => by rw [List.mem_singleton] at hb; rw [hb] at z; rw [z] at ha; exact sr.free h ha⟩
  · by_cases hn : n < m.length
    · rw [List.getElem?_append_left hn] at h1
      rw [List.getElem?_append_left (by rw [← sr.len]; exact hn)] at h2
      obtain ⟨u, hu, q⟩ := sr.at_ n a y h1 h2
      have ne : a ≠ p := fun z => sr.free h (by rw [← z]; exact List.mem_of_getElem? h1)
      exact ⟨u, by rw [upd_ne ne]; exact hu, q.mono e⟩
    · rw [List.getElem?_append_right (by omega)] at h1
      rw [List.getElem?_append_right (by rw [← sr.len]; omega)] at h2
      have e0 : n - m.length = 0 := by
        by_cases z : n - m.length = 0
        · exact z
        · rw [List.getElem?_eq_none (by simp; omega)] at h1; cases h1
      rw [e0] at h1
      rw [← sr.len, e0] at h2
      have ea : p = a := Option.some.inj h1
      have ey : x = y := Option.some.inj h2
      subst ea ey
      exact ⟨o, upd_same, r.mono e⟩
theorem mkL_ok (sr : SR K cl H m st) {mu : Bool} {xs : List PV} {ys : List V} {Q : VK} (r : RpL K cl H m xs ys) (h : H p = none) (f : Fin K cl m H (mkL mu xs st) Q) : Q (.ref p) (upd H p (.lst ys)) := by
  unfold mkL at f
  cases mu with
  | true =>
    obtain ⟨e, s, q⟩ := newO (x := .lst xs) (o := .lst ys) sr ⟨ys, rfl, r⟩ h
    exact f _ _ _ e s q
  | false =>
    obtain ⟨e, s, q⟩ := newF sr r h
    exact f _ _ _ e s q
/-- what stands at a reference is written -/
theorem setO (sr : SR K cl H m st) {n : Nat} {x : SO} {o : HO} (ha : m[n]? = some a) (hn : n < st.length) (hm : Mut (H a)) (r : RpO K cl H m x o) :
    Ext m H m (upd H a o) ∧ SR K cl (upd H a o) m (st.set n x) := by
  have mem : a ∈ m := List.mem_of_getElem? ha
  have e : Ext m H m (upd H a o) := by
    refine ⟨⟨[], by simp, fun _ z => by simp at z⟩, fun b u e q => ?_, fun b e => ?_⟩
    · have ne : b ≠ a := by
        rintro rfl
        rcases q with q | q
        · exact q mem
        · rw [e] at hm
          cases u <;> first | exact hm | exact q
      rw [upd_ne ne]; exact e
    · by_cases z : b = a
      · subst z; rw [upd_same]; simp
      · rw [upd_ne z]; exact e
  refine ⟨e, ⟨by simp [sr.len], sr.nd, fun k b y h1 h2 => ?_⟩⟩
  by_cases hk : k = n
  · subst hk
    rw [ha] at h1; cases h1
    rw [List.getElem?_set_self hn] at h2
    cases h2
    exact ⟨o, upd_same, r.mono e⟩
  · rw [List.getElem?_set_ne (Ne.symm hk)] at h2
    obtain ⟨u, hu, q⟩ := sr.at_ k b y h1 h2
    have ne : b ≠ a := by
      rintro rfl
      obtain ⟨l1, e1⟩ := List.getElem?_eq_some_iff.mp h1
      obtain ⟨l2, e2⟩ := List.getElem?_eq_some_iff.mp ha
      exact hk ((List.getElem_inj sr.nd).mp (e1.trans e2.symm))
    exact ⟨u, by rw [upd_ne ne]; exact hu, q.mono e⟩
/-- a list as it stands -/
theorem seq_ok (sr : SR K cl H m st) {v : PV} {u : V} {b : Bool} {xs : List PV} (r : Rp K cl H m v u) (h : seqOf st v = some (b, xs)) :
    ∃ p ys, u = .ref p ∧ RpL K cl H m xs ys ∧ (b = true → SqT K H p ys) ∧ (b = false → H p = some (.lst ys)) := by
  cases v with
  | tup zs =>
    cases h
    obtain ⟨a, ys, e, q, r⟩ := r
    exact ⟨a, ys, e, r, fun _ => q, fun z => Bool.noConfusion z⟩
  | lst zs =>
    cases h
    obtain ⟨a, ys, e, q, _, r⟩ := r
    exact ⟨a, ys, e, r, fun z => Bool.noConfusion z, fun _ => q⟩
  | ref n =>
    obtain ⟨a, e, q⟩ := r
    simp only [seqOf] at h
    cases hs : st[n]? with
    | none => rw [hs] at h; cases h
    | some o =>
      rw [hs] at h
      cases o with
      | lst zs =>
        cases h
        obtain ⟨w, hw, ys, rfl, r⟩ := sr.at_ n a _ q hs
        exact ⟨a, ys, e, r, fun z => Bool.noConfusion z, fun _ => hw⟩
      | ins c fs => cases h
  | non => cases h
  | bl _ => cases h
  | int _ => cases h
  | str _ => cases h
  | ty _ => cases h
  | scr _ => cases h
  | ins _ _ => cases h
theorem RpL.length : ∀ {xs : List PV} {ys : List V}, RpL K cl H m xs ys → xs.length = ys.length
  | [], ys, h => by cases h; rfl
  | x :: xs, ys, h => by
    obtain ⟨y, zs, rfl, _, r⟩ := h
    simp [RpL.length r]
theorem RpL.get : ∀ {xs : List PV} {ys : List V} {i : Nat} {x : PV}, RpL K cl H m xs ys → xs[i]? = some x → ∃ y, ys[i]? = some y ∧ Rp K cl H m x y
  | [], _, _, _, _, e => by simp at e
  | x :: xs, ys, 0, z, h, e => by
    obtain ⟨y, zs, rfl, r, _⟩ := h
    cases e
    exact ⟨y, rfl, r⟩
  | x :: xs, ys, i + 1, z, h, e => by
    obtain ⟨y, zs, rfl, _, r⟩ := h
    obtain ⟨w, h1, h2⟩ := RpL.get (i := i) r (by simpa using e)
    exact ⟨w, by simpa using h1, h2⟩
theorem RpL.append : ∀ {xs xs' : List PV} {ys ys' : List V}, RpL K cl H m xs ys → RpL K cl H m xs' ys' → RpL K cl H m (xs ++ xs') (ys ++ ys')
  | [], _, ys, _, h, h' => by cases h; exact h'
  | x :: xs, _, ys, _, h, h' => by
    obtain ⟨y, zs, rfl, r, q⟩ := h
    exact ⟨y, _, rfl, r, RpL.append q h'⟩
theorem RpL.set : ∀ {xs : List PV} {ys : List V} (i : Nat) {x : PV} {y : V}, Rp K cl H m x y → RpL K cl H m xs ys → RpL K cl H m (xs.set i x) (ys.set i y)
  | [], ys, i, _, _, _, h => by cases h; rfl
  | x :: xs, ys, 0, _, _, r, h => by
    obtain ⟨y, zs, rfl, _, q⟩ := h
    exact ⟨_, zs, rfl, r, q⟩
  | x :: xs, ys, i + 1, _, _, r, h => by
    obtain ⟨y, zs, rfl, r', q⟩ := h
    exact ⟨y, _, rfl, r', RpL.set i r q⟩
theorem RpL.take : ∀ {xs : List PV} {ys : List V} (n : Nat), RpL K cl H m xs ys → RpL K cl H m (xs.take n) (ys.take n)
  | _, _, 0, _ => rfl
  | [], ys, n + 1, h => by cases h; rfl
  | x :: xs, ys, n + 1, h => by
    obtain ⟨y, zs, rfl, r, q⟩ := h
    exact ⟨y, _, rfl, r, RpL.take n q⟩
theorem RpL.drop : ∀ {xs : List PV} {ys : List V} (n : Nat), RpL K cl H m xs ys → RpL K cl H m (xs.drop n) (ys.drop n)
  | _, _, 0, h => h
  | [], ys, n + 1, h => by cases h; rfl
  | x :: xs, ys, n + 1, h => by
    obtain ⟨y, zs, rfl, r, q⟩ := h
    exact RpL.drop n q
theorem ER.get {i : Nat} {x : PV} (h : ER K cl H m env σ) (e : env[i]? = some (some x)) : ∃ v, σ[i]? = some (some v) ∧ Rp K cl H m x v := h.2 i x e
theorem ER.set {i : Nat} {x : PV} {v : V} (h : ER K cl H m env σ) (r : Rp K cl H m x v) : ER K cl H m (env.set i (some x)) (σ.set i (some v)) := by
  refine ⟨by simp [h.1], fun j y e => ?_⟩
  by_cases hj : j = i
  · subst hj
    have hl : j < env.length := by
      by_cases z : j < env.length
      · exact z
      · rw [List.getElem?_eq_none (by simpa using z)] at e; cases e
    rw [List.getElem?_set_self hl] at e
    cases e
    exact ⟨v, by rw [List.getElem?_set_self (by rw [← h.1]; exact hl)], r⟩
  · rw [List.getElem?_set_ne (Ne.symm hj)] at e
    obtain ⟨w, h1, h2⟩ := h.2 j y e
    exact ⟨w, by rw [List.getElem?_set_ne (Ne.symm hj)]; exact h1, h2⟩

/-! ### data -/
mutual
theorem dat_ok {f : Nat → Option PyData} (hf : ∀ n a d, f n = some d → m[n]? = some a → Dp K H (.ref a) d) : ∀ (v : PV) (u : V) (d : PyData), Rp K cl H m v u → dat f v = some d → Dp K H u d
  | .non, u, d, r, h => by cases h; cases r; exact .non
  | .bl b, u, d, r, h => by cases h; cases r; exact .bl b
  | .int i, u, d, r, h => by cases h; cases r; exact .int i
  | .str x, u, d, r, h => by cases h; cases r; exact .str x
  | .ty n, u, d, r, h => by cases h
  | .scr n, u, d, r, h => by cases h
  | .tup xs, u, d, r, h => by
    obtain ⟨a, ys, rfl, q, r⟩ := r
    unfold dat at h
    cases e : dats f xs with
    | none => rw [e] at h; cases h
    | some ds => rw [e] at h; cases h; exact .tup q (dats_ok hf xs ys ds r e)
  | .lst xs, u, d, r, h => by
    obtain ⟨a, ys, rfl, q, _, r⟩ := r
    unfold dat at h
    cases e : dats f xs with
    | none => rw [e] at h; cases h
    | some ds => rw [e] at h; cases h; exact .lst (.inl (.inl q)) (dats_ok hf xs ys ds r e)
  | .ins c fs, u, d, r, h => by cases h
  | .ref n, u, d, r, h => by
    obtain ⟨a, rfl, q⟩ := r
    exact hf n a d h q
theorem dats_ok {f : Nat → Option PyData} (hf : ∀ n a d, f n = some d → m[n]? = some a → Dp K H (.ref a) d) : ∀ (xs : List PV) (us : List V) (ds : List PyData), RpL K cl H m xs us → dats f xs = some ds → DpAll K H us ds
  | [], us, ds, r, h => by cases h; cases r; exact .nil
  | x :: xs, us, ds, r, h => by
    obtain ⟨y, zs, rfl, r, q⟩ := r
    unfold dats at h
    cases e : dat f x with
    | none => rw [e] at h; cases h
    | some d =>
      cases e2 : dats f xs with
      | none => rw [e, e2] at h; cases h
      | some ds' =>
        rw [e, e2] at h; cases h
        exact .cons (dat_ok hf x y d r e) (dats_ok hf xs zs ds' q e2)
end
theorem refD_ok (sr : SR K cl H m st) : ∀ (k n : Nat) (a : Addr) (d : PyData), refD st k n = some d → m[n]? = some a → Dp K H (.ref a) d
  | 0, n, a, d, h, _ => by cases h
  | k + 1, n, a, d, h, ha => by
    unfold refD at h
    cases hs : st[n]? with
    | none => rw [hs] at h; cases h
    | some o =>
      rw [hs] at h
      cases o with
      | ins c fs => cases h
      | lst xs =>
        obtain ⟨w, hw, ys, rfl, r⟩ := sr.at_ n a _ ha hs
        have h : (match dats (refD st k) xs with | some ds => some (PyData.list ds) | none => none) = some d := h
        cases e : dats (refD st k) xs with
        | none => rw [e] at h; cases h
        | some ds => rw [e] at h; cases h; exact .lst (.inl (.inl hw)) (dats_ok (refD_ok sr k) xs ys ds r e)
theorem datOf_ok (sr : SR K cl H m st) {v : PV} {u : V} {d : PyData} (r : Rp K cl H m v u) (h : datOf st v = some d) : Dp K H u d := dat_ok (refD_ok sr 3) v u d r h

/-! ### what is let go -/
mutual
theorem Rp.old {n₀ : Nat} {m2 : List Addr} (hs : ∀ b ∈ m2, b ∈ m) (hg : ∀ n, n < n₀ → m2[n]? = m[n]?) : ∀ (v : PV) (u : V), Rp K cl H m v u → oldV n₀ v = true → Rp K cl H m2 v u
  | .non, u, r, _ => r
  | .bl b, u, r, _ => r
  | .int i, u, r, _ => r
  | .str x, u, r, _ => r
  | .ty n, u, r, _ => r
  | .scr n, u, r, _ => let ⟨a, e, q⟩ := r; ⟨a, e, q.imp (fun z => ⟨z.1, fun y => z.2 (hs _ y)⟩) id⟩
  | .tup xs, u, r, h => by
    obtain ⟨a, ys, e, q, r⟩ := r
    exact ⟨a, ys, e, q, RpL.old hs hg xs ys r h⟩
  | .lst xs, u, r, h => by
    obtain ⟨a, ys, e, q, n, r⟩ := r
    exact ⟨a, ys, e, q, fun z => n (hs _ z), RpL.old hs hg xs ys r h⟩
  | .ins c fs, u, r, h => by
    obtain ⟨a, dx, gs, e, q, n, r⟩ := r
    exact ⟨a, dx, gs, e, q, fun z => n (hs _ z), RpF.old hs hg fs gs r h⟩
  | .ref n, u, r, h => by
    obtain ⟨a, e, q⟩ := r
    exact ⟨a, e, by rw [hg n (of_decide_eq_true h)]; exact q⟩
theorem RpL.old {n₀ : Nat} {m2 : List Addr} (hs : ∀ b ∈ m2, b ∈ m) (hg : ∀ n, n < n₀ → m2[n]? = m[n]?) : ∀ (xs : List PV) (us : List V), RpL K cl H m xs us → oldVs n₀ xs = true → RpL K cl H m2 xs us
  | [], us, r, _ => r
  | x :: xs, us, r, h => by
    obtain ⟨y, zs, e, r, q⟩ := r
    unfold oldVs at h
    rw [Bool.and_eq_true] at h
    exact ⟨y, zs, e, Rp.old hs hg x y r h.1, RpL.old hs hg xs zs q h.2⟩
theorem RpF.old {n₀ : Nat} {m2 : List Addr} (hs : ∀ b ∈ m2, b ∈ m) (hg : ∀ n, n < n₀ → m2[n]? = m[n]?) : ∀ (xs : List (Str × PV)) (us : List (Str × V)), RpF K cl H m xs us → oldFs n₀ xs = true → RpF K cl H m2 xs us
  | [], us, r, _ => r
  | (f, x) :: xs, us, r, h => by
    obtain ⟨y, zs, e, r, q⟩ := r
    unfold oldFs at h
    rw [Bool.and_eq_true] at h
    exact ⟨y, zs, e, Rp.old hs hg x y r h.1, RpF.old hs hg xs zs q h.2⟩
end
mutual
theorem Rp.isOld : ∀ (v : PV) (u : V), Rp K cl H m v u → oldV m.length v = true
  | .non, u, r => rfl
  | .bl b, u, r => rfl
  | .int i, u, r => rfl
  | .str x, u, r => rfl
  | .ty n, u, r => rfl
  | .scr n, u, r => rfl
  | .tup xs, u, r => by
    obtain ⟨a, ys, e, q, r⟩ := r
    exact RpL.isOld xs ys r
  | .lst xs, u, r => by
    obtain ⟨a, ys, e, q, n, r⟩ := r
    exact RpL.isOld xs ys r
  | .ins c fs, u, r => by
    obtain ⟨a, dx, gs, e, q, n, r⟩ := r
    exact RpF.isOld fs gs r
  | .ref n, u, r => by
    obtain ⟨a, e, q⟩ := r
    exact decide_eq_true (List.getElem?_eq_some_iff.mp q).1
theorem RpL.isOld : ∀ (xs : List PV) (us : List V), RpL K cl H m xs us → oldVs m.length xs = true
  | [], us, r => rfl
  | x :: xs, us, r => by
    obtain ⟨y, zs, e, r, q⟩ := r
    unfold oldVs
    rw [Rp.isOld x y r, RpL.isOld xs zs q]; rfl
theorem RpF.isOld : ∀ (xs : List (Str × PV)) (us : List (Str × V)), RpF K cl H m xs us → oldFs m.length xs = true
  | [], us, r => rfl
  | (f, x) :: xs, us, r => by
    obtain ⟨y, zs, e, r, q⟩ := r
    unfold oldFs
    rw [Rp.isOld x y r, RpF.isOld xs zs q]; rfl
end
theorem RpO.old {n₀ : Nat} {m2 : List Addr} (hs : ∀ b ∈ m2, b ∈ m) (hg : ∀ n, n < n₀ → m2[n]? = m[n]?) : ∀ {o : SO} {u : HO}, RpO K cl H m o u → oldO n₀ o = true → RpO K cl H m2 o u
  | .lst xs, u, h, q => let ⟨ys, e1, r⟩ := h; ⟨ys, e1, RpL.old hs hg _ _ r q⟩
  | .ins c fs, u, h, q => let ⟨dx, gs, e1, r⟩ := h; ⟨dx, gs, e1, RpF.old hs hg _ _ r q⟩
theorem RpO.isOld : ∀ {o : SO} {u : HO}, RpO K cl H m o u → oldO m.length o = true
  | .lst xs, u, h => let ⟨ys, e1, r⟩ := h; RpL.isOld _ _ r
  | .ins c fs, u, h => let ⟨dx, gs, e1, r⟩ := h; RpF.isOld _ _ r
mutual
theorem frz_ok {f : Nat → Option PV} {m2 : List Addr} (hs : ∀ b ∈ m2, b ∈ m) (hf : ∀ n a w, f n = some w → m[n]? = some a → Rp K cl H m2 w (.ref a)) : ∀ (v : PV) (u : V) (w : PV), Rp K cl H m v u → frz f v = some w → Rp K cl H m2 w u
  | .non, u, w, r, h => by cases h; exact r
  | .bl b, u, w, r, h => by cases h; exact r
  | .int i, u, w, r, h => by cases h; exact r
  | .str x, u, w, r, h => by cases h; exact r
  | .ty n, u, w, r, h => by cases h; exact r
  | .scr n, u, w, r, h => by cases h; exact let ⟨a, e, q⟩ := r; ⟨a, e, q.imp (fun z => ⟨z.1, fun y => z.2 (hs _ y)⟩) id⟩
  | .tup xs, u, w, r, h => by
    obtain ⟨a, ys, e1, q, r⟩ := r
    unfold frz at h
    cases e : frzL f xs with
    | none => rw [e] at h; cases h
    | some ds => rw [e] at h; cases h; exact ⟨a, ys, e1, q, frzL_ok hs hf xs ys ds r e⟩
  | .lst xs, u, w, r, h => by
    obtain ⟨a, ys, e1, q, n, r⟩ := r
    unfold frz at h
    cases e : frzL f xs with
    | none => rw [e] at h; cases h
    | some ds => rw [e] at h; cases h; exact ⟨a, ys, e1, q, fun z => n (hs _ z), frzL_ok hs hf xs ys ds r e⟩
  | .ins c fs, u, w, r, h => by
    obtain ⟨a, dx, gs, e1, q, n, r⟩ := r
    unfold frz at h
    cases e : frzF f fs with
    | none => rw [e] at h; cases h
    | some ds => rw [e] at h; cases h; exact ⟨a, dx, gs, e1, q, fun z => n (hs _ z), frzF_ok hs hf fs gs ds r e⟩
  | .ref n, u, w, r, h => by
    obtain ⟨a, rfl, q⟩ := r
    exact hf n a w h q
theorem frzL_ok {f : Nat → Option PV} {m2 : List Addr} (hs : ∀ b ∈ m2, b ∈ m) (hf : ∀ n a w, f n = some w → m[n]? = some a → Rp K cl H m2 w (.ref a)) : ∀ (xs : List PV) (us : List V) (ws : List PV), RpL K cl H m xs us → frzL f xs = some ws → RpL K cl H m2 ws us
  | [], us, ws, r, h => by cases h; exact r
  | x :: xs, us, ws, r, h => by
    obtain ⟨y, zs, rfl, r, q⟩ := r
    unfold frzL at h
    cases e : frz f x with
    | none => rw [e] at h; cases h
    | some d =>
      cases e2 : frzL f xs with
      | none => rw [e, e2] at h; cases h
      | some ds' =>
        rw [e, e2] at h; cases h
        exact ⟨y, zs, rfl, frz_ok hs hf x y d r e, frzL_ok hs hf xs zs ds' q e2⟩
theorem frzF_ok {f : Nat → Option PV} {m2 : List Addr} (hs : ∀ b ∈ m2, b ∈ m) (hf : ∀ n a w, f n = some w → m[n]? = some a → Rp K cl H m2 w (.ref a)) : ∀ (xs : List (Str × PV)) (us : List (Str × V)) (ws : List (Str × PV)), RpF K cl H m xs us → frzF f xs = some ws → RpF K cl H m2 ws us
  | [], us, ws, r, h => by cases h; exact r
  | (g, x) :: xs, us, ws, r, h => by
    obtain ⟨y, zs, rfl, r, q⟩ := r
    unfold frzF at h
    cases e : frz f x with
    | none => rw [e] at h; cases h
    | some d =>
      cases e2 : frzF f xs with
      | none => rw [e, e2] at h; cases h
      | some ds' =>
        rw [e, e2] at h; cases h
        exact ⟨y, zs, rfl, frz_ok hs hf x y d r e, frzF_ok hs hf xs zs ds' q e2⟩
end
theorem notin_take (sr : SR K cl H m st) {n n₀ : Nat} (h : m[n]? = some a) (hn : n₀ ≤ n) : a ∉ m.take n₀ := fun z => by
  obtain ⟨k, hk⟩ := List.mem_iff_getElem?.mp z
  have hlt : k < n₀ := by
    have := (List.getElem?_eq_some_iff.mp hk).1
    rw [List.length_take] at this
    omega
  rw [List.getElem?_take_of_lt hlt] at hk
  obtain ⟨l1, e1⟩ := List.getElem?_eq_some_iff.mp hk
  obtain ⟨l2, e2⟩ := List.getElem?_eq_some_iff.mp h
  have := (List.getElem_inj sr.nd).mp (e1.trans e2.symm)
  omega
theorem at_inj (sr : SR K cl H m st) {i j : Nat} (h : m[i]? = some a) (h' : m[j]? = some a) : i = j := by
  obtain ⟨l1, e1⟩ := List.getElem?_eq_some_iff.mp h
  obtain ⟨l2, e2⟩ := List.getElem?_eq_some_iff.mp h'
  exact (List.getElem_inj sr.nd).mp (e1.trans e2.symm)
theorem onRef_ok (sr : SR K cl H m st) {n₀ x : Nat} {m2 : List Addr} (hs : ∀ b ∈ m2, b ∈ m.take n₀ ∨ m[x]? = some b) (hg : ∀ n, n < n₀ → m2[n]? = m[n]?) : ∀ (k n : Nat) (a : Addr) (w : PV), onRef st n₀ x k n = some w → m[n]? = some a → Rp K cl H m2 w (.ref a)
  | 0, n, a, w, h, ha => by
    unfold onRef at h
    split at h
    · rename_i hn
      cases h
      exact ⟨a, rfl, by rw [hg n hn]; exact ha⟩
    · cases h
  | k + 1, n, a, w, h, ha => by
    have hs' : ∀ b ∈ m2, b ∈ m := fun b hb => (hs b hb).elim List.mem_of_mem_take List.mem_of_getElem?
    unfold onRef at h
    split at h
    · rename_i hn
      cases h
      exact ⟨a, rfl, by rw [hg n hn]; exact ha⟩
    · rename_i hn
      split at h
      · cases h
      rename_i hx
      have nt : a ∉ m2 := fun z => by
        rcases hs a z with q | q
        · exact notin_take sr ha (Nat.le_of_not_lt hn) q
        · exact hx (at_inj sr ha q)
      cases q : st[n]? with
      | none => rw [q] at h; cases h
      | some o =>
        rw [q] at h
        cases o with
        | lst xs =>
          obtain ⟨u, hu, ys, rfl, r⟩ := sr.at_ n a _ ha q
          have h : (match frzL (onRef st n₀ x k) xs with | some ys => some (PV.lst ys) | none => none) = some w := h
          cases e : frzL (onRef st n₀ x k) xs with
          | none => rw [e] at h; cases h
          | some ds => rw [e] at h; cases h; exact ⟨a, ys, rfl, hu, nt, frzL_ok hs' (onRef_ok sr hs hg k) xs ys ds r e⟩
        | ins c fs =>
          obtain ⟨u, hu, dx, gs, rfl, r⟩ := sr.at_ n a _ ha q
          have h : (match frzF (onRef st n₀ x k) fs with | some ys => some (PV.ins c ys) | none => none) = some w := h
          cases e : frzF (onRef st n₀ x k) fs with
          | none => rw [e] at h; cases h
          | some ds => rw [e] at h; cases h; exact ⟨a, dx, gs, rfl, hu, nt, frzF_ok hs' (onRef_ok sr hs hg k) fs gs ds r e⟩
end
end Pv

set_option Elab.async false
set_option linter.all false
set_option maxRecDepth 100000
/-! Behind a call. -/
namespace Pv
open PySem PySem.Spec PyProof.Rows L2
section
variable {K : W.Frag} {cl : Nat → Addr} {m m' : List Addr} {H H' : Hp} {σ : L2.St} {env : En} {st st' : Store} {p a : Addr}
theorem Ext.take (e : Ext m H m' H') : m'.take m.length = m := by
  obtain ⟨⟨new, rfl, _⟩, _, _⟩ := e
  simp
/-- back to the addresses of before -/
theorem Ext.back (e : Ext m H m' H') : Ext m H m H' := ⟨⟨[], by simp, fun _ z => by simp at z⟩, e.keep, e.trk⟩
theorem SR.back (sr : SR K cl H m st) (e : Ext m H m' H') (sr' : SR K cl H' m' st') (ok : OldOk st st') {m2 : List Addr} (hs : ∀ b ∈ m2, b ∈ m') (hg : ∀ n, n < st.length → m2[n]? = m'[n]?) :
    ∀ (n : Nat) (a : Addr) (o : SO), m[n]? = some a → st'[n]? = some o → ∃ u, H' a = some u ∧ RpO K cl H' m2 o u := fun n a o h1 h2 => by
  have hn : n < st.length := by rw [← sr.len]; exact (List.getElem?_eq_some_iff.mp h1).1
  obtain ⟨u, hu, r⟩ := sr'.at_ n a o (e.at_ h1) h2
  refine ⟨u, hu, r.old hs hg ?_⟩
  rcases ok.2 n hn with q | q
  · rw [q] at h2
    obtain ⟨w, _, r0⟩ := sr.at_ n a o h1 h2
    rw [← sr.len]
    exact r0.isOld
  · exact q o h2
theorem done_ok (sr0 : SR K cl H m st) (e : Ext m H m' H') (sr : SR K cl H' m' st') {mu : Bool} {v w : PV} {u : V} {st2 : Store} (r : Rp K cl H' m' v u) (h : done st mu v st' = .ok w st2) :
    ∃ m2, Ext m H m2 H' ∧ SR K cl H' m2 st2 ∧ Rp K cl H' m2 w u := by
  unfold done at h
  by_cases hl : st'.length = st.length
  · rw [if_pos hl] at h
    cases h
    exact ⟨m', e, sr, r⟩
  rw [if_neg hl] at h
  by_cases ok : OldOk st st'
  case neg => rw [if_neg ok] at h; cases h
  rw [if_pos ok] at h
  have tk : m'.take st.length = m := by rw [← sr0.len]; exact e.take
  have hle : st.length ≤ st'.length := ok.1
  have sub : ∀ b ∈ m, b ∈ m' := fun b hb => by rw [← tk] at hb; exact List.mem_of_mem_take hb
  have pre : ∀ n, n < st.length → m[n]? = m'[n]? := fun n hn => by rw [← tk, List.getElem?_take_of_lt hn]
  have len : (st'.take st.length).length = st.length := by rw [List.length_take]; omega
  have sb : SR K cl H' m (st'.take st.length) := ⟨by rw [len, sr0.len], sr0.nd, fun n a o h1 h2 => by
    have hn : n < st.length := by rw [← sr0.len]; exact (List.getElem?_eq_some_iff.mp h1).1
    rw [List.getElem?_take_of_lt hn] at h2
    exact sr0.back e sr ok sub pre n a o h1 h2⟩
  have fin : ∀ {v : PV}, Rp K cl H' m' v u → (match frz (onRef st' st.length st'.length 3) v with | some v' => Res.ok v' (st'.take st.length) | none => Res.bad) = .ok w st2 → ∃ m2, Ext m H m2 H' ∧ SR K cl H' m2 st2 ∧ Rp K cl H' m2 w u := fun {v} r h => by
    cases q : frz (onRef st' st.length st'.length 3) v with
    | none => rw [q] at h; cases h
    | some v' =>
      rw [q] at h
      cases h
      exact ⟨m, e.back, sb, frz_ok sub (onRef_ok sr (fun b hb => .inl (by rw [tk]; exact hb)) pre 3) v u _ r q⟩
  cases mu with
  | false => cases v <;> exact fin r h
  | true =>
    cases v with
    | ref n =>
      dsimp only at h
      obtain ⟨a, rfl, ha⟩ := r
      by_cases hn : n < st.length
      · rw [if_pos hn] at h
        cases h
        exact ⟨m, e.back, sb, a, rfl, by rw [pre n hn]; exact ha⟩
      · rw [if_neg hn] at h
        have free : H a = none := by
          obtain ⟨⟨new, rfl, f⟩, _, _⟩ := e
          rw [List.getElem?_append_right (by rw [sr0.len]; omega)] at ha
          exact f a (List.mem_of_getElem? ha)
        have hm : Ext m H (m ++ [a]) H' := ⟨⟨[a], rfl, fun b hb => by rw [List.mem_singleton.mp hb]; exact free⟩, e.keep, e.trk⟩
        have na : a ∉ m := sr0.free free
        have sub2 : ∀ b ∈ m ++ [a], b ∈ m' := fun b hb => by
          rcases List.mem_append.mp hb with z | z
          · exact sub b z
          · rw [List.mem_singleton.mp z]; exact List.mem_of_getElem? ha
        have pre2 : ∀ k, k < st.length → (m ++ [a])[k]? = m'[k]? := fun k hk => by
          rw [List.getElem?_append_left (by rw [sr0.len]; exact hk)]
          exact pre k hk
        have rf := fun k => onRef_ok (x := n) (n₀ := st.length) (m2 := m ++ [a]) sr (fun b hb => by
          rcases List.mem_append.mp hb with z | z
          · exact .inl (by rw [tk]; exact z)
          · rw [List.mem_singleton.mp z]; exact .inr ha) pre2 k
        have mk : ∀ (o' : SO) (u' : HO), H' a = some u' → RpO K cl H' (m ++ [a]) o' u' → ∃ m2, Ext m H m2 H' ∧ SR K cl H' m2 (st'.take st.length ++ [o']) ∧ Rp K cl H' m2 (.ref st.length) (.ref a) := fun o' u' hu q => by
          refine ⟨m ++ [a], hm, ⟨by simp [len, sr0.len], ?_, fun k b y h1 h2 => ?_⟩, a, rfl, ?_⟩
          · rw [List.nodup_append]
            exact ⟨sr0.nd, by simp, fun c hc b hb z => by rw [List.mem_singleton] at hb; rw [hb] at z; rw [z] at hc; exact na hc⟩
          · by_cases hk : k < st.length
            · rw [List.getElem?_append_left (by rw [sr0.len]; exact hk)] at h1
              rw [List.getElem?_append_left (by rw [len]; exact hk), List.getElem?_take_of_lt hk] at h2
              exact sr0.back e sr ok sub2 pre2 k b y h1 h2
            · rw [List.getElem?_append_right (by rw [sr0.len]; omega)] at h1
              rw [List.getElem?_append_right (by rw [len]; omega)] at h2
              have e0 : k - st.length = 0 := by
                by_cases z : k - st.length = 0
                · exact z
                · rw [List.getElem?_eq_none (by simp [sr0.len]; omega)] at h1; cases h1
              rw [sr0.len, e0] at h1
              rw [len, e0] at h2
              have ea : a = b := Option.some.inj h1
              have ey : o' = y := Option.some.inj h2
              subst ea ey
              exact ⟨u', hu, q⟩
          · rw [← sr0.len]; simp
        cases q : st'[n]? with
        | none => rw [q] at h; cases h
        | some o =>
          rw [q] at h
          cases o with
          | lst xs =>
            have h : (match frzL (onRef st' st.length n 3) xs with | some ys => Res.ok (PV.ref st.length) (st'.take st.length ++ [SO.lst ys]) | none => Res.bad) = .ok w st2 := h
            obtain ⟨u', hu, ys, rfl, rl⟩ := sr.at_ n a _ ha q
            cases q2 : frzL (onRef st' st.length n 3) xs with
            | none => rw [q2] at h; cases h
            | some zs =>
              rw [q2] at h
              cases h
              exact mk (.lst zs) _ hu ⟨ys, rfl, frzL_ok sub2 (rf 3) xs ys zs rl q2⟩
          | ins c fs =>
            have h : (match frzF (onRef st' st.length n 3) fs with | some ys => Res.ok (PV.ref st.length) (st'.take st.length ++ [SO.ins c ys]) | none => Res.bad) = .ok w st2 := h
            obtain ⟨u', hu, dx, gs, rfl, rl⟩ := sr.at_ n a _ ha q
            cases q2 : frzF (onRef st' st.length n 3) fs with
            | none => rw [q2] at h; cases h
            | some zs =>
              rw [q2] at h
              cases h
              exact mk (.ins c zs) _ hu ⟨dx, gs, rfl, frzF_ok sub2 (rf 3) fs gs zs rl q2⟩
    | _ => exact fin r h
end
end Pv

set_option Elab.async false
set_option linter.all false
set_option maxRecDepth 100000
set_option maxHeartbeats 1000000
/-! Operations by values. -/
namespace Pv
open PySem PySem.Spec PyProof.Rows L2
def BOp.op : BOp → Operator
  | .add => .Add | .sub => .Sub | .mul => .Mult | .fdiv => .FloorDiv | .mod => .Mod | .pow => .Pow
section
variable {K : W.Frag} {cl : Nat → Addr} {m m' : List Addr} {H H' : Hp} {σ : L2.St} {env : En} {st st' : Store} {p a : Addr} {X : Cx}
theorem Fin.val {v : PV} {u : V} {Q : VK} (sr : SR K cl H m st) (r : Rp K cl H m v u) (f : Fin K cl m H (.ok v st) Q) : Q u H := f u H m (Ext.refl _ _) sr r
theorem Fin.int {k : Int} {Q : VK} (f : Fin K cl m H (.ok (.int k) st) Q) (sr : SR K cl H m st) : Q (.int k) H := Fin.val (v := .int k) sr rfl f
theorem Fin.str {k : Str} {Q : VK} (f : Fin K cl m H (.ok (.str k) st) Q) (sr : SR K cl H m st) : Q (.str k) H := Fin.val (v := .str k) sr rfl f
theorem Fin.bl {k : Bool} {Q : VK} (f : Fin K cl m H (.ok (.bl k) st) Q) (sr : SR K cl H m st) : Q (.bl k) H := Fin.val (v := .bl k) sr rfl f
/-- .. with more of the heap tracked -/
theorem Fin.at_ {v : PV} {u : V} {Q : VK} (f : Fin K cl m H (.ok v st') Q) (h : Ext m H m' H' ∧ SR K cl H' m' st' ∧ Rp K cl H' m' v u) : Q u H' := f u H' m' h.1 h.2.1 h.2.2

/-! ### two operands -/
def rB (K : W.Frag) (cl : Nat → Addr) (f : PV → PV → Store → Res PV) : R2 := fun x y H Q => ∃ m st a b, SR K cl H m st ∧ Rp K cl H m a x ∧ Rp K cl H m b y ∧ Fin K cl m H (f a b st) Q
theorem op_mulP : OpR X (binaryOp .Mult) (rI MulOk fun i j => .int (i * j)) := opI fun i j _ _ _ _ _ hc q => mul_int q (by
  have b : ∀ x : Int, Builtin.Int.intBits x ≤ x.natAbs.log2 + 1 := fun x => by
    unfold Builtin.Int.intBits
    split <;> omega
  have h1 := b i
  have h2 := b j
  have h3 : i.natAbs.log2 + j.natAbs.log2 < 100000000 := hc
  have e : bitsLine = 134217728 := by decide
  unfold IntMulOk
  intro z
  rw [Bool.and_eq_true] at z
  have z2 := z.2
  unfold Builtin.Int.intTooBig at z2
  have z3 := of_decide_eq_true z2
  rw [e] at z3
  omega)
theorem op_fdivP : OpR X (binaryOp .FloorDiv) (rI DivOk fun i j => .int (i.fdiv j)) := opI fun i j _ _ _ _ _ hc q => floordiv_int hc.1 q (.inl (PyProof.noPylong_of_log2 hc.2))
theorem op_catT0 : OpR X (binaryOp .Add) (fun x y H Q => ∃ a b ys, x = .ref a ∧ y = .ref b ∧ SqT X.K H a [] ∧ SqT X.K H b ys ∧ Q (.ref b) H) := by
  intro pins s σ H x y v u Q I rx ry h
  obtain ⟨a, b, ys, rfl, rfl, ha, hb, q⟩ := h
  cases rx
  cases ry
  obtain ⟨its, r1, p1, _⟩ := I.tuple ha
  obtain ⟨its2, r2, p2, _⟩ := I.tuple hb
  obtain ⟨⟨cls, dd, data, sl⟩, ho, hc, n, hd⟩ := id p1
  obtain ⟨⟨cls2, dd2, data2, sl2⟩, ho2, hc2, n2, hd2⟩ := id p2
  simp only at hc hd hc2 hd2
  subst hc hd hc2 hd2
  cases r1
  exact concat_meets ⟨_, ho, rfl⟩ ⟨_, ho2, rfl⟩ noFill_tuple_add seq_tuple_add PySem.F.slot_tuple_add PySem.F.entry_tuple_add (PySem.F.args_tuple_add_2 _ _)
      (tuple_addW0 a b [].toArray its2.toArray n n2 dd dd2 sl sl2 rfl) ⟨ho, ho2, ⟨.ref b, H, I, rfl, q⟩⟩
theorem op_bin (hK : X.K = K) (o : BOp) : OpR X (binaryOp o.op) (rB K cl (bin2 o)) := by
  intro pins s σ H x y v u Q I rx ry h
  obtain ⟨m, st, a, b, sr, ra, rb, f⟩ := h
  subst hK
  cases a <;> cases b <;> first
    | (cases o <;> exact f.elim)
    | skip
  case int.int i j =>
    cases ra
    cases rb
    cases o with
    | add => exact op_add pins s σ H _ _ v u Q I rx ry ⟨i, j, rfl, rfl, Fin.int f sr⟩
    | sub => exact op_sub pins s σ H _ _ v u Q I rx ry ⟨i, j, rfl, rfl, Fin.int f sr⟩
    | mul =>
      simp only [bin2] at f
      split at f
      · rename_i hc
        exact op_mulP pins s σ H _ _ v u Q I rx ry ⟨i, j, rfl, rfl, hc, Fin.int f sr⟩
      · exact f.elim
    | fdiv =>
      simp only [bin2] at f
      split at f
      · rename_i hc
        exact op_fdivP pins s σ H _ _ v u Q I rx ry ⟨i, j, rfl, rfl, hc, Fin.int f sr⟩
      · exact f.elim
    | mod =>
      simp only [bin2] at f
      split at f
      · rename_i hc
        exact op_modN pins s σ H _ _ v u Q I rx ry ⟨i, j, rfl, rfl, hc, Fin.int f sr⟩
      · exact f.elim
    | pow =>
      simp only [bin2] at f
      split at f
      · rename_i hc
        exact op_pow pins s σ H _ _ v u Q I rx ry ⟨i, j, rfl, rfl, ⟨hc.1, by have := hc.2.1; omega, hc.2.2⟩, Fin.int f sr⟩
      · exact f.elim
  case str.str i j =>
    cases ra
    cases rb
    cases o with
    | add =>
      simp only [bin2] at f
      split at f
      · rename_i hc
        exact op_add_str pins s σ H _ _ v u Q I rx ry ⟨i, j, rfl, rfl, hc, Fin.str f sr⟩
      · exact f.elim
    | _ => exact f.elim
  case tup.tup xs ys =>
    obtain ⟨p, us, rfl, hp, r1⟩ := ra
    obtain ⟨q, ws, rfl, hq, r2⟩ := rb
    cases o with
    | add =>
      simp only [bin2] at f
      split at f
      case isFalse => exact f.elim
      rename_i hc
      cases us with
      | nil =>
        have e := r1.length
        have e2 : xs = [] := List.eq_nil_of_length_eq_zero e
        subst e2
        exact op_catT0 pins s σ H _ _ v u Q I rx ry ⟨p, q, ws, rfl, rfl, hp, hq, Fin.val (v := .tup ([] ++ ys)) sr ⟨q, ws, rfl, hq, r2⟩ f⟩
      | cons u0 us =>
        refine op_catT pins s σ H _ _ v u Q I rx ry ⟨p, q, _, ws, rfl, rfl, hp, hq, by simp, by rw [← r1.length, ← r2.length]; exact hc, fun e => ?_, fun _ l hl => ?_⟩
        · subst e
          have e2 : ys = [] := List.eq_nil_of_length_eq_zero r2.length
          subst e2
          rw [List.append_nil] at f
          exact Fin.val (v := .tup xs) sr ⟨p, _, rfl, hp, r1⟩ f
        · exact f.at_ (newT sr (r1.append r2) hl)
    | _ => exact f.elim
theorem op_addL (hK : X.K = K) (mu : Bool) : OpR X (binaryOp .Add) (rB K cl (addL mu)) := by
  intro pins s σ H x y v u Q I rx ry h
  obtain ⟨m, st, a, b, sr, ra, rb, f⟩ := h
  subst hK
  unfold addL at f
  cases e1 : seqOf st a with
  | none => rw [e1] at f; exact f.elim
  | some w1 =>
    cases e2 : seqOf st b with
    | none => rw [e1, e2] at f; obtain ⟨_ | _, _⟩ := w1 <;> exact f.elim
    | some w2 =>
      rw [e1, e2] at f
      obtain ⟨b1, xs⟩ := w1
      obtain ⟨b2, ys⟩ := w2
      cases b1 with
      | true => exact f.elim
      | false =>
        cases b2 with
        | true => exact f.elim
        | false =>
          dsimp only at f
          split at f
          case isFalse => exact f.elim
          rename_i hc
          obtain ⟨p, us, rfl, r1, _, h1⟩ := seq_ok sr ra e1
          obtain ⟨q, ws, rfl, r2, _, h2⟩ := seq_ok sr rb e2
          exact op_cat pins s σ H _ _ v u Q I rx ry ⟨p, q, us, ws, rfl, rfl, h1 rfl, h2 rfl, by rw [← r1.length, ← r2.length]; exact hc, fun l hl => mkL_ok sr (r1.append r2) hl f⟩

/-! ### comparisons -/
def COp.op : COp → CmpOp
  | .lt => .Lt | .le => .LtE | .gt => .Gt | .ge => .GtE | .eq => .Eq | .ne => .NotEq | .isN => .Is | .notN => .IsNot | .mem => .In | .notMem => .NotIn | .isC => .Is | .notC => .IsNot
def rC (K : W.Frag) (cl : Nat → Addr) (o : COp) : R2 := fun x y H Q => ∃ m st a b c, SR K cl H m st ∧ Rp K cl H m a x ∧ Rp K cl H m b y ∧ cmpR o a b st = some c ∧ Q (.bl c) H
theorem isV_ok {neg : Bool} {a b : PV} {c : Bool} {x y : V} {v u : Value} {pins : List (Addr × Obj)} {s : Shared} {Q : VK} (I : Inv X pins σ H s) (rx : RelV x v) (ry : RelV y u) (ra : Rp K cl H m a x) (rb : Rp K cl H m b y) (h : isV a b = some c) (q : Q (.bl (if neg then !c else c)) H) :
    wpAny (model X.prog X.w) X.A (compareOp (if neg then .IsNot else .Is) v u) (EP X pins σ Q) X.xe s := by
  have key : plainIs v u = true ∧ (v == u) = c := by
    cases b with
    | non =>
      cases rb
      cases ry
      cases a with
      | non => cases h; cases ra; cases rx; exact ⟨rfl, rfl⟩
      | bl _ => cases h; cases ra; cases rx; exact ⟨rfl, rfl⟩
      | int _ => cases h; cases ra; obtain ⟨_, rfl⟩ := rx; exact ⟨rfl, rfl⟩
      | str _ => cases h; cases ra; obtain ⟨_, rfl⟩ := rx; exact ⟨rfl, rfl⟩
      | ty _ => cases h; cases ra; cases rx; exact ⟨rfl, rfl⟩
      | tup _ => cases h; obtain ⟨_, _, rfl, _⟩ := ra; cases rx; exact ⟨rfl, rfl⟩
      | lst _ => cases h; obtain ⟨_, _, rfl, _⟩ := ra; cases rx; exact ⟨rfl, rfl⟩
      | scr _ => cases h; obtain ⟨_, rfl, _⟩ := ra; cases rx; exact ⟨rfl, rfl⟩
      | ins _ _ => cases h; obtain ⟨_, _, _, rfl, _⟩ := ra; cases rx; exact ⟨rfl, rfl⟩
      | ref _ => cases h; obtain ⟨_, rfl, _⟩ := ra; cases rx; exact ⟨rfl, rfl⟩
    | bl k =>
      cases rb
      cases ry
      cases a with
      | non => cases h; cases ra; cases rx; exact ⟨rfl, rfl⟩
      | bl l => cases h; cases ra; cases rx; exact ⟨rfl, by cases k <;> cases l <;> rfl⟩
      | int _ => cases h; cases ra; obtain ⟨_, rfl⟩ := rx; exact ⟨rfl, rfl⟩
      | str _ => cases h; cases ra; obtain ⟨_, rfl⟩ := rx; exact ⟨rfl, rfl⟩
      | ty _ => cases h; cases ra; cases rx; exact ⟨rfl, rfl⟩
      | tup _ => cases h; obtain ⟨_, _, rfl, _⟩ := ra; cases rx; exact ⟨rfl, rfl⟩
      | lst _ => cases h; obtain ⟨_, _, rfl, _⟩ := ra; cases rx; exact ⟨rfl, rfl⟩
      | scr _ => cases h; obtain ⟨_, rfl, _⟩ := ra; cases rx; exact ⟨rfl, rfl⟩
      | ins _ _ => cases h; obtain ⟨_, _, _, rfl, _⟩ := ra; cases rx; exact ⟨rfl, rfl⟩
      | ref _ => cases h; obtain ⟨_, rfl, _⟩ := ra; cases rx; exact ⟨rfl, rfl⟩
    | _ => cases h
  cases neg with
  | false => exact wpAny_is_plain key.1 ⟨_, H, I, by rw [key.2]; rfl, q⟩
  | true => exact wpAny_isNot_plain key.1 ⟨_, H, I, by rw [key.2]; rfl, q⟩
theorem intsOf_ok : ∀ {xs : List PV} {is : List Int} {us : List V}, intsOf xs = some is → RpL K cl H m xs us → us = is.map V.int
  | [], _, us, h, r => by cases h; cases r; rfl
  | .int i :: xs, is, us, h, r => by
    obtain ⟨y, zs, rfl, r1, r2⟩ := r
    cases r1
    unfold intsOf at h
    cases e : intsOf xs with
    | none => rw [e] at h; cases h
    | some js => rw [e] at h; cases h; rw [intsOf_ok e r2]; rfl
  | .non :: xs, is, us, h, r => by cases h
  | .bl _ :: xs, is, us, h, r => by cases h
  | .str _ :: xs, is, us, h, r => by cases h
  | .ty _ :: xs, is, us, h, r => by cases h
  | .tup _ :: xs, is, us, h, r => by cases h
  | .lst _ :: xs, is, us, h, r => by cases h
  | .scr _ :: xs, is, us, h, r => by cases h
  | .ins _ _ :: xs, is, us, h, r => by cases h
  | .ref _ :: xs, is, us, h, r => by cases h
theorem blsOf_ok : ∀ {xs : List PV} {is : List Bool} {us : List V}, blsOf xs = some is → RpL K cl H m xs us → us = is.map V.bl
  | [], _, us, h, r => by cases h; cases r; rfl
  | .bl i :: xs, is, us, h, r => by
    obtain ⟨y, zs, rfl, r1, r2⟩ := r
    cases r1
    unfold blsOf at h
    cases e : blsOf xs with
    | none => rw [e] at h; cases h
    | some js => rw [e] at h; cases h; rw [blsOf_ok e r2]; rfl
  | .non :: xs, is, us, h, r => by cases h
  | .int _ :: xs, is, us, h, r => by cases h
  | .str _ :: xs, is, us, h, r => by cases h
  | .ty _ :: xs, is, us, h, r => by cases h
  | .tup _ :: xs, is, us, h, r => by cases h
  | .lst _ :: xs, is, us, h, r => by cases h
  | .scr _ :: xs, is, us, h, r => by cases h
  | .ins _ _ :: xs, is, us, h, r => by cases h
  | .ref _ :: xs, is, us, h, r => by cases h
theorem mem_ok {neg : Bool} {a b : PV} {c : Bool} {x y : V} {v u : Value} {pins : List (Addr × Obj)} {s : Shared} {Q : VK} (hK : X.K = K) (hu : X.A.units + 65 < cLine) (I : Inv X pins σ H s) (rx : RelV x v) (ry : RelV y u) (sr : SR K cl H m st) (ra : Rp K cl H m a x) (rb : Rp K cl H m b y) (h : mem2 st a b = some c) (q : Q (.bl (if neg then !c else c)) H) :
    wpAny (model X.prog X.w) X.A (compareOp (if neg then .NotIn else .In) v u) (EP X pins σ Q) X.xe s := by
  subst hK
  have viaL : memL st a b = some c → wpAny (model X.prog X.w) X.A (compareOp (if neg then .NotIn else .In) v u) (EP X pins σ Q) X.xe s := fun h => by
    unfold memL at h
    cases e1 : datOf st a with
    | none => rw [e1] at h; cases h
    | some d =>
      cases e2 : datOf st b with
      | none => rw [e1, e2] at h; cases h
      | some e =>
        rw [e1, e2] at h
        cases e with
        | list ds =>
          dsimp only at h
          split at h
          case isFalse => cases h
          rename_i hs
          cases h
          cases neg with
          | false => exact op_inD hu pins s σ H x y v u Q I rx ry ⟨d, ds, datOf_ok sr ra e1, datOf_ok sr rb e2, hs.1, hs.2, q⟩
          | true => exact op_notInD hu pins s σ H x y v u Q I rx ry ⟨d, ds, datOf_ok sr ra e1, datOf_ok sr rb e2, hs.1, hs.2, q⟩
        | _ => cases h
  cases b with
  | tup xs =>
    simp only [mem2] at h
    cases a with
    | int i =>
      cases e : intsOf xs with
      | none => rw [e] at h; cases h
      | some is =>
        rw [e] at h
        cases h
        cases ra
        obtain ⟨p, ys, rfl, hp, r⟩ := rb
        have ey := intsOf_ok e r
        subst ey
        have inv : inV (V.int i) (is.map V.int) = is.any fun j => decide (j = i) := by
          unfold inV
          rw [List.any_map]
          rfl
        have fl : (is.map V.int).all flatV = true := by
          rw [List.all_map]
          exact List.all_eq_true.mpr fun _ _ => rfl
        cases neg with
        | false => exact op_in_seq pins s σ H _ _ v u Q I rx ry ⟨p, _, rfl, .inr hp, rfl, fl, by rw [inv]; exact q⟩
        | true => exact op_notIn_seq pins s σ H _ _ v u Q I rx ry ⟨p, _, rfl, .inr hp, rfl, fl, by rw [inv]; exact q⟩
    | _ => cases h
  | _ => exact viaL h
theorem op_cmp (hK : X.K = K) (hu : X.A.units + 65 < cLine) (o : COp) : OpR X (compareOp o.op) (rC K cl o) := by
  intro pins s σ H x y v u Q I rx ry h
  obtain ⟨m, st, a, b, c, sr, ra, rb, f, q⟩ := h
  have hu64 : X.A.units + 64 < cLine := by omega
  cases o
  case mem => exact mem_ok (neg := false) hK hu I rx ry sr ra rb f q
  case notMem =>
    simp only [cmpR, Option.map_eq_some_iff] at f
    obtain ⟨c', f, rfl⟩ := f
    exact mem_ok (neg := true) hK hu I rx ry sr ra rb f q
  case isC => exact isV_ok (neg := false) I rx ry ra rb f q
  case notC =>
    simp only [cmpR, Option.map_eq_some_iff] at f
    obtain ⟨c', f, rfl⟩ := f
    exact isV_ok (neg := true) I rx ry ra rb f q
  case isN =>
    have hb : b = .non := by cases b <;> first | rfl | cases f
    subst hb
    exact isV_ok (neg := false) I rx ry ra rb (b := .non) f q
  case notN =>
    have hb : b = .non := by cases b <;> first | rfl | cases f
    subst hb
    refine isV_ok (neg := true) (c := !c) I rx ry ra rb (b := .non) ?_ (by simpa using q)
    cases a <;> (simp only [cmpR, cmp2, Option.some.injEq] at f; subst f; rfl)
  case eq =>
    subst hK
    simp only [cmpR, cmp2] at f
    cases e1 : datOf st a with
    | none => rw [e1] at f; cases f
    | some d =>
      cases e2 : datOf st b with
      | none => rw [e1, e2] at f; cases f
      | some e =>
        rw [e1, e2] at f
        dsimp only at f
        split at f
        case isFalse => cases f
        rename_i hs
        cases f
        exact op_eqD hu64 pins s σ H x y v u Q I rx ry ⟨d, e, datOf_ok sr ra e1, datOf_ok sr rb e2, hs.1, hs.2, q⟩
  case ne =>
    subst hK
    simp only [cmpR, cmp2] at f
    cases e1 : datOf st a with
    | none => rw [e1] at f; cases f
    | some d =>
      cases e2 : datOf st b with
      | none => rw [e1, e2] at f; cases f
      | some e =>
        rw [e1, e2] at f
        dsimp only at f
        split at f
        case isFalse => cases f
        rename_i hs
        cases f
        exact op_neD hu64 pins s σ H x y v u Q I rx ry ⟨d, e, datOf_ok sr ra e1, datOf_ok sr rb e2, hs.1, hs.2, q⟩
  all_goals
    cases a <;> cases b <;> first
      | (cases f; done)
      | skip
    rename_i i j
    cases f
    cases ra
    cases rb
  case lt.int.int => exact op_lt pins s σ H _ _ v u Q I rx ry ⟨i, j, rfl, rfl, q⟩
  case le.int.int => exact op_le pins s σ H _ _ v u Q I rx ry ⟨i, j, rfl, rfl, q⟩
  case gt.int.int => exact op_gt pins s σ H _ _ v u Q I rx ry ⟨i, j, rfl, rfl, q⟩
  case ge.int.int => exact op_ge pins s σ H _ _ v u Q I rx ry ⟨i, j, rfl, rfl, q⟩
end
end Pv

set_option Elab.async false
set_option linter.all false
set_option maxRecDepth 100000
set_option maxHeartbeats 1000000
/-! Built-in functions, subscripts, attributes by values. -/
namespace Pv
open PySem PySem.Spec PyProof.Rows L2
/-- what every class of one's own (no exception) has -/
structure IsF (K : W.Frag) (C : Addr) : Prop where
  ha : W.findIn K (.ref C) "__class__" = some (some (.builtin "object.__class__"))
  hn : W.specialIn K (.builtin "object.__class__") "__get__" = some (some (.builtin "getset_descriptor.__get__"))
  htk : W.takesIn K (.builtin "object.__class__") = some true
  hm : W.mroIn K C (.type "object") = some true
def csV (cl : Nat → Addr) : Cs → Value
  | .ty n => .type n
  | .cl c => .ref (cl c)
def csU (cl : Nat → Addr) : Cs → V
  | .ty n => .ty n
  | .cl c => .ref (cl c)
/-- the classes as they stand -/
structure ClsOk (K : W.Frag) (cl : Nat → Addr) (PR : Prog) : Prop where
  cls : ∀ c k, PR.kl[c]? = some k → Cls K (cl c)
  isf : ∀ c k, PR.kl[c]? = some k → IsF K (cl c)
  isl : ∀ a b r, (a, b, r) ∈ PR.isl → W.kitOne K (csV cl a) (csV cl b) = some r
def Bi.id : Bi → Value
  | .len => .builtin "len" | .tuple => .type "tuple" | .list _ => .type "list" | .abs => .builtin "abs" | .int => .type "int" | .gcd => .builtin "math.gcd"
  | .all => .builtin "all" | .any => .builtin "any" | .sum => .builtin "sum" | .min2 => .builtin "min" | .max2 => .builtin "max" | .str => .type "str"
  | .isi _ => .builtin "isinstance" | .isiT _ => .builtin "isinstance"
section
variable {K : W.Frag} {cl : Nat → Addr} {m m' : List Addr} {H H' : Hp} {σ : L2.St} {env : En} {st st' : Store} {p a : Addr} {X : Cx} {PR : Prog}
def rF (K : W.Frag) (cl : Nat → Addr) (f : List PV → Store → Res PV) : List V → Hp → VK → Prop := fun xs H Q => ∃ m st as, SR K cl H m st ∧ RpL K cl H m as xs ∧ Fin K cl m H (f as st) Q
theorem RpL.one {x : PV} {us : List V} (h : RpL K cl H m [x] us) : ∃ u, us = [u] ∧ Rp K cl H m x u := by
  obtain ⟨y, zs, rfl, r, q⟩ := h
  cases q
  exact ⟨y, rfl, r⟩
theorem RpL.two {x y : PV} {us : List V} (h : RpL K cl H m [x, y] us) : ∃ u w, us = [u, w] ∧ Rp K cl H m x u ∧ Rp K cl H m y w := by
  obtain ⟨u, zs, rfl, r, q⟩ := h
  obtain ⟨w, rfl, rq⟩ := q.one
  exact ⟨u, w, rfl, r, rq⟩
theorem seqR {b : Bool} {p : Addr} {ys : List V} (h1 : b = true → SqT K H p ys) (h2 : b = false → H p = some (.lst ys)) : SqL K H p ys ∨ SqT K H p ys := by
  cases b with
  | true => exact .inr (h1 rfl)
  | false => exact .inl (.inl (.inl (h2 rfl)))
theorem cr_bi (hK : X.K = K) (hc : X.calm = true) (l : List (Cs × Cs × Bool)) (nk : Nat) (b : Bi) (hb : isIsi b = false) : CallR X b.id (rF K cl (biF l nk b)) := by
  intro pins s σ H xs us Q I r h
  obtain ⟨m, st, as, sr, rp, f⟩ := h
  subst hK
  match as, rp, f with
  | [], rp, f => cases b <;> exact f.elim
  | x :: y :: z :: ws, rp, f => cases b <;> cases x <;> cases y <;> exact f.elim
  | [x, y], rp, f =>
    obtain ⟨u, w, rfl, r1, r2⟩ := rp.two
    cases b with
    | gcd =>
      cases x with
      | int i =>
        cases y with
        | int j => cases r1; cases r2; exact cr_gcd pins s σ H _ us Q I r ⟨i, j, rfl, Fin.int f sr⟩
        | _ => exact f.elim
      | _ => exact f.elim
    | min2 =>
      cases x with
      | int i =>
        cases y with
        | int j => cases r1; cases r2; exact call_min2 hc pins s σ H _ us Q I r ⟨i, j, rfl, Fin.int f sr⟩
        | _ => exact f.elim
      | _ => exact f.elim
    | max2 =>
      cases x with
      | int i =>
        cases y with
        | int j => cases r1; cases r2; exact call_max2 hc pins s σ H _ us Q I r ⟨i, j, rfl, Fin.int f sr⟩
        | _ => exact f.elim
      | _ => exact f.elim
    | _ => cases x <;> exact f.elim
  | [x], rp, f =>
    obtain ⟨u, rfl, r1⟩ := rp.one
    cases b with
    | isi _ => cases hb
    | isiT _ => cases hb
    | gcd => cases x <;> exact f.elim
    | min2 => cases x <;> exact f.elim
    | max2 => cases x <;> exact f.elim
    | abs =>
      cases x with
      | int i => cases r1; exact call_abs pins s σ H _ us Q I r ⟨i, rfl, Fin.int f sr⟩
      | _ => exact f.elim
    | int =>
      cases x with
      | int i => cases r1; exact call_int1 pins s σ H _ us Q I r (.inl ⟨i, rfl, Fin.int f sr⟩)
      | _ => exact f.elim
    | str =>
      cases x with
      | int i =>
        cases r1
        simp only [biF] at f
        split at f
        · rename_i hi
          exact call_str_int pins s σ H _ us Q I r ⟨i, rfl, hi, Fin.str f sr⟩
        · exact f.elim
      | _ => exact f.elim
    | len =>
      simp only [biF] at f
      cases e : seqOf st x with
      | none => rw [e] at f; exact f.elim
      | some w =>
        obtain ⟨b, ys⟩ := w
        rw [e] at f
        obtain ⟨p, zs, rfl, rl, h1, h2⟩ := seq_ok sr r1 e
        refine call_len_seq pins s σ H _ us Q I r ⟨p, zs, rfl, seqR h1 h2, ?_⟩
        rw [← rl.length]
        exact Fin.int f sr
    | tuple =>
      simp only [biF] at f
      cases e : seqOf st x with
      | none => rw [e] at f; exact f.elim
      | some w =>
        obtain ⟨b, ys⟩ := w
        rw [e] at f
        obtain ⟨p, zs, rfl, rl, h1, h2⟩ := seq_ok sr r1 e
        refine call_tuple_of pins s σ H _ us Q I r ⟨p, zs, rfl, ?_⟩
        cases b with
        | true => exact .inr ⟨h1 rfl, Fin.val (v := .tup ys) sr ⟨p, zs, rfl, h1 rfl, rl⟩ f⟩
        | false => exact .inl ⟨.inl (.inl (h2 rfl)), fun q hq => f.at_ (newT sr rl hq)⟩
    | list mu =>
      simp only [biF] at f
      cases e : seqOf st x with
      | none => rw [e] at f; exact f.elim
      | some w =>
        obtain ⟨b, ys⟩ := w
        rw [e] at f
        obtain ⟨p, zs, rfl, rl, h1, h2⟩ := seq_ok sr r1 e
        exact call_list_of pins s σ H _ us Q I r ⟨p, zs, rfl, seqR h1 h2, fun q hq => mkL_ok sr rl hq f⟩
    | all =>
      simp only [biF] at f
      cases e : seqOf st x with
      | none => rw [e] at f; exact f.elim
      | some w =>
        obtain ⟨b, ys⟩ := w
        rw [e] at f
        cases b with
        | true => exact f.elim
        | false =>
          dsimp only at f
          obtain ⟨p, zs, rfl, rl, h1, h2⟩ := seq_ok sr r1 e
          cases e2 : blsOf ys with
          | none => rw [e2] at f; exact f.elim
          | some bs =>
            rw [e2] at f
            have ez := blsOf_ok e2 rl
            subst ez
            exact cr_all hc pins s σ H _ us Q I r ⟨p, bs, rfl, .inl (.inl (h2 rfl)), Fin.bl f sr⟩
    | any =>
      simp only [biF] at f
      cases e : seqOf st x with
      | none => rw [e] at f; exact f.elim
      | some w =>
        obtain ⟨b, ys⟩ := w
        rw [e] at f
        cases b with
        | true => exact f.elim
        | false =>
          dsimp only at f
          obtain ⟨p, zs, rfl, rl, h1, h2⟩ := seq_ok sr r1 e
          cases e2 : blsOf ys with
          | none => rw [e2] at f; exact f.elim
          | some bs =>
            rw [e2] at f
            have ez := blsOf_ok e2 rl
            subst ez
            exact cr_any hc pins s σ H _ us Q I r ⟨p, bs, rfl, .inl (.inl (h2 rfl)), Fin.bl f sr⟩
    | sum =>
      simp only [biF] at f
      cases e : seqOf st x with
      | none => rw [e] at f; exact f.elim
      | some w =>
        obtain ⟨b, ys⟩ := w
        rw [e] at f
        cases b with
        | true => exact f.elim
        | false =>
          dsimp only at f
          obtain ⟨p, zs, rfl, rl, h1, h2⟩ := seq_ok sr r1 e
          cases e2 : intsOf ys with
          | none => rw [e2] at f; exact f.elim
          | some bs =>
            rw [e2] at f
            have ez := intsOf_ok e2 rl
            subst ez
            exact cr_sum hc pins s σ H _ us Q I r ⟨p, bs, rfl, .inl (.inl (h2 rfl)), Fin.int f sr⟩

/-! ### isinstance -/
theorem ins_ok (sr : SR K cl H m st) {v : PV} {u : V} {c : Nat} {fs : List (Str × PV)} (r : Rp K cl H m v u) (h : insOf st v = some (c, fs)) :
    ∃ p dx gs, u = .ref p ∧ H p = some (.ins (cl c) dx gs) ∧ RpF K cl H m fs gs := by
  cases v with
  | ins d zs =>
    cases h
    obtain ⟨a, dx, gs, e, q, _, r⟩ := r
    exact ⟨a, dx, gs, e, q, r⟩
  | ref n =>
    obtain ⟨a, e, q⟩ := r
    simp only [insOf] at h
    cases hs : st[n]? with
    | none => rw [hs] at h; cases h
    | some o =>
      rw [hs] at h
      cases o with
      | lst zs => cases h
      | ins d zs =>
        cases h
        obtain ⟨w, hw, dx, gs, rfl, r⟩ := sr.at_ n a _ q hs
        exact ⟨a, dx, gs, e, hw, r⟩
  | _ => cases h
theorem ty_ok (C : ClsOk K cl PR) (sr : SR K cl H m st) {v : PV} {u : V} {t : Cs} (r : Rp K cl H m v u) (h : tyOf st v = some t) (hk : ∀ c, t = .cl c → ∃ k, PR.kl[c]? = some k) : TyX K H u (csV cl t) := by
  have own : ∀ {p dx : Addr} {c : Nat} {gs : List (Str × V)}, t = .cl c → H p = some (.ins (cl c) dx gs) → TyX K H (.ref p) (csV cl t) := fun {p dx c gs} e q => by
    subst e
    obtain ⟨k, hk⟩ := hk c rfl
    have i := C.isf c k hk
    exact .base (.ins q (C.cls c k hk) i.ha i.hn i.htk i.hm)
  cases v with
  | non => cases h; cases r; exact .base .non
  | bl b => cases h; cases r; exact .base (.bl b)
  | int b => cases h; cases r; exact .base (.int b)
  | str b => cases h; cases r; exact .base (.str b)
  | ty b => cases h
  | scr b => cases h
  | tup xs =>
    cases h
    obtain ⟨a, ys, rfl, q, _⟩ := r
    rcases q with (q | ⟨o, q⟩) | ⟨o, its, n, q, c, _⟩
    · exact .base (.tup q)
    · exact .fTuple q
    · exact .kTuple q c
  | lst xs =>
    cases h
    obtain ⟨a, ys, rfl, q, _⟩ := r
    exact .base (.lst q)
  | ins c fs =>
    obtain ⟨a, dx, gs, rfl, q, _⟩ := r
    exact own (Option.some.inj h).symm q
  | ref n =>
    obtain ⟨a, rfl, q⟩ := r
    simp only [tyOf] at h
    cases hs : st[n]? with
    | none => rw [hs] at h; cases h
    | some o =>
      rw [hs] at h
      obtain ⟨w, hw, ro⟩ := sr.at_ n a _ q hs
      cases o with
      | lst zs =>
        cases h
        obtain ⟨ys, rfl, _⟩ := ro
        exact .base (.lst hw)
      | ins d zs =>
        obtain ⟨dx, gs, rfl, _⟩ := ro
        exact own (Option.some.inj h).symm hw
theorem isaT_ok (C : ClsOk K cl PR) {a b : Cs} {r : Bool} (h : isaT PR.isl a b = some r) : W.kitOne K (csV cl a) (csV cl b) = some r := by
  have via : (PR.isl.find? fun q => decide (q.1 = a ∧ q.2.1 = b)).map (·.2.2) = some r → W.kitOne K (csV cl a) (csV cl b) = some r := fun h => by
    rw [Option.map_eq_some_iff] at h
    obtain ⟨⟨x, y, z⟩, h1, h2⟩ := h
    have h3 := List.find?_some h1
    obtain ⟨e1, e2⟩ := of_decide_eq_true h3
    simp only at e1 e2 h2
    subst e1 e2 h2
    exact C.isl _ _ _ (List.mem_of_find?_eq_some h1)
  cases a with
  | ty x =>
    cases b with
    | ty y => exact kit_ty h
    | cl y => exact via h
  | cl x => exact via h
theorem isaA_ok (C : ClsOk K cl PR) {a : Cs} : ∀ {bs : List Cs} {r : Bool}, isaA PR.isl a bs = some r → W.kitAny K (csV cl a) (bs.map (csV cl)) = some r
  | [], r, h => h
  | b :: bs, r, h => by
    unfold isaA at h
    cases e : isaT PR.isl a b with
    | none => rw [e] at h; cases h
    | some k =>
      rw [e] at h
      refine kitAny_cons (isaT_ok C e) (fun z => ?_) (fun z => ?_)
      · subst z
        exact isaA_ok C h
      · subst z
        exact (Option.some.inj h).symm

/-! ### subscripts, slices, fields -/
theorem ix_ok (hK : X.K = K) {x : PV} {i : Int} {b : Bool} {xs : List PV} {v : PV} {u : V} {Q : VK} (f : (∀ y, Rp K cl H m v y → Q y H)) (sr : SR K cl H m st) (rx : Rp K cl H m x u) (e : seqOf st x = some (b, xs)) (ha : atI xs i = some v) :
    rIx K u (.int i) H Q := by
  obtain ⟨p, zs, rfl, rl, h1, h2⟩ := seq_ok sr rx e
  have hl := rl.length
  obtain ⟨y, hy, ry⟩ : ∃ y, atI zs i = some y ∧ Rp K cl H m v y := by
    unfold atI at ha ⊢
    rw [← hl]
    cases q : ixN xs.length i with
    | none => rw [q] at ha; cases ha
    | some j =>
      rw [q] at ha
      exact RpL.get rl ha
  cases b with
  | true => exact .inr (.inl ⟨p, zs, i, y, rfl, rfl, h1 rfl, hy, f y ry⟩)
  | false => exact .inl ⟨p, zs, i, y, rfl, rfl, .inl (.inl (h2 rfl)), hy, f y ry⟩
theorem RpF.lookup : ∀ {fs : List (Str × PV)} {gs : List (Str × V)} {f : Str} {x : PV}, RpF K cl H m fs gs → fs.lookup f = some x → ∃ y, gs.lookup f = some y ∧ Rp K cl H m x y
  | [], _, _, _, _, h => by cases h
  | (g, z) :: fs, gs, f, x, r, h => by
    obtain ⟨y, zs, rfl, r1, r2⟩ := r
    rw [List.lookup_cons] at h ⊢
    cases e : f == g with
    | true => rw [e] at h; cases h; exact ⟨y, rfl, r1⟩
    | false => rw [e] at h; exact RpF.lookup r2 h
theorem RpF.lookupN : ∀ {fs : List (Str × PV)} {gs : List (Str × V)} {f : Str}, RpF K cl H m fs gs → fs.lookup f = none → gs.lookup f = none
  | [], _, _, h, _ => by cases h; rfl
  | (g, z) :: fs, gs, f, r, h => by
    obtain ⟨y, zs, rfl, r1, r2⟩ := r
    rw [List.lookup_cons] at h ⊢
    cases e : f == g with
    | true => rw [e] at h; cases h
    | false => rw [e] at h; exact RpF.lookupN r2 h
theorem RpF.length : ∀ {fs : List (Str × PV)} {gs : List (Str × V)}, RpF K cl H m fs gs → fs.length = gs.length
  | [], _, h => by cases h; rfl
  | (g, z) :: fs, gs, r => by
    obtain ⟨y, zs, rfl, r1, r2⟩ := r
    simp [RpF.length r2]
theorem RpF.put {f : Str} {x : PV} {y : V} (r : Rp K cl H m x y) : ∀ {fs : List (Str × PV)} {gs : List (Str × V)}, RpF K cl H m fs gs → RpF K cl H m (putP f x fs) (putF f y gs)
  | [], _, h => by cases h; exact ⟨y, [], rfl, r, rfl⟩
  | (g, z) :: fs, gs, h => by
    obtain ⟨w, zs, rfl, r1, r2⟩ := h
    unfold putP putF
    by_cases e : g = f
    · rw [if_pos e, if_pos e]
      exact ⟨y, zs, rfl, r, r2⟩
    · rw [if_neg e, if_neg e]
      exact ⟨w, _, rfl, r1, RpF.put r r2⟩
theorem cut_ok {xs : List PV} {ys : List V} (r : RpL K cl H m xs ys) (lo hi : Option Int) : RpL K cl H m (cutP xs lo hi) (cutV ys lo hi) := by
  unfold cutP cutV
  rw [← r.length]
  exact (r.drop _).take _
theorem truth_ok (sr : SR K cl H m st) {v : PV} {u : V} {k : Bool} (r : Rp K cl H m v u) (h : truth st v = some k) : TruV K u H k := by
  cases v with
  | non => cases h; cases r; rfl
  | bl b => cases h; cases r; rfl
  | int i =>
    cases h; cases r
    show decide (i ≠ 0) = (i != 0)
    by_cases e : i = 0
    · subst e; rfl
    · rw [decide_eq_true e]; exact (bne_iff_ne.mpr e).symm
  | str x =>
    simp only [truth] at h
    split at h
    case isFalse => cases h
    rename_i hs
    cases h; cases r
    refine ⟨hs, ?_⟩
    by_cases e : x.length = 0
    · rw [e]; rfl
    · rw [decide_eq_true e]; exact (bne_iff_ne.mpr (by omega)).symm
  | ty _ => cases h
  | scr _ => cases h
  | ins _ _ => cases h
  | tup xs =>
    cases h
    obtain ⟨a, ys, rfl, q, r⟩ := r
    refine .inr (.inl ⟨ys, q, ?_⟩)
    have := r.length
    cases xs <;> cases ys <;> first | rfl | (simp at this)
  | lst xs =>
    cases h
    obtain ⟨a, ys, rfl, q, _, r⟩ := r
    refine .inl ⟨ys, .inl (.inl q), ?_⟩
    have := r.length
    cases xs <;> cases ys <;> first | rfl | (simp at this)
  | ref n =>
    obtain ⟨a, rfl, q⟩ := r
    simp only [truth] at h
    cases e : st[n]? with
    | none => rw [e] at h; cases h
    | some o =>
      rw [e] at h
      obtain ⟨w, hw, ro⟩ := sr.at_ n a _ q e
      cases o with
      | ins d zs => cases h
      | lst xs =>
        cases h
        obtain ⟨ys, rfl, r⟩ := ro
        refine .inl ⟨ys, .inl (.inl hw), ?_⟩
        have := r.length
        cases xs <;> cases ys <;> first | rfl | (simp at this)
end
end Pv

set_option Elab.async false
set_option linter.all false
set_option maxRecDepth 100000
set_option maxHeartbeats 1000000
/-! The check: does a text say what the small language says? -/
namespace Pv
open PySem PySem.Spec PyProof.Rows L2

/-! ### forms -/
def notStar : Expr → Bool
  | .Starred _ _ => false
  | _ => true
theorem star_cons {e : Expr} {es : List Expr} {env : Env} (h : notStar e = true) : starEach (e :: es) env = (false, eval e env) :: starEach es env := by
  cases e <;> first | rfl | cases h
theorem star_any {env : Env} {pos : Pos} : ∀ {es : List Expr}, es.all notStar = true → (backTo pos (starEach es env)).any (·.1) = false
  | [], _ => rfl
  | e :: es, h => by
    rw [List.all_cons, Bool.and_eq_true] at h
    rw [star_cons h.1]
    have ih := star_any (env := env) (pos := pos) h.2
    unfold backTo at ih ⊢
    simpa using ih
theorem assign_len {env : Env} : ∀ {es : List Expr}, (assignEach es env).length = es.length
  | [] => rfl
  | e :: es => by
    have ih := @assign_len env es
    cases e <;> simp [assignEach, ih]
theorem assign_cons {e : Expr} {es : List Expr} {env : Env} (h : notStar e = true) : assignEach (e :: es) env = (false, assign e env) :: assignEach es env := by
  cases e <;> first | rfl | cases h
theorem assign_star {env : Env} : ∀ {es : List Expr}, es.all notStar = true → (assignEach es env).findIdx? (·.1) = none
  | [], _ => rfl
  | e :: es, h => by
    rw [List.all_cons, Bool.and_eq_true] at h
    rw [assign_cons h.1, List.findIdx?_cons]
    simp [assign_star h.2]
def plainIx : Expr → Bool
  | .Slice _ _ _ _ => false
  | _ => true
theorem plainIx_ok {b : Expr} (h : plainIx b = true) : PlainIx b := by
  intro o i
  cases b <;> first | rfl | cases h
def plainTrue : Expr → Bool
  | .UnaryOp .Not _ _ => false
  | .BoolOp _ _ _ => false
  | .IfExp _ _ _ _ => false
  | .Compare _ _ _ _ => false
  | _ => true
theorem plainTrue_ok {e : Expr} {env : Env} (h : plainTrue e = true) (whole : Sem Value) : isTrue e env whole = (do let v ← whole; standAt e.pos; holding [v] (truthy v)) := by
  cases e with
  | UnaryOp op a pos => cases op <;> first | rfl | (exact absurd h (by simp [plainTrue]))
  | BoolOp _ _ _ => exact absurd h (by simp [plainTrue])
  | IfExp _ _ _ _ => exact absurd h (by simp [plainTrue])
  | Compare _ _ _ _ => exact absurd h (by simp [plainTrue])
  | _ => rfl
def plainBase : Expr → Bool
  | .Call (.Name id _) [] [] _ => id != "super"
  | _ => true
theorem plainBase_ok {o : Expr} {f : Str} {env : Env} (h : plainBase o = true) (whole : Sem Value) : attributeBase o f env whole = whole := by
  unfold attributeBase
  split
  · rename_i id p pos
    have h : (id != "super") = true := h
    rw [h]
    simp
  · rfl
theorem meth_eq {o : Expr} {m : Str} {apos pos : Pos} {es : List Expr} {env : Env} (h1 : plainBase o = true) (h2 : es.all notStar = true) (h3 : es.length < 30) (h4 : (apos.endLine == pos.line) = true) :
    eval (.Call (.Attribute o m apos) es [] pos) env = (do
      let ov ← eval o env
      standAt apos.atName
      let (f, first) ← holding [ov] (getMethod ov m (do return (← importBound o env).getD true))
      callWith pos f first (backTo pos (starEach es env)) (backToKw pos (keywordEach [] env))) := by
  have hf : methodCallForm (es.length + 0) (backTo pos (starEach es env)) (backToKw pos (keywordEach [] env)) = true := by
    unfold methodCallForm
    have := star_any (env := env) (pos := pos) h2
    have e1 : (backTo pos (starEach es env)).all (!·.1) = true := by
      rw [List.all_eq_true]
      intro x hx
      rw [List.any_eq_false] at this
      have := this x hx
      simpa using this
    rw [e1]
    have e2 : (backToKw pos (keywordEach [] env)) = [] := rfl
    rw [e2]
    simp [h3]
  show (do
    let ov ← attributeBase o m env (eval o env)
    standAt apos.atName
    methodCall o m apos pos env ov (es.length + 0) (backTo pos (starEach es env)) (backToKw pos (keywordEach [] env))) = _
  rw [plainBase_ok h1]
  unfold methodCall
  rw [hf]
  unfold calleeOf methodCallPos
  simp [h4]
def notComp : Expr → Bool
  | .ListComp _ _ _ _ => false
  | .SetComp _ _ _ _ => false
  | .DictComp _ _ _ _ _ => false
  | _ => true
theorem notComp_ok {e : Expr} {t : Option Expr} {l : Nat} {env : Env} (h : notComp e = true) : swapsWith e t l env = pure false := by
  cases e <;> first | rfl | cases h
def notSet : Expr → Bool
  | .Set _ _ _ => false
  | _ => true
theorem notSet_ok {e : Expr} {env : Env} (h : notSet e = true) (x : Value) : foldedSetIterable e env x = pure x := by
  cases e <;> first | rfl | cases h

/-! ### the check -/
structure Tab where
  fns : List (Str × Nat)
  css : List (Str × Nat)
  gls : List (Str × Nat)
  bls : List Str
  gcd : Bool
def visB (sc : Scope) (x : Str) : Bool := match sc.names.lookup x with
  | some .local => true | some .cell => true | some .free => true | _ => false
def locB (sc : Scope) (top : Bool) (x : Str) : Bool := match sc.names.lookup x with
  | some .local => true | some .cell => top | _ => false
def glB (sc : Scope) (x : Str) : Bool := decide (sc.names.lookup x = some .globalImplicit)
def plainN (x : Str) : Bool := !(x == ("__debug__" : Str)) && !(x == ("__classdict__" : Str)) && !(x == ("__name__" : Str))
theorem visB_ok {sc : Scope} {x : Str} (h : visB sc x = true) : Vis sc x := by
  unfold visB at h
  unfold Vis
  split at h <;> first | (exact .inl (by assumption)) | (exact .inr (.inl (by assumption))) | (exact .inr (.inr (by assumption))) | cases h
def opB : BOp → Operator → Bool
  | .add, .Add => true | .sub, .Sub => true | .mul, .Mult => true | .fdiv, .FloorDiv => true | .mod, .Mod => true | .pow, .Pow => true
  | _, _ => false
theorem opB_ok {o : BOp} {p : Operator} (h : opB o p = true) : p = o.op := by
  cases o <;> cases p <;> first | rfl | cases h
def copB (o : COp) (p : CmpOp) : Bool := decide (p = o.op)
def biN : Bi → Str
  | .len => "len" | .tuple => "tuple" | .list _ => "list" | .abs => "abs" | .int => "int" | .gcd => "gcd"
  | .all => "all" | .any => "any" | .sum => "sum" | .min2 => "min" | .max2 => "max" | .str => "str"
  | .isi _ => "isinstance" | .isiT _ => "isinstance"
/-- a class by its name -/
def csB (T : Tab) (sc : Scope) (c : Cs) (e : Expr) : Bool := match c, e with
  | .ty n, .Name x _ => glB sc x && plainN x && T.bls.contains x && decide (bootBuiltins x = some (.type n))
  | .cl c, .Name x _ => glB sc x && plainN x && decide (T.css.lookup x = some c)
  | _, _ => false
def csBs (T : Tab) (sc : Scope) : List Cs → List Expr → Bool
  | [], [] => true
  | c :: cs, e :: es => csB T sc c e && csBs T sc cs es && notStar e
  | _, _ => false
mutual
def tgB (sc : Scope) (top : Bool) (N : List Str) : Tg → Expr → Bool
  | .n i, .Name x _ => decide (N[i]? = some x) && locB sc top x
  | .t ts, .Tuple es _ _ => tgBs sc top N ts es && es.all notStar
  | _, _ => false
def tgBs (sc : Scope) (top : Bool) (N : List Str) : List Tg → List Expr → Bool
  | [], [] => true
  | t :: ts, e :: es => tgB sc top N t e && tgBs sc top N ts es
  | _, _ => false
end
/-- the own names of a comprehension's block with their places -/
def ownN (N : List Str) (is : List Nat) : List (Str × Nat) := is.filterMap fun i => (N[i]?).map fun x => (x, i)
/-- so many arguments may be given -/
def arB (PR : Prog) (f n : Nat) : Bool := match PR.df[f]? with
  | some d => decide (n ≤ d.np ∧ d.np - n ≤ d.dv.length)
  | none => false
def chkLs (r : Ex → Expr → Bool) : List Ex → List Expr → Bool
  | [], [] => true
  | c :: cs, e :: es => r c e && notStar e && chkLs r cs es
  | _, _ => false
def chkOp (r : Ex → Expr → Bool) : Ex → Option Expr → Bool
  | .nil, none => true
  | _, none => false
  | c, some e => r c e
def chkIt (T : Tab) (sc : Scope) (r : Ex → Expr → Bool) (k : Ik) (cs : List Ex) (e : Expr) : Bool := match k with
  | .seq => chkLs r cs [e]
  | .rng1 => match e with
    | .Call (.Name x _) [a] [] _ => decide (x = "range") && glB sc x && T.bls.contains x && chkLs r cs [a]
    | _ => false
  | .rng2 => match e with
    | .Call (.Name x _) [a, b] [] _ => decide (x = "range") && glB sc x && T.bls.contains x && chkLs r cs [a, b]
    | _ => false
  | _ => false
def chkStep (T : Tab) (PR : Prog) (N : List Str) (rc : Scope → Bool → Ex → Expr → Bool) (sc : Scope) (top : Bool) (c : Ex) (e : Expr) : Bool := match c with
  | .v i => match e with
    | .Name x _ => decide (N[i]? = some x) && visB sc x && plainN x
    | _ => false
  | .c v => match e with
    | .Constant k _ _ => match v, k with
      | .non, .none => true
      | .bl b, .bool d => b == d
      | .int i, .int j => decide (i = j)
      | .str x, .str y => decide (x = y)
      | _, _ => false
    | _ => false
  | .g i => match e with
    | .Name x _ => decide (T.gls.lookup x = some i) && glB sc x && plainN x
    | _ => false
  | .bin o a b => match e with
    | .BinOp x p y _ => opB o p && rc sc top a x && rc sc top b y
    | _ => false
  | .cat _ a b => match e with
    | .BinOp x .Add y _ => rc sc top a x && rc sc top b y
    | _ => false
  | .neg a => match e with
    | .UnaryOp .USub x _ => rc sc top a x
    | _ => false
  | .not a => match e with
    | .UnaryOp .Not x _ => rc sc top a x
    | _ => false
  | .cmp o a b => match e with
    | .Compare x [p] [y] _ => copB o p && !behindInMarks p y && rc sc top a x && rc sc top b y
    | _ => false
  | .chain o q a b c => match e with
    | .Compare x [p, p'] [y, z] _ => copB o p && copB q p' && !lastMarks [p, p'] [y, z] && rc sc top a x && rc sc top b y && rc sc top c z
    | _ => false
  | .and a b => match e with
    | .BoolOp .And [x, y] _ => rc sc top a x && rc sc top b y
    | .BoolOp .And (x :: y :: z :: r) pos => rc sc top a x && rc sc top b (.BoolOp .And (y :: z :: r) pos)
    | _ => false
  | .or a b => match e with
    | .BoolOp .Or [x, y] _ => rc sc top a x && rc sc top b y
    | .BoolOp .Or (x :: y :: z :: r) pos => rc sc top a x && rc sc top b (.BoolOp .Or (y :: z :: r) pos)
    | _ => false
  | .ite c a b => match e with
    | .IfExp t x y _ => rc sc top c t && rc sc top a x && rc sc top b y
    | _ => false
  | .tup cs => match e with
    | .Tuple es _ _ => chkLs (rc sc top) cs es
    | _ => false
  | .lst _ cs => match e with
    | .List es _ => chkLs (rc sc top) cs es
    | _ => false
  | .idx a i => match e with
    | .Subscript x y _ => plainIx y && rc sc top a x && rc sc top i y
    | _ => false
  | .slc a lo hi => match e with
    | .Subscript x (.Slice l h none _) _ => rc sc top a x && chkOp (rc sc top) lo l && chkOp (rc sc top) hi h
    | _ => false
  | .nil => false
  | .attr a f => match e with
    | .Attribute x g _ => decide (f = g) && plainBase x && rc sc top a x
    | _ => false
  | .call f cs => match e with
    | .Call (.Name x _) es [] _ => decide (T.fns.lookup x = some f) && arB PR f cs.length && glB sc x && plainN x && chkLs (rc sc top) cs es && es.all notStar
    | _ => false
  | .new c _ cs => match e with
    | .Call (.Name x _) es [] _ => decide (T.css.lookup x = some c) && (match PR.kl[c]? with
        | some ⟨some f, _, _⟩ => arB PR f (cs.length + 1)
        | _ => false) && glB sc x && plainN x && chkLs (rc sc top) cs es && es.all notStar
    | _ => false
  | .meth a m cs => match e with
    | .Call (.Attribute x g apos) es [] pos => decide (m = g) && plainBase x && (apos.endLine == pos.line) && decide (es.length < 30) && rc sc top a x && chkLs (rc sc top) cs es && es.all notStar
    | _ => false
  | .bi b cs => match e with
    | .Call (.Name x _) es [] _ => decide (x = biN b) && glB sc x && plainN x && (match b with
        | .gcd => T.gcd && chkLs (rc sc top) cs es && es.all notStar && !es.isEmpty
        | .isi c => T.bls.contains x && (match es with
          | [y, t] => chkLs (rc sc top) cs [y] && notStar y && csB T sc c t && notStar t
          | _ => false)
        | .isiT c => decide (c.length ≤ 100) && T.bls.contains x && (match es with
          | [y, .Tuple ts _ _] => chkLs (rc sc top) cs [y] && notStar y && csBs T sc c ts
          | _ => false)
        | _ => T.bls.contains x && chkLs (rc sc top) cs es && es.all notStar && !es.isEmpty)
    | _ => false
  | .comp _ ce tg k its ts => match e with
    | .ListComp elt [⟨t, iter, ifs, 0⟩] scope _ => chkIt T sc (rc sc top) k its iter && blkC N sc scope (ownN N (slots tg)) && decide ((ownN N (slots tg)).map (·.2) = slots tg) && tgB (relS scope sc) false N tg t
        && rc (relS scope sc) false ce elt && (match ts, ifs with
          | [], [] => true
          | [c], [i] => rc (relS scope sc) false c i
          | _, _ => false) && notSet iter
    | _ => false
def chkR (T : Tab) (PR : Prog) (N : List Str) : Nat → Scope → Bool → Ex → Expr → Bool
  | 0 => fun _ _ _ _ => false
  | n + 1 => chkStep T PR N (chkR T PR N n)
abbrev chkE (T : Tab) (PR : Prog) (sc : Scope) (top : Bool) (N : List Str) (n : Nat) (c : Ex) (e : Expr) : Bool := chkR T PR N n sc top c e
abbrev chkL (T : Tab) (PR : Prog) (sc : Scope) (top : Bool) (N : List Str) (n : Nat) (cs : List Ex) (es : List Expr) : Bool := chkLs (chkR T PR N n sc top) cs es
abbrev chkO (T : Tab) (PR : Prog) (sc : Scope) (top : Bool) (N : List Str) (n : Nat) (c : Ex) (o : Option Expr) : Bool := chkOp (chkR T PR N n sc top) c o
abbrev chkI (T : Tab) (PR : Prog) (sc : Scope) (top : Bool) (N : List Str) (n : Nat) (k : Ik) (cs : List Ex) (e : Expr) : Bool := chkIt T sc (chkR T PR N n sc top) k cs e
section
variable {T : Tab} {PR : Prog} {sc : Scope} {top : Bool} {N : List Str} {n : Nat} {e : Expr}
theorem chkE_v (i : Nat) : chkE T PR sc top N (n + 1) (.v i) e = (match e with
  | .Name x _ => decide (N[i]? = some x) && visB sc x && plainN x
  | _ => false) := rfl
theorem chkE_c (v : PV) : chkE T PR sc top N (n + 1) (.c v) e = (match e with
  | .Constant k _ _ => match v, k with
    | .non, .none => true
    | .bl b, .bool d => b == d
    | .int i, .int j => decide (i = j)
    | .str x, .str y => decide (x = y)
    | _, _ => false
  | _ => false) := rfl
theorem chkE_g (i : Nat) : chkE T PR sc top N (n + 1) (.g i) e = (match e with
  | .Name x _ => decide (T.gls.lookup x = some i) && glB sc x && plainN x
  | _ => false) := rfl
theorem chkE_bin (o : BOp) (a b : Ex) : chkE T PR sc top N (n + 1) (.bin o a b) e = (match e with
  | .BinOp x p y _ => opB o p && chkE T PR sc top N n a x && chkE T PR sc top N n b y
  | _ => false) := rfl
theorem chkE_cat (mu : Bool) (a b : Ex) : chkE T PR sc top N (n + 1) (.cat mu a b) e = (match e with
  | .BinOp x .Add y _ => chkE T PR sc top N n a x && chkE T PR sc top N n b y
  | _ => false) := rfl
theorem chkE_neg (a : Ex) : chkE T PR sc top N (n + 1) (.neg a) e = (match e with
  | .UnaryOp .USub x _ => chkE T PR sc top N n a x
  | _ => false) := rfl
theorem chkE_not (a : Ex) : chkE T PR sc top N (n + 1) (.not a) e = (match e with
  | .UnaryOp .Not x _ => chkE T PR sc top N n a x
  | _ => false) := rfl
theorem chkE_cmp (o : COp) (a b : Ex) : chkE T PR sc top N (n + 1) (.cmp o a b) e = (match e with
  | .Compare x [p] [y] _ => copB o p && !behindInMarks p y && chkE T PR sc top N n a x && chkE T PR sc top N n b y
  | _ => false) := rfl
theorem chkE_chain (o q : COp) (a b c : Ex) : chkE T PR sc top N (n + 1) (.chain o q a b c) e = (match e with
  | .Compare x [p, p'] [y, z] _ => copB o p && copB q p' && !lastMarks [p, p'] [y, z] && chkE T PR sc top N n a x && chkE T PR sc top N n b y && chkE T PR sc top N n c z
  | _ => false) := rfl
theorem chkE_and (a b : Ex) : chkE T PR sc top N (n + 1) (.and a b) e = (match e with
  | .BoolOp .And [x, y] _ => chkE T PR sc top N n a x && chkE T PR sc top N n b y
  | .BoolOp .And (x :: y :: z :: r) pos => chkE T PR sc top N n a x && chkE T PR sc top N n b (.BoolOp .And (y :: z :: r) pos)
  | _ => false) := rfl
theorem chkE_or (a b : Ex) : chkE T PR sc top N (n + 1) (.or a b) e = (match e with
  | .BoolOp .Or [x, y] _ => chkE T PR sc top N n a x && chkE T PR sc top N n b y
  | .BoolOp .Or (x :: y :: z :: r) pos => chkE T PR sc top N n a x && chkE T PR sc top N n b (.BoolOp .Or (y :: z :: r) pos)
  | _ => false) := rfl
theorem chkE_ite (c a b : Ex) : chkE T PR sc top N (n + 1) (.ite c a b) e = (match e with
  | .IfExp t x y _ => chkE T PR sc top N n c t && chkE T PR sc top N n a x && chkE T PR sc top N n b y
  | _ => false) := rfl
theorem chkE_tup (cs : List Ex) : chkE T PR sc top N (n + 1) (.tup cs) e = (match e with
  | .Tuple es _ _ => chkL T PR sc top N n cs es
  | _ => false) := rfl
theorem chkE_lst (mu : Bool) (cs : List Ex) : chkE T PR sc top N (n + 1) (.lst mu cs) e = (match e with
  | .List es _ => chkL T PR sc top N n cs es
  | _ => false) := rfl
theorem chkE_idx (a i : Ex) : chkE T PR sc top N (n + 1) (.idx a i) e = (match e with
  | .Subscript x y _ => plainIx y && chkE T PR sc top N n a x && chkE T PR sc top N n i y
  | _ => false) := rfl
theorem chkE_slc (a lo hi : Ex) : chkE T PR sc top N (n + 1) (.slc a lo hi) e = (match e with
  | .Subscript x (.Slice l h none _) _ => chkE T PR sc top N n a x && chkO T PR sc top N n lo l && chkO T PR sc top N n hi h
  | _ => false) := rfl
theorem chkE_nil  : chkE T PR sc top N (n + 1) (.nil) e = (false) := rfl
theorem chkE_attr (a : Ex) (f : Str) : chkE T PR sc top N (n + 1) (.attr a f) e = (match e with
  | .Attribute x g _ => decide (f = g) && plainBase x && chkE T PR sc top N n a x
  | _ => false) := rfl
theorem chkE_call (f : Nat) (cs : List Ex) : chkE T PR sc top N (n + 1) (.call f cs) e = (match e with
  | .Call (.Name x _) es [] _ => decide (T.fns.lookup x = some f) && arB PR f cs.length && glB sc x && plainN x && chkL T PR sc top N n cs es && es.all notStar
  | _ => false) := rfl
theorem chkE_new (c : Nat) (mu : Bool) (cs : List Ex) : chkE T PR sc top N (n + 1) (.new c mu cs) e = (match e with
  | .Call (.Name x _) es [] _ => decide (T.css.lookup x = some c) && (match PR.kl[c]? with
      | some ⟨some f, _, _⟩ => arB PR f (cs.length + 1)
      | _ => false) && glB sc x && plainN x && chkL T PR sc top N n cs es && es.all notStar
  | _ => false) := rfl
theorem chkE_meth (a : Ex) (m : Str) (cs : List Ex) : chkE T PR sc top N (n + 1) (.meth a m cs) e = (match e with
  | .Call (.Attribute x g apos) es [] pos => decide (m = g) && plainBase x && (apos.endLine == pos.line) && decide (es.length < 30) && chkE T PR sc top N n a x && chkL T PR sc top N n cs es && es.all notStar
  | _ => false) := rfl
theorem chkE_bi (b : Bi) (cs : List Ex) : chkE T PR sc top N (n + 1) (.bi b cs) e = (match e with
  | .Call (.Name x _) es [] _ => decide (x = biN b) && glB sc x && plainN x && (match b with
      | .gcd => T.gcd && chkL T PR sc top N n cs es && es.all notStar && !es.isEmpty
      | .isi c => T.bls.contains x && (match es with
        | [y, t] => chkL T PR sc top N n cs [y] && notStar y && csB T sc c t && notStar t
        | _ => false)
      | .isiT c => decide (c.length ≤ 100) && T.bls.contains x && (match es with
        | [y, .Tuple ts _ _] => chkL T PR sc top N n cs [y] && notStar y && csBs T sc c ts
        | _ => false)
      | _ => T.bls.contains x && chkL T PR sc top N n cs es && es.all notStar && !es.isEmpty)
  | _ => false) := rfl
theorem chkE_comp (mu : Bool) (ce : Ex) (tg : Tg) (k : Ik) (its ts : List Ex) : chkE T PR sc top N (n + 1) (.comp mu ce tg k its ts) e = (match e with
  | .ListComp elt [⟨t, iter, ifs, 0⟩] scope _ => chkI T PR sc top N n k its iter && blkC N sc scope (ownN N (slots tg)) && decide ((ownN N (slots tg)).map (·.2) = slots tg) && tgB (relS scope sc) false N tg t
      && chkE T PR (relS scope sc) false N n ce elt && (match ts, ifs with
        | [], [] => true
        | [c], [i] => chkE T PR (relS scope sc) false N n c i
        | _, _ => false) && notSet iter
  | _ => false) := rfl
end
end Pv

set_option Elab.async false
set_option linter.all false
set_option maxRecDepth 100000
set_option maxHeartbeats 1000000
/-! Expressions: what is checked is so. -/
namespace Pv
open PySem PySem.Spec PyProof.Rows L2
/-- the text as it stands behind the top -/
structure Wf (T : Tab) (PR : Prog) (cl fa : Nat → Addr) (fd : Nat → FuncData) (ps : Nat → List Str) (K : W.Frag) (mg : Str → Option Value) : Prop where
  co : ClsOk K cl PR
  fn : ∀ x i, T.fns.lookup x = some i → mg x = some (.ref (fa i)) ∧ W.keepIn K (.ref (fa i)) = true
  cs : ∀ x c, T.css.lookup x = some c → mg x = some (.ref (cl c))
  mkc : ∀ c k f, PR.kl[c]? = some k → k.init = some f → Mk K (cl c) (fa f)
  ms : ∀ c k m f, PR.kl[c]? = some k → k.ms.lookup m = some f → Meth K (cl c) m (fa f)
  na : ∀ c k f, PR.kl[c]? = some k → f ∈ k.ats → NoAttr K (cl c) f
  gl : ∀ x i v, T.gls.lookup x = some i → PR.gl[i]? = some v → ∃ u w, mg x = some u ∧ RelV w u ∧ ∀ H m, Rp K cl H m v w
  bl : ∀ x, T.bls.contains x = true → mg x = none
  gc : T.gcd = true → mg "gcd" = some (.builtin "math.gcd")
  pl : ∀ f d, PR.df[f]? = some d → (ps f).length = d.np
  bd : ∀ f d n, PR.df[f]? = some d → n ≤ d.np → d.np - n ≤ d.dv.length → ∃ ds dvs, Binds K (fd f) (ps f) ds ∧ Vals dvs ds ∧ ∀ H m, RpL K cl H m (d.dv.drop (d.dv.length - (d.np - n))) dvs
/-- what a def promises -/
def spF (K : W.Frag) (cl : Nat → Addr) (r : Ev) (n f : Nat) : Sp := fun vs H Q _ => ∃ m st as, SR K cl H m st ∧ RpL K cl H m as vs ∧ as.length = n ∧ Fin K cl m H (r.call f as st) Q
section
variable (CX : CXT) (T : Tab) (PR : Prog) (cl fa : Nat → Addr) (fd : Nat → FuncData) (ps : Nat → List Str)
structure Good (j : Nat) (sc : Scope) (top : Bool) (N : List Str) (X : Cx) : Prop where
  wf : Wf T PR cl fa fd ps X.K X.mg
  fo : ∀ i, i < j → ∀ f d, PR.df[f]? = some d → FnOk X.prog X.w X.K X.mg X.base CX i (fa f) (fd f) (ps f) (spF X.K cl (ev PR i) d.np f)
  hN : X.N = N
  nd : N.Nodup
  kd : sc.kind = .function
  sc : X.env.scope = sc
  calm : X.calm = true
  room : Room j X.A
  pass : ∀ outer H s e s', CX outer H s E0 e s' → False
  never : X.xe = fun _ _ => False
  fn : top = true → X.fn = fun _ => true
end
section
variable {CX : CXT} {T : Tab} {PR : Prog} {cl fa : Nat → Addr} {fd : Nat → FuncData} {ps : Nat → List Str}
theorem Good.down {j i : Nat} {sc : Scope} {top : Bool} {N : List Str} {X : Cx} (g : Good CX T PR cl fa fd ps j sc top N X) (h : i ≤ j) : Good CX T PR cl fa fd ps i sc top N X :=
  ⟨g.wf, fun k hk => g.fo k (by omega), g.hN, g.nd, g.kd, g.sc, g.calm, g.room.mono h, g.pass, g.never, g.fn⟩
theorem Good.passes {j : Nat} {sc : Scope} {top : Bool} {N : List Str} {X : Cx} (g : Good CX T PR cl fa fd ps j sc top N X) : Passes CX X E0 := fun _ _ _ _ _ _ _ h => (g.pass _ _ _ _ _ h).elim
theorem Good.units {j : Nat} {sc : Scope} {top : Bool} {N : List Str} {X : Cx} (g : Good CX T PR cl fa fd ps j sc top N X) : X.A.units + 65 < cLine := by have := g.room.un; omega
theorem peImp {X : Cx} {e : Expr} {t t' : TE} (h : PE X e t) (k : ∀ σ H Q, t' σ H Q → t σ H Q) : PE X e t' := ⟨fun pins s σ H Q I q => h.run pins s σ H Q I (k σ H Q q)⟩
theorem ptImp {X : Cx} {e : Expr} {t t' : TT} (h : PT X e t) (k : ∀ σ H Q, t' σ H Q → t σ H Q) : PT X e t' := ⟨fun pins s σ H Q I q => h.run pins s σ H Q I (k σ H Q q)⟩
theorem pwImp {X : Cx} {e : Expr} {t t' : TT} (h : PW X e t) (k : ∀ σ H Q, t' σ H Q → t σ H Q) : PW X e t' := ⟨fun wh pins s σ H Q I q => h.run wh pins s σ H Q I (k σ H Q q)⟩
theorem peF {X : Cx} {e : Expr} {t : TE} (k : ∀ σ H Q, ¬ t σ H Q) : PE X e t := ⟨fun pins s σ H Q I q => (k σ H Q q).elim⟩
def isBo : Expr → Bool
  | .BoolOp _ _ _ => true
  | _ => false
variable (CX T PR cl fa fd ps)
def SEn (j : Nat) : Prop := ∀ sc top N n c e X, Good CX T PR cl fa fd ps j sc top N X → chkE T PR sc top N n c e = true → PE X e (rdE X.K cl (ev PR j) c)
def STn (j : Nat) : Prop := ∀ sc top N n c e X, Good CX T PR cl fa fd ps j sc top N X → chkE T PR sc top N n c e = true → PT X e (rdT X.K cl (ev PR j) c) ∧ (isBo e = true → PW X e (rdT X.K cl (ev PR j) c))
variable {CX T PR cl fa fd ps}
section
variable {m m' : List Addr} {H H' : Hp} {σ : L2.St} {env : En} {st st' : Store} {r : Ev} {K : W.Frag}
theorem evL_len : ∀ {cs : List Ex} {env : En} {st : Store} {vs : List PV} {st' : Store}, evL r cs env st = .ok vs st' → vs.length = cs.length
  | [], _, _, _, _, h => by cases h; rfl
  | c :: cs, env, st, vs, st', h => by
    unfold evL at h
    cases e : r.E c env st with
    | ok v s1 =>
      rw [e] at h
      simp only [Res.bind] at h
      cases e2 : evL r cs env s1 with
      | ok ws s2 =>
        rw [e2] at h
        cases h
        simp [evL_len e2]
      | exc x s => rw [e2] at h; cases h
      | bad => rw [e2] at h; cases h
    | exc x s => rw [e] at h; cases h
    | bad => rw [e] at h; cases h
/-- .. with the number of the values -/
theorem rdL_bind' {β : Type} {F : List Addr → Hp → Res β → Prop} {c : List Ex} {f : List PV → Store → Res β} {R : List V → Hp → Prop} (C : Cn F) (sr : SR K cl H m st) (er : ER K cl H m env σ) (h : F m H ((evL r c env st).bind f))
    (k : ∀ v st' u H' m', v.length = c.length → Ext m H m' H' → SR K cl H' m' st' → ER K cl H' m' env σ → RpL K cl H' m' v u → F m' H' (f v st') → R u H') : rdL K cl r c σ H R := by
  refine ⟨m, env, st, sr, er, ?_⟩
  cases e : evL r c env st with
  | ok v st' =>
    rw [e] at h
    show FinL K cl m H (evL r c env st) R
    rw [e]
    exact fun u H' m' x s rp => k v st' u H' m' (evL_len e) x s (er.mono x) rp (C.mono x h)
  | exc x s =>
    rw [e] at h
    exact absurd h C.nx
  | bad =>
    rw [e] at h
    exact absurd h C.nb
end
/-- lists of expressions -/
theorem sl_of {j : Nat} (hE : SEn CX T PR cl fa fd ps j) {n : Nat} {X : Cx} {sc : Scope} {top : Bool} {N : List Str} (g : Good CX T PR cl fa fd ps j sc top N X) : ∀ {cs : List Ex} {es : List Expr}, chkL T PR sc top N n cs es = true →
    PA X es (rdL X.K cl (ev PR j) cs)
  | [], [], h => by
    refine ⟨fun pos pins s σ H Q I q => ?_⟩
    obtain ⟨m, env, st, sr, er, f⟩ := q
    exact pa_nil.run pos pins s σ H Q I (f [] H m (Ext.refl _ _) sr rfl)
  | c :: cs, e :: es, h => by
    simp only [chkL, chkLs, Bool.and_eq_true] at h
    obtain ⟨⟨h1, h2⟩, h3⟩ := h
    have p1 := hE sc top N n c e X g h1
    have p2 := sl_of hE g h3
    refine ⟨fun pos pins s σ H Q I q => (pa_cons p1 p2 (star_cons h2)).run pos pins s σ H Q I ?_⟩
    obtain ⟨m, env, st, sr, er, f⟩ := q
    refine rdE_bind (cnL Q) sr er f fun v1 st1 u1 H1 m1 x1 sr1 er1 r1 f1 => ?_
    exact rdL_bind (cnL Q) sr1 er1 f1 fun v2 st2 u2 H2 m2 x2 sr2 er2 r2 f2 => f2 _ H2 m2 (Ext.refl _ _) sr2 ⟨u1, u2, rfl, r1.mono x2, r2⟩
  | [], _ :: _, h => by cases h
  | _ :: _, [], h => by cases h
theorem chkL_len {n : Nat} {sc : Scope} {top : Bool} {N : List Str} : ∀ {cs : List Ex} {es : List Expr}, chkL T PR sc top N n cs es = true → cs.length = es.length
  | [], [], h => rfl
  | c :: cs, e :: es, h => by
    simp only [chkL, chkLs, Bool.and_eq_true] at h
    simp [chkL_len h.2]
  | [], _ :: _, h => by cases h
  | _ :: _, [], h => by cases h
end
end Pv

set_option Elab.async false
set_option linter.all false
set_option maxRecDepth 100000
set_option maxHeartbeats 1000000
/-! Expressions, one step. -/
namespace Pv
open PySem PySem.Spec PyProof.Rows L2
section
variable {CX : CXT} {T : Tab} {PR : Prog} {cl fa : Nat → Addr} {fd : Nat → FuncData} {ps : Nat → List Str}
theorem evalArgs_any {M : Model} {A : Around} {E : Value → Shared → Prop} {s : Shared} {f : Value} {args : List (Bool × Sem Value)} {Q : Args → Shared → Prop} (hs : args.any (·.1) = false)
    (h : wpAny M A (spliced args) (fun vs s' => Q ⟨vs, []⟩ s') E s) : wpAny M A (evalArgs f true args []) Q E s := by
  unfold evalArgs
  cases args with
  | nil =>
    show wpAny M A (spliced [] >>= _) Q E s
    refine wpAny_bind (wpAny_mono h (fun vs s' h' => ?_) fun _ _ x => x)
    refine wpAny_holding ?_
    exact wpAny_bind (wpAny_pure (wpAny_bind (wpAny_pure (wpAny_pure h'))))
  | cons a r =>
    obtain ⟨b, x⟩ := a
    cases b with
    | true => simp at hs
    | false =>
      show wpAny M A (spliced ((false, x) :: r) >>= _) Q E s
      refine wpAny_bind (wpAny_mono h (fun vs s' h' => ?_) fun _ _ x => x)
      refine wpAny_holding ?_
      exact wpAny_bind (wpAny_pure (wpAny_bind (wpAny_pure (wpAny_pure h'))))
theorem callWith_KA {M : Model} {A : Around} {E : Value → Shared → Prop} {s : Shared} {K : W.Frag} {f : Value} {first : List Value} {Q : Value → Shared → Prop} {es : List Expr} {env : Env} {pos : Pos} (hk : W.keepIn K f = true) (hs : es.all notStar = true)
    (h : wpAny M A (spliced (backTo pos (starEach es env))) (fun vs s₁ => K.In s₁.heap ∧ wpAny M A (call f (first ++ vs)) Q E s₁) E s) : wpAny M A (callWith pos f first (backTo pos (starEach es env)) []) Q E s :=
  W.callWith_of (by rw [star_any hs]; rfl) (W.keeps_K hk) (evalArgs_any (star_any hs) h)
/-- o.m(..): the class is known when it runs -/
def tMethD (X : Cx) (CX : CXT) (m : Str) (ta : TE) (t : TA) : TE := fun σ H Q => ta σ H fun x H1 => ∃ a C f k fd ps sp ds dvs dx fs, x = .ref a ∧ H1 a = some (.ins C dx fs) ∧ Cls X.K C ∧ Meth X.K C m f ∧
  FnOk X.prog X.w X.K X.mg X.base CX k f fd ps sp ∧ Room k X.A ∧ Binds X.K fd ps ds ∧ Vals dvs ds ∧ fs.lookup m = none ∧ t σ H1 fun vs H2 => sp (x :: (vs ++ dvs)) H2 Q E0
theorem pe_methD {X : Cx} {o : Expr} {m : Str} {apos pos : Pos} {ta : TE} {t : TA} {es : List Expr} (he : PE X o ta) (hx : Passes CX X E0) (ha : PA X es t) (h1 : plainBase o = true) (h2 : es.all notStar = true) (h3 : es.length < 30) (h4 : (apos.endLine == pos.line) = true) :
    PE X (.Call (.Attribute o m apos) es [] pos) (tMethD X CX m ta t) := by
  refine ⟨fun pins s σ H Q I h => ?_⟩
  refine PySem.W.methodCall_KW (pl := (do return (← importBound o X.env).getD true)) (thn (he.run pins s σ H _ I h) fun u s1 ⟨x, H1, I1, rx, q⟩ => ?_) (meth_eq h1 h2 h3 h4)
  obtain ⟨a, C, f, k, fd, ps, sp, ds, dvs, dx, fs, ex, ea, c, hm, F, hr, hb, hd, l, q⟩ := q
  subst ex
  obtain rfl : u = Value.ref a := rx
  refine getmeth_ok I1 ea c hm l ?_
  refine callWith_KA hm.kp h2 (thn (ha.run pos pins s1 σ H1 _ I1 q) fun us s2 ⟨vs, H2, I2, r, q2⟩ => ⟨I2.kIn, ?_⟩)
  exact run_fn (us := .ref a :: us) (vs := .ref a :: vs) F hr hb hd hx I2 (.cons rfl r) q2

theorem pe_callA {X : Cx} {k : Nat} {f : Addr} {fd : FuncData} {ps : List Str} {sp : Sp} {ds : List Value} {dvs : List V} {E : XK} {x : Str} {p pos : Pos} {es : List Expr} {t : TA} (F : FnOk X.prog X.w X.K X.mg X.base CX k f fd ps sp) (hr : Room k X.A) (hg : Gl X x) (hm : X.mg x = some (.ref f))
    (hk : W.keepIn X.K (.ref f) = true) (hb : Binds X.K fd ps ds) (hd : Vals dvs ds) (hx : Passes CX X E) (ha : PA X es t) (hs : es.all notStar = true) (hdb : (x == ("__debug__" : Str)) = false) : PE X (.Call (.Name x p) es [] pos) (tCall sp dvs E t) := by
  refine ⟨fun pins s σ H Q I h => ?_⟩
  refine wpAny_Call_Name_kw (ld_glob I hg hm ?_ hdb)
  exact callWith_KA hk hs (thn (ha.run pos pins s σ H _ I h) fun us s1 ⟨vs, H1, I1, r, q⟩ => ⟨I1.kIn, run_fn F hr hb hd hx I1 r q⟩)
theorem pe_makeA {X : Cx} {k : Nat} {f C : Addr} {fd : FuncData} {ps : List Str} {sp : Sp} {ds : List Value} {dvs : List V} {E : XK} {x : Str} {p pos : Pos} {es : List Expr} {t : TA} (M : Mk X.K C f) (F : FnOk X.prog X.w X.K X.mg X.base CX k f fd ps sp) (hr : Room (k + 1) X.A) (hg : Gl X x) (hm : X.mg x = some (.ref C))
    (hb : Binds X.K fd ps ds) (hd : Vals dvs ds) (hx : Passes CX X E) (ha : PA X es t) (hs : es.all notStar = true) (hdb : (x == ("__debug__" : Str)) = false) : PE X (.Call (.Name x p) es [] pos) (tMake C sp dvs E t) := by
  refine ⟨fun pins s σ H Q I h => ?_⟩
  refine wpAny_Call_Name_kw (ld_glob I hg hm ?_ hdb)
  exact callWith_KA M.kp hs (thn (ha.run pos pins s σ H _ I h) fun us s1 ⟨vs, H1, I1, r, q⟩ => ⟨I1.kIn, run_make M F hr hb hd hx I1 r q⟩)
theorem plainN_ok {x : Str} (h : plainN x = true) : (x == ("__debug__" : Str)) = false ∧ (x == ("__classdict__" : Str)) = false ∧ x ≠ "__name__" := by
  unfold plainN at h
  simp only [Bool.and_eq_true, Bool.not_eq_true'] at h
  exact ⟨h.1.1, h.1.2, fun e => by rw [e] at h; have := h.2; simp at this⟩
theorem glB_ok {sc : Scope} {x : Str} {X : Cx} (h : glB sc x = true) (e : X.env.scope = sc) : Gl X x := by
  have := of_decide_eq_true h
  subst e
  exact this
/-- the built-in functions' names -/
theorem boot_bi (b : Bi) (h : isIsi b = false) (hg : isGcd b = false) : bootBuiltins (biN b) = some b.id := by
  cases b with
  | list mu => exact (by decide +kernel : bootBuiltins ("list" : Str) = some (.type "list"))
  | gcd => cases hg
  | isi _ => cases h
  | isiT _ => cases h
  | _ => decide +kernel
section
variable {X : Cx} {x : Str} {p pos : Pos} {es : List Expr} {t : TA} {r : List V → Hp → VK → Prop}
/-- f(..), f a built-in function or type that stands as v -/
theorem pe_callV {v : Value} (hv : (∃ id, v = .builtin id) ∨ ∃ T, v = .type T) (hc : CallR X v r) (hl : ∀ {pins s σ H} {Q : Value → Shared → Prop}, Inv X pins σ H s → Q v s → wpAny (model X.prog X.w) X.A (eval (.Name x p) X.env) Q X.xe s)
    (ha : PA X es t) (hs : es.all notStar = true) (hn : es ≠ []) : PE X (.Call (.Name x p) es [] pos) (tCB r t) := by
  refine ⟨fun pins s σ H Q I h => ?_⟩
  refine wpAny_Call_Name_kw (hl I ?_)
  cases es with
  | nil => exact absurd rfl hn
  | cons e es =>
    rw [List.all_cons, Bool.and_eq_true] at hs
    rcases hv with ⟨id, rfl⟩ | ⟨T, rfl⟩
    · exact PyProof.Rows.callWith_builtin1 (thn (ha.run pos pins s σ H _ I h) fun us s1 ⟨vs, H1, I1, r1, q1⟩ => hc pins s1 σ H1 vs us Q I1 r1 q1) (star_cons hs.1) (star_any hs.2)
    · exact PyProof.Rows.callWith_type1 (thn (ha.run pos pins s σ H _ I h) fun us s1 ⟨vs, H1, I1, r1, q1⟩ => hc pins s1 σ H1 vs us Q I1 r1 q1) (star_cons hs.1) (star_any hs.2)
end
theorem bi_id (b : Bi) : (∃ id, b.id = .builtin id) ∨ ∃ T, b.id = .type T := by
  cases b <;> first | exact .inl ⟨_, rfl⟩ | exact .inr ⟨_, rfl⟩
/-- a class as a value -/
theorem csB_ok {j : Nat} {sc : Scope} {top : Bool} {N : List Str} {X : Cx} {c : Cs} {e : Expr} (g : Good CX T PR cl fa fd ps j sc top N X) (h : csB T sc c e = true) : PE X e (tC (csU cl c)) := by
  cases c with
  | ty n =>
    cases e with
    | Name x pos =>
      simp only [csB, Bool.and_eq_true] at h
      obtain ⟨⟨⟨h1, h2⟩, h3⟩, h4⟩ := h
      obtain ⟨n1, n2, n3⟩ := plainN_ok h2
      exact pe_bltn (glB_ok h1 g.sc) (g.wf.bl x h3) (of_decide_eq_true h4) (show RelV (.ty n) (.type n) from rfl) n3 n1
    | _ => cases h
  | cl c =>
    cases e with
    | Name x pos =>
      simp only [csB, Bool.and_eq_true] at h
      obtain ⟨⟨h1, h2⟩, h3⟩ := h
      obtain ⟨n1, n2, n3⟩ := plainN_ok h2
      exact pe_glob (glB_ok h1 g.sc) (g.wf.cs x c (of_decide_eq_true h3)) (show RelV (.ref (cl c)) (.ref (cl c)) from rfl) n1
    | _ => cases h
def tCs (vs : List V) : TA := fun _ H Q => Q vs H
theorem csBs_ok {j : Nat} {sc : Scope} {top : Bool} {N : List Str} {X : Cx} (g : Good CX T PR cl fa fd ps j sc top N X) : ∀ {cs : List Cs} {es : List Expr}, csBs T sc cs es = true → PA X es (tCs (cs.map (csU cl)))
  | [], [], h => ⟨fun pos pins s σ H Q I q => pa_nil.run pos pins s σ H Q I q⟩
  | c :: cs, e :: es, h => by
    simp only [csBs, Bool.and_eq_true] at h
    have p1 := csB_ok g h.1.1
    have p2 := csBs_ok g h.1.2
    exact ⟨fun pos pins s σ H Q I q => (pa_cons p1 p2 (star_cons h.2)).run pos pins s σ H Q I q⟩
  | [], _ :: _, h => by cases h
  | _ :: _, [], h => by cases h
theorem clsV_ok (c : Cs) : ClsV (csU cl c) (csV cl c) := by
  cases c with
  | ty n => exact .ty n
  | cl c => exact .own _
theorem clsV_all : ∀ cs : List Cs, Paired ClsV (cs.map (csU cl)) (cs.map (csV cl))
  | [] => .nil
  | c :: cs => .cons (clsV_ok c) (clsV_all cs)
end
end Pv

set_option Elab.async false
set_option linter.all false
set_option maxRecDepth 100000
set_option maxHeartbeats 2000000
/-! Expressions, one step. -/
namespace Pv
open PySem PySem.Spec PyProof.Rows L2
theorem Res.bind_assoc {α β γ : Type} (a : Res α) (f : α → Store → Res β) (g : β → Store → Res γ) : (a.bind f).bind g = a.bind fun x st => (f x st).bind g := by
  cases a <;> rfl
section
variable {CX : CXT} {T : Tab} {PR : Prog} {cl fa : Nat → Addr} {fd : Nat → FuncData} {ps : Nat → List Str}
variable {j : Nat} {sc : Scope} {top : Bool} {N : List Str} {X : Cx} {n : Nat}
theorem chkL_one {cs : List Ex} {y : Expr} (h : chkL T PR sc top N n cs [y] = true) : ∃ n' c, cs = [c] ∧ chkE T PR sc top N n' c y = true := by
  match cs, h with
  | [c], h =>
    simp only [chkL, chkLs, Bool.and_eq_true] at h
    exact ⟨n, c, rfl, h.1.1⟩
  | [], h => cases h
  | _ :: _ :: _, h =>
    simp only [chkL, chkLs, Bool.and_false] at h
    cases h
theorem csOk_ok {t : Cs} (h : csOk PR.kl.length t = true) : ∀ c, t = .cl c → ∃ k, PR.kl[c]? = some k := fun c e => by
  subst e
  exact ⟨_, List.getElem?_eq_getElem (of_decide_eq_true h)⟩
theorem isE_ok (hE : SEn CX T PR cl fa fd ps j) (g : Good CX T PR cl fa fd ps (j + 1) sc top N X) {c : Cs} {cs : List Ex} {x : Str} {p pos : Pos} {es : List Expr}
    (hx : x = "isinstance") (h1 : glB sc x = true) (h3 : T.bls.contains x = true)
    (h : (match es with | [y, t] => chkL T PR sc top N n cs [y] && notStar y && csB T sc c t && notStar t | _ => false) = true) :
    PE X (.Call (.Name x p) es [] pos) (rdE X.K cl (ev PR (j + 1)) (.bi (.isi c) cs)) := by
  match es, h with
  | [y, t], h =>
    simp only [Bool.and_eq_true] at h
    obtain ⟨⟨⟨c1, c2⟩, c3⟩, c4⟩ := h
    have gd := g.down (Nat.le_succ j)
    obtain ⟨n', cy, rfl, c1e⟩ := chkL_one c1
    subst hx
    refine peImp (pe_callB call_isi (glB_ok h1 g.sc) (g.wf.bl _ h3) (by decide +kernel) (pa_cons (hE sc top N n' cy y X gd c1e) (pa_cons (csB_ok g c3) pa_nil (star_cons c4)) (star_cons c2)) (he := star_cons c2) (hpl := star_any (by simp [c4]))) fun σ H Q q => ?_
    obtain ⟨m, env, st, sr, er, f⟩ := q
    have f : Fin X.K cl m H ((evL (ev PR j) [cy] env st).bind fun vs st => biF PR.isl PR.kl.length (.isi c) vs st) Q := f
    simp only [evL, Res.bind_assoc] at f
    refine rdE_bind (cnE Q) sr er f fun v1 st1 u1 H1 m1 x1 sr1 er1 r1 f1 => ?_
    simp only [Res.bind, biF] at f1
    cases e : tyOf st1 v1 with
    | none => rw [e] at f1; exact f1.elim
    | some t =>
      rw [e] at f1
      simp only [Option.bind_some] at f1
      by_cases hk : csOk PR.kl.length t = true
      · rw [if_pos hk] at f1
        cases e2 : isaT PR.isl t c with
        | none => rw [e2] at f1; exact f1.elim
        | some r =>
          rw [e2] at f1
          exact ⟨u1, csU cl c, csV cl t, csV cl c, r, rfl, clsV_ok c, ty_ok g.wf.co sr1 r1 e (csOk_ok hk), isaT_ok g.wf.co e2, Fin.bl f1 sr1⟩
      · rw [if_neg hk] at f1
        exact f1.elim
theorem isT_ok (hE : SEn CX T PR cl fa fd ps j) (g : Good CX T PR cl fa fd ps (j + 1) sc top N X) {c : List Cs} (hl : c.length ≤ 100) {cs : List Ex} {x : Str} {p pos : Pos} {es : List Expr}
    (hx : x = "isinstance") (h1 : glB sc x = true) (h3 : T.bls.contains x = true)
    (h : (match es with | [y, .Tuple ts _ _] => chkL T PR sc top N n cs [y] && notStar y && csBs T sc c ts | _ => false) = true) :
    PE X (.Call (.Name x p) es [] pos) (rdE X.K cl (ev PR (j + 1)) (.bi (.isiT c) cs)) := by
  match es, h with
  | [y, .Tuple ts kk tpos], h =>
    simp only [Bool.and_eq_true] at h
    obtain ⟨⟨c1, c2⟩, c3⟩ := h
    have gd := g.down (Nat.le_succ j)
    obtain ⟨n', cy, rfl, c1e⟩ := chkL_one c1
    subst hx
    refine peImp (pe_callB call_isiT (glB_ok h1 g.sc) (g.wf.bl _ h3) (by decide +kernel) (pa_cons (hE sc top N n' cy y X gd c1e) (pa_cons (pe_tup (csBs_ok g c3)) pa_nil) (star_cons c2)) (he := star_cons c2)) fun σ H Q q => ?_
    obtain ⟨m, env, st, sr, er, f⟩ := q
    have f : Fin X.K cl m H ((evL (ev PR j) [cy] env st).bind fun vs st => biF PR.isl PR.kl.length (.isiT c) vs st) Q := f
    simp only [evL, Res.bind_assoc] at f
    refine rdE_bind (cnE Q) sr er f fun v1 st1 u1 H1 m1 x1 sr1 er1 r1 f1 => ?_
    simp only [Res.bind, biF] at f1
    cases e : tyOf st1 v1 with
    | none => rw [e] at f1; exact f1.elim
    | some t =>
      rw [e] at f1
      simp only [Option.bind_some] at f1
      by_cases hk : csOk PR.kl.length t = true
      · rw [if_pos hk] at f1
        cases e2 : isaA PR.isl t c with
        | none => rw [e2] at f1; exact f1.elim
        | some r =>
          rw [e2] at f1
          have hl : (c.map (csU cl)).length ≤ sizeLine := by rw [List.length_map]; exact Nat.le_of_lt (small1000 (by omega))
          refine ⟨hl, fun tp htp => ?_⟩
          have x2 := Ext.new (m := m1) (HO.tup (c.map (csU cl))) htp
          have sr2 := sr1.new (HO.tup (c.map (csU cl))) htp
          refine ⟨u1, tp, c.map (csU cl), csV cl t, c.map (csV cl), r, rfl, upd_same, clsV_all c, ty_ok g.wf.co sr2 (r1.mono x2) e (csOk_ok hk), isaA_ok g.wf.co e2, ?_⟩
          exact f1 (.bl r) _ m1 x2 sr2 rfl
      · rw [if_neg hk] at f1
        exact f1.elim
/-- what goes wrong at 0 -/
theorem se_zero : SEn CX T PR cl fa fd ps 0 := fun sc top N n c e X g h => peF fun σ H Q ⟨m, env, st, sr, er, f⟩ => f
theorem arB_ok {f k : Nat} (h : arB PR f k = true) : ∃ d, PR.df[f]? = some d ∧ k ≤ d.np ∧ d.np - k ≤ d.dv.length := by
  unfold arB at h
  cases e : PR.df[f]? with
  | none => rw [e] at h; cases h
  | some d =>
    rw [e] at h
    exact ⟨d, rfl, of_decide_eq_true h⟩
theorem pad_len {d : Df} {vs : List PV} {k : Nat} (h : vs.length = k) (h1 : k ≤ d.np) (h2 : d.np - k ≤ d.dv.length) : (pad d vs).length = d.np := by
  unfold pad
  rw [List.length_append, List.length_drop]
  omega
theorem call_len {j f : Nat} {d : Df} {as : List PV} {st : Store} (h : PR.df[f]? = some d) (hl : as.length ≠ d.np) : (ev PR j).call f as st = .bad := by
  cases j with
  | zero => rfl
  | succ j =>
    show stepC PR (ev PR j) f as st = .bad
    unfold stepC
    rw [h]
    exact if_neg fun z => hl z.1
variable (CX T PR cl fa fd ps j) in
/-- comprehensions, apart -/
def SCn : Prop := ∀ sc top N n mu ce tg k its ts e X, Good CX T PR cl fa fd ps (j + 1) sc top N X → chkE T PR sc top N (n + 1) (.comp mu ce tg k its ts) e = true → PE X e (rdE X.K cl (ev PR (j + 1)) (.comp mu ce tg k its ts))
theorem po_ok (hE : SEn CX T PR cl fa fd ps j) (g : Good CX T PR cl fa fd ps j sc top N X) {c : Ex} {o : Option Expr} (h : chkO T PR sc top N n c o = true) :
    PO X o (fun σ H Q => ∃ m env st x st', SR X.K cl H m st ∧ ER X.K cl H m env σ ∧ partOf (ev PR j) c env st = .ok x st' ∧ ∀ H' m', Ext m H m' H' → SR X.K cl H' m' st' → ER X.K cl H' m' env σ → Q x H') := by
  cases o with
  | none =>
    have hc : c = .nil := by
      cases c <;> first | rfl | cases h
    subst hc
    refine ⟨fun pins s σ H Q I q => ?_⟩
    obtain ⟨m, env, st, x, st', sr, er, e, k⟩ := q
    cases e
    exact po_none.run pins s σ H Q I (k H m (Ext.refl _ _) sr er)
  | some e =>
    have h : chkE T PR sc top N n c e = true := by
      cases c <;> exact h
    have p := hE sc top N n c e X g h
    have hc : c ≠ .nil := by
      rintro rfl
      cases n <;> cases h
    refine ⟨fun pins s σ H Q I q => (po_some p).run pins s σ H Q I ?_⟩
    obtain ⟨m, env, st, x, st', sr, er, e, k⟩ := q
    have e : (((ev PR j).E c env st).bind fun v st => match v with | .int i => Res.ok (some i) st | _ => .bad) = .ok x st' := by
      rw [← e]
      cases c <;> first | rfl | exact absurd rfl hc
    refine ⟨m, env, st, sr, er, ?_⟩
    cases q : (ev PR j).E c env st with
    | ok v st1 =>
      rw [q] at e
      show Fin X.K cl m H ((ev PR j).E c env st) _
      rw [q]
      intro u H' m' x1 sr1 r1
      cases v <;> first
        | (cases e; done)
        | skip
      rename_i i
      cases e
      cases r1
      exact ⟨i, rfl, k H' m' x1 sr1 (er.mono x1)⟩
    | exc _ _ => rw [q] at e; cases e
    | bad => rw [q] at e; cases e
theorem se_succ (hE : SEn CX T PR cl fa fd ps j) (hT : STn CX T PR cl fa fd ps j) (hC : SCn CX T PR cl fa fd ps j) : SEn CX T PR cl fa fd ps (j + 1) := by
  intro sc top N n c e X g h
  cases n with
  | zero => cases h
  | succ n =>
  have gd := g.down (Nat.le_succ j)
  cases c with
  | v i =>
    rw [chkE_v] at h
    cases e with
    | Name x pos =>
      simp only [Bool.and_eq_true] at h
      obtain ⟨⟨h1, h2⟩, h3⟩ := h
      obtain ⟨n1, n2, n3⟩ := plainN_ok h3
      refine peImp (pe_var (by rw [g.hN]; exact of_decide_eq_true h1) (by rw [g.sc]; exact visB_ok h2) n1 n2) fun σ H Q q => ?_
      obtain ⟨m, env, st, sr, er, f⟩ := q
      have f : Fin X.K cl m H (match env[i]? with | some (some x) => .ok x st | _ => .bad) Q := f
      cases e : env[i]? with
      | none => rw [e] at f; exact f.elim
      | some o =>
        rw [e] at f
        cases o with
        | none => exact f.elim
        | some v =>
          obtain ⟨u, hu, r⟩ := er.get e
          exact ⟨u, hu, Fin.val sr r f⟩
    | _ => cases h
  | c v =>
    rw [chkE_c] at h
    cases e with
    | Constant k z pos =>
      cases v with
      | non =>
        cases k with
        | none => exact peImp pe_non fun σ H Q ⟨m, env, st, sr, er, f⟩ => Fin.val (v := .non) sr rfl f
        | _ => cases h
      | bl b =>
        cases k with
        | bool d =>
          have hd : b = d := eq_of_beq h
          subst hd
          exact peImp pe_bl fun σ H Q ⟨m, env, st, sr, er, f⟩ => Fin.val (v := .bl b) sr rfl f
        | _ => cases h
      | int b =>
        cases k with
        | int d =>
          have hd : b = d := of_decide_eq_true h
          subst hd
          exact peImp pe_int fun σ H Q ⟨m, env, st, sr, er, f⟩ => Fin.val (v := .int b) sr rfl f
        | _ => cases h
      | str b =>
        cases k with
        | str d =>
          have hd : b = d := of_decide_eq_true h
          subst hd
          exact peImp pe_str fun σ H Q ⟨m, env, st, sr, er, f⟩ => Fin.val (v := .str b) sr rfl f
        | _ => cases h
      | _ => cases h
    | _ => cases h
  | g i =>
    rw [chkE_g] at h
    cases e with
    | Name x pos =>
      simp only [Bool.and_eq_true] at h
      obtain ⟨⟨h1, h2⟩, h3⟩ := h
      obtain ⟨n1, n2, n3⟩ := plainN_ok h3
      cases e : PR.gl[i]? with
      | none =>
        refine peF fun σ H Q ⟨m, env, st, sr, er, f⟩ => ?_
        have f : Fin X.K cl m H (tl PR.gl[i]? st) Q := f
        rw [e] at f
        exact f
      | some v =>
        obtain ⟨u, w, hm, r, rp⟩ := g.wf.gl x i v (of_decide_eq_true h1) e
        refine peImp (pe_glob (glB_ok h2 g.sc) hm r n1) fun σ H Q ⟨m, env, st, sr, er, f⟩ => ?_
        have f : Fin X.K cl m H (tl PR.gl[i]? st) Q := f
        rw [e] at f
        exact Fin.val (v := v) sr (rp H m) f
    | _ => cases h
  | bin o a b =>
    rw [chkE_bin] at h
    cases e with
    | BinOp x p y pos =>
      simp only [Bool.and_eq_true] at h
      obtain ⟨⟨h1, h2⟩, h3⟩ := h
      have hp := opB_ok h1
      subst hp
      refine peImp (pe_op (op_bin (cl := cl) rfl o) (hE _ _ _ _ _ _ X gd h2) (hE _ _ _ _ _ _ X gd h3)) fun σ H Q ⟨m, env, st, sr, er, f⟩ => ?_
      refine rdE_bind (cnE Q) sr er f fun v1 st1 u1 H1 m1 x1 sr1 er1 r1 f1 => ?_
      exact rdE_bind (cnE Q) sr1 er1 f1 fun v2 st2 u2 H2 m2 x2 sr2 er2 r2 f2 => ⟨m2, st2, v1, v2, sr2, r1.mono x2, r2, f2⟩
    | _ => cases h
  | cat mu a b =>
    rw [chkE_cat] at h
    cases e with
    | BinOp x p y pos =>
      cases p with
      | Add =>
        simp only [Bool.and_eq_true] at h
        obtain ⟨h2, h3⟩ := h
        refine peImp (pe_op (op_addL (cl := cl) rfl mu) (hE _ _ _ _ _ _ X gd h2) (hE _ _ _ _ _ _ X gd h3)) fun σ H Q ⟨m, env, st, sr, er, f⟩ => ?_
        refine rdE_bind (cnE Q) sr er f fun v1 st1 u1 H1 m1 x1 sr1 er1 r1 f1 => ?_
        exact rdE_bind (cnE Q) sr1 er1 f1 fun v2 st2 u2 H2 m2 x2 sr2 er2 r2 f2 => ⟨m2, st2, v1, v2, sr2, r1.mono x2, r2, f2⟩
      | _ => cases h
    | _ => cases h
  | neg a =>
    rw [chkE_neg] at h
    cases e with
    | UnaryOp op x pos =>
      cases op with
      | USub =>
        refine peImp (pe_un un_neg (hE _ _ _ _ _ _ X gd h)) fun σ H Q ⟨m, env, st, sr, er, f⟩ => ?_
        refine rdE_bind (cnE Q) sr er f fun v1 st1 u1 H1 m1 x1 sr1 er1 r1 f1 => ?_
        cases v1 with
        | int i => cases r1; exact ⟨i, rfl, Fin.int f1 sr1⟩
        | _ => exact f1.elim
      | _ => cases h
    | _ => cases h
  | not a =>
    rw [chkE_not] at h
    cases e with
    | UnaryOp op x pos =>
      cases op with
      | Not =>
        refine peImp (pe_notT (hE _ _ _ _ _ _ X gd h)) fun σ H Q ⟨m, env, st, sr, er, f⟩ => ?_
        refine rdE_bind (cnE Q) sr er f fun v1 st1 u1 H1 m1 x1 sr1 er1 r1 f1 => ?_
        obtain ⟨k, hk, f2⟩ := tl_bind (cnE Q) f1
        exact ⟨k, truth_ok sr1 r1 hk, Fin.bl f2 sr1⟩
      | _ => cases h
    | _ => cases h
  | cmp o a b =>
    rw [chkE_cmp] at h
    match e, h with
    | .Compare x [p] [y] pos, h =>
      simp only [Bool.and_eq_true, Bool.not_eq_true'] at h
      obtain ⟨⟨⟨h1, h4⟩, h2⟩, h3⟩ := h
      have hp : p = o.op := of_decide_eq_true h1
      subst hp
      refine peImp (pe_cmpR (op_cmp (cl := cl) rfl g.units o) (hE _ _ _ _ _ _ X gd h2) (hE _ _ _ _ _ _ X gd h3) h4) fun σ H Q ⟨m, env, st, sr, er, f⟩ => ?_
      refine rdE_bind (cnE Q) sr er f fun v1 st1 u1 H1 m1 x1 sr1 er1 r1 f1 => ?_
      refine rdE_bind (cnE Q) sr1 er1 f1 fun v2 st2 u2 H2 m2 x2 sr2 er2 r2 f2 => ?_
      obtain ⟨k, hk, f3⟩ := tl_bind (cnE Q) f2
      exact ⟨m2, st2, v1, v2, k, sr2, r1.mono x2, r2, hk, Fin.bl f3 sr2⟩
  | chain o q a b c =>
    rw [chkE_chain] at h
    match e, h with
    | .Compare x [p, p'] [y, z] pos, h =>
      simp only [Bool.and_eq_true, Bool.not_eq_true'] at h
      obtain ⟨⟨⟨⟨⟨h1, h1'⟩, h4⟩, h2⟩, h3⟩, h5⟩ := h
      have hp : p = o.op := of_decide_eq_true h1
      have hp' : p' = q.op := of_decide_eq_true h1'
      subst hp hp'
      refine peImp (pe_chain (op_cmp (cl := cl) rfl g.units o) (op_cmp (cl := cl) rfl g.units q) (hE _ _ _ _ _ _ X gd h2) (hE _ _ _ _ _ _ X gd h3) (hE _ _ _ _ _ _ X gd h5) h4) fun σ H Q ⟨m, env, st, sr, er, f⟩ => ?_
      refine rdE_bind (cnE Q) sr er f fun v1 st1 u1 H1 m1 x1 sr1 er1 r1 f1 => ?_
      refine rdE_bind (cnE Q) sr1 er1 f1 fun v2 st2 u2 H2 m2 x2 sr2 er2 r2 f2 => ?_
      obtain ⟨k, hk, f3⟩ := tl_bind (cnE Q) f2
      refine ⟨m2, st2, v1, v2, k, sr2, r1.mono x2, r2, hk, k, rfl, ?_⟩
      cases k with
      | false => exact Fin.bl f3 sr2
      | true =>
        refine rdE_bind (cnE Q) sr2 er2 f3 fun v3 st3 u3 H3 m3 x3 sr3 er3 r3 f4 => ?_
        obtain ⟨k, hk, f5⟩ := tl_bind (cnE Q) f4
        exact ⟨m3, st3, v2, v3, k, sr3, r2.mono x3, r3, hk, Fin.bl f5 sr3⟩
  | and a b =>
    have key : ∀ {x e2 : Expr} {pos : Pos} {r : List Expr} {y : Expr}, chkE T PR sc top N n a x = true → PE X (.BoolOp .And (y :: r) pos) (rdE X.K cl (ev PR j) b) → PE X (.BoolOp .And (x :: y :: r) pos) (rdE X.K cl (ev PR (j + 1)) (.and a b)) := fun {x e2 pos r y} h1 p2 => by
      refine peImp (pe_and (hE _ _ _ _ _ _ X gd h1) p2) fun σ H Q ⟨m, env, st, sr, er, f⟩ => ?_
      refine rdE_bind (cnE Q) sr er f fun v1 st1 u1 H1 m1 x1 sr1 er1 r1 f1 => ?_
      cases v1 with
      | bl k =>
        cases r1
        refine ⟨k, rfl, ?_⟩
        cases k with
        | true => exact ⟨m1, env, st1, sr1, er1, f1⟩
        | false => exact Fin.bl f1 sr1
      | _ => exact f1.elim
    rw [chkE_and] at h
    match e, h with
    | .BoolOp .And [x, y] pos, h =>
      simp only [Bool.and_eq_true] at h
      exact key (e2 := x) h.1 (pe_one (hE _ _ _ _ _ _ X gd h.2))
    | .BoolOp .And (x :: y :: z :: r) pos, h =>
      simp only [Bool.and_eq_true] at h
      exact key (e2 := x) h.1 (hE _ _ _ _ _ _ X gd h.2)
  | or a b =>
    have key : ∀ {x e2 : Expr} {pos : Pos} {r : List Expr} {y : Expr}, chkE T PR sc top N n a x = true → PE X (.BoolOp .Or (y :: r) pos) (rdE X.K cl (ev PR j) b) → PE X (.BoolOp .Or (x :: y :: r) pos) (rdE X.K cl (ev PR (j + 1)) (.or a b)) := fun {x e2 pos r y} h1 p2 => by
      refine peImp (pe_or (hE _ _ _ _ _ _ X gd h1) p2) fun σ H Q ⟨m, env, st, sr, er, f⟩ => ?_
      refine rdE_bind (cnE Q) sr er f fun v1 st1 u1 H1 m1 x1 sr1 er1 r1 f1 => ?_
      cases v1 with
      | bl k =>
        cases r1
        refine ⟨k, rfl, ?_⟩
        cases k with
        | true => exact Fin.bl f1 sr1
        | false => exact ⟨m1, env, st1, sr1, er1, f1⟩
      | _ => exact f1.elim
    rw [chkE_or] at h
    match e, h with
    | .BoolOp .Or [x, y] pos, h =>
      simp only [Bool.and_eq_true] at h
      exact key (e2 := x) h.1 (pe_one (hE _ _ _ _ _ _ X gd h.2))
    | .BoolOp .Or (x :: y :: z :: r) pos, h =>
      simp only [Bool.and_eq_true] at h
      exact key (e2 := x) h.1 (hE _ _ _ _ _ _ X gd h.2)
  | ite c a b =>
    rw [chkE_ite] at h
    cases e with
    | IfExp t x y pos =>
      simp only [Bool.and_eq_true] at h
      obtain ⟨⟨h1, h2⟩, h3⟩ := h
      refine peImp (pe_ifExp (hT _ _ _ _ _ _ X gd h1).1 (hE _ _ _ _ _ _ X gd h2) (hE _ _ _ _ _ _ X gd h3)) fun σ H Q ⟨m, env, st, sr, er, f⟩ => ?_
      refine rdT_bind (cnE Q) sr er f fun k st1 H1 m1 x1 sr1 er1 f1 => ?_
      cases k with
      | true => exact ⟨m1, env, st1, sr1, er1, f1⟩
      | false => exact ⟨m1, env, st1, sr1, er1, f1⟩
    | _ => cases h
  | tup cs =>
    rw [chkE_tup] at h
    cases e with
    | Tuple es k pos =>
      refine peImp (pe_tup (sl_of hE gd h)) fun σ H Q ⟨m, env, st, sr, er, f⟩ => ?_
      refine rdL_bind (cnE Q) sr er f fun v1 st1 u1 H1 m1 x1 sr1 er1 r1 f1 => ?_
      split at f1
      · rename_i hl
        exact ⟨by rw [← r1.length]; exact hl, fun p hp => f1.at_ (newT sr1 r1 hp)⟩
      · exact f1.elim
    | _ => cases h
  | lst mu cs =>
    rw [chkE_lst] at h
    cases e with
    | List es pos =>
      refine peImp (pe_lst (sl_of hE gd h)) fun σ H Q ⟨m, env, st, sr, er, f⟩ => ?_
      refine rdL_bind (cnE Q) sr er f fun v1 st1 u1 H1 m1 x1 sr1 er1 r1 f1 => ?_
      split at f1
      · rename_i hl
        exact ⟨by rw [← r1.length]; exact hl, fun p hp => mkL_ok sr1 r1 hp f1⟩
      · exact f1.elim
    | _ => cases h
  | nil => cases h
  | comp mu ce tg k its ts => exact hC _ _ _ _ _ _ _ _ _ _ _ X g h
  | idx a i =>
    rw [chkE_idx] at h
    cases e with
    | Subscript x y pos =>
      simp only [Bool.and_eq_true] at h
      obtain ⟨⟨h1, h2⟩, h3⟩ := h
      refine peImp (pe_ix ix_seq (hE _ _ _ _ _ _ X gd h2) (hE _ _ _ _ _ _ X gd h3) (plainIx_ok h1)) fun σ H Q ⟨m, env, st, sr, er, f⟩ => ?_
      refine rdE_bind (cnE Q) sr er f fun v1 st1 u1 H1 m1 x1 sr1 er1 r1 f1 => ?_
      refine rdE_bind (cnE Q) sr1 er1 f1 fun v2 st2 u2 H2 m2 x2 sr2 er2 r2 f2 => ?_
      cases v2 with
      | int k =>
        cases r2
        dsimp only at f2
        cases e : seqOf st2 v1 with
        | none => rw [e] at f2; exact f2.elim
        | some w =>
          obtain ⟨b, xs⟩ := w
          rw [e] at f2
          dsimp only at f2
          cases e2 : atI xs k with
          | none => rw [e2] at f2; exact f2.elim
          | some v =>
            rw [e2] at f2
            exact ix_ok (X := X) rfl (fun y ry => Fin.val (v := v) sr2 ry f2) sr2 (r1.mono x2) e e2
      | _ => exact f2.elim
    | _ => cases h
  | slc a lo hi =>
    rw [chkE_slc] at h
    match e, h with
    | .Subscript x (.Slice l hh none p2) pos, h =>
      simp only [Bool.and_eq_true] at h
      obtain ⟨⟨h1, h2⟩, h3⟩ := h
      refine peImp (pe_slice (sl_list.or sl_tup) (hE _ _ _ _ _ _ X gd h1) (po_ok hE gd h2) (po_ok hE gd h3)) fun σ H Q ⟨m, env, st, sr, er, f⟩ => ?_
      refine rdE_bind (cnE Q) sr er f fun v1 st1 u1 H1 m1 x1 sr1 er1 r1 f1 => ?_
      cases e1 : partOf (ev PR j) lo env st1 with
      | exc _ _ => rw [e1] at f1; exact f1.elim
      | bad => rw [e1] at f1; exact f1.elim
      | ok a st2 =>
        rw [e1] at f1
        refine ⟨m1, env, st1, a, st2, sr1, er1, e1, fun H2 m2 x2 sr2 er2 => ?_⟩
        have f2 := Fin.mono x2 f1
        simp only [Res.bind] at f2
        cases e2 : partOf (ev PR j) hi env st2 with
        | exc _ _ => rw [e2] at f2; exact f2.elim
        | bad => rw [e2] at f2; exact f2.elim
        | ok b st3 =>
          rw [e2] at f2
          refine ⟨m2, env, st2, b, st3, sr2, er2, e2, fun H3 m3 x3 sr3 er3 => ?_⟩
          have f3 := Fin.mono x3 f2
          have r3 := r1.mono (x2.trans x3)
          simp only [Res.bind] at f3
          have lst : ∀ xs, seqOf st3 v1 = some (false, xs) → Fin X.K cl m3 H3 (.ok (.lst (cutP xs a b)) st3) Q → rSlL X.K u1 a b H3 Q := fun xs q f => by
            obtain ⟨p, zs, rfl, rl, h1, h2⟩ := seq_ok sr3 r3 q
            exact ⟨p, zs, rfl, .inl (.inl (h2 rfl)), fun l hl => f.at_ (newF sr3 (cut_ok rl a b) hl)⟩
          cases v1 with
          | tup xs =>
            obtain ⟨p, zs, rfl, hp, rl⟩ := r3
            dsimp only at f3
            split at f3
            · exact f3.elim
            · rename_i hw
              refine .inr ⟨p, zs, rfl, hp, by rw [← rl.length]; exact hw, fun l hl => f3.at_ (newT sr3 (cut_ok rl a b) hl)⟩
          | scr ns =>
            obtain ⟨p, rfl, hp⟩ := r3
            have hp : SqL X.K H3 p (ns.map V.int) := hp.imp (fun z => z.1) id
            have rl : ∀ (H : Hp) (m : List Addr) (is : List Int), RpL X.K cl H m (is.map PV.int) (is.map V.int) := fun H m is => by
              induction is with
              | nil => rfl
              | cons i is ih => exact ⟨_, _, rfl, rfl, ih⟩
            exact .inl ⟨p, ns.map V.int, rfl, hp, fun l hl => f3.at_ (newF sr3 (cut_ok (rl _ _ ns) a b) hl)⟩
          | lst xs => exact .inl (lst xs rfl f3)
          | ref k =>
            dsimp only at f3
            cases q : seqOf st3 (PV.ref k) with
            | none => rw [q] at f3; exact f3.elim
            | some w =>
              obtain ⟨z, xs⟩ := w
              rw [q] at f3
              cases z with
              | true => exact f3.elim
              | false => exact .inl (lst xs q f3)
          | _ => exact f3.elim
  | attr a f =>
    rw [chkE_attr] at h
    cases e with
    | Attribute x gg pos =>
      simp only [Bool.and_eq_true] at h
      obtain ⟨⟨h1, h2⟩, h3⟩ := h
      have hf : f = gg := of_decide_eq_true h1
      subst hf
      refine peImp (pe_fld (hE _ _ _ _ _ _ X gd h3) (plainBase_ok h2 _)) fun σ H Q ⟨m, env, st, sr, er, f'⟩ => ?_
      refine rdE_bind (cnE Q) sr er f' fun v1 st1 u1 H1 m1 x1 sr1 er1 r1 f1 => ?_
      cases e : insOf st1 v1 with
      | none => rw [e] at f1; exact f1.elim
      | some w =>
        obtain ⟨c, fs⟩ := w
        rw [e] at f1
        dsimp only at f1
        cases ek : PR.kl[c]? with
        | none => rw [ek] at f1; exact f1.elim
        | some k =>
          rw [ek] at f1
          dsimp only at f1
          split at f1
          · rename_i hin
            cases e2 : fs.lookup f with
            | none => rw [e2] at f1; exact f1.elim
            | some y =>
              rw [e2] at f1
              obtain ⟨p, dx, gs, rfl, hp, rf⟩ := ins_ok sr1 r1 e
              obtain ⟨z, hz, rz⟩ := rf.lookup e2
              exact ⟨p, cl c, dx, gs, z, rfl, hp, g.wf.co.cls c k ek, g.wf.na c k f ek hin, hz, Fin.val (v := y) sr1 rz f1⟩
          · exact f1.elim
    | _ => cases h
  | call f cs =>
    rw [chkE_call] at h
    match e, h with
    | .Call (.Name x p) es [] pos, h =>
      simp only [Bool.and_eq_true] at h
      obtain ⟨⟨⟨⟨⟨h1, h2⟩, h3⟩, h4⟩, h5⟩, h6⟩ := h
      obtain ⟨n1, n2, n3⟩ := plainN_ok h4
      obtain ⟨d, hd, a1, a2⟩ := arB_ok h2
      obtain ⟨m1, m2⟩ := g.wf.fn x f (of_decide_eq_true h1)
      obtain ⟨ds, dvs, hb, hv, hr⟩ := g.wf.bd f d cs.length hd a1 a2
      refine peImp (pe_callA (g.fo j (Nat.lt_succ_self j) f d hd) (g.room.mono (Nat.le_succ j)) (glB_ok h3 g.sc) m1 m2 hb hv g.passes (sl_of hE gd h5) h6 n1) fun σ H Q ⟨m, env, st, sr, er, f'⟩ => ?_
      refine rdL_bind' (cnE Q) sr er f' fun v1 st1 u1 H1 m1 hl x1 sr1 er1 r1 f1 => ?_
      rw [hd] at f1
      refine ⟨m1, st1, pad d v1, sr1, r1.append ?_, pad_len hl a1 a2, f1⟩
      rw [hl]
      exact hr H1 m1
  | new c mu cs =>
    rw [chkE_new] at h
    match e, h with
    | .Call (.Name x p) es [] pos, h =>
      simp only [Bool.and_eq_true] at h
      obtain ⟨⟨⟨⟨⟨h1, h2⟩, h3⟩, h4⟩, h5⟩, h6⟩ := h
      obtain ⟨n1, n2, n3⟩ := plainN_ok h4
      cases ek : PR.kl[c]? with
      | none => rw [ek] at h2; cases h2
      | some k =>
        obtain ⟨ki, km, ka⟩ := k
        cases ki with
        | none => rw [ek] at h2; cases h2
        | some f =>
          rw [ek] at h2
          obtain ⟨d, hd, a1, a2⟩ := arB_ok h2
          obtain ⟨ds, dvs, hb, hv, hr⟩ := g.wf.bd f d (cs.length + 1) hd a1 a2
          refine peImp (pe_makeA (g.wf.mkc c _ f ek rfl) (g.fo j (Nat.lt_succ_self j) f d hd) g.room (glB_ok h3 g.sc) (g.wf.cs x c (of_decide_eq_true h1)) hb hv g.passes (sl_of hE gd h5) h6 n1) fun σ H Q ⟨m, env, st, sr, er, f'⟩ => ?_
          refine rdL_bind' (cnE Q) sr er f' fun v1 st1 u1 H1 m1 hl x1 sr1 er1 r1 f1 => ?_
          intro o dx no ndx ne
          rw [ek] at f1
          dsimp only at f1
          rw [hd] at f1
          dsimp only at f1
          unfold newI at f1
          have x0 := Ext.new (m := m1) (HO.own o) ndx
          have sr0 := sr1.new (HO.own o) ndx
          have no0 : upd H1 dx (.own o) o = none := by rw [upd_ne (Ne.symm ne)]; exact no
          obtain ⟨x2, sr2, rr2⟩ := newO (x := .ins c []) (o := .ins (cl c) dx []) sr0 ⟨dx, [], rfl, rfl⟩ no0
          have ex2 := x0.trans x2
          have hpd : pad { d with np := d.np - 1 } v1 = v1 ++ d.dv.drop (d.dv.length - (d.np - (cs.length + 1))) := by
            unfold pad
            rw [hl]
            show v1 ++ d.dv.drop (d.dv.length - (d.np - 1 - cs.length)) = _
            rw [show d.np - 1 - cs.length = d.np - (cs.length + 1) from by omega]
          rw [hpd] at f1
          refine ⟨m1 ++ [o], st1 ++ [.ins c []], .ref st1.length :: (v1 ++ d.dv.drop (d.dv.length - (d.np - (cs.length + 1)))), sr2, ⟨_, _, rfl, rr2, (RpL.mono ex2 _ _ r1).append (hr _ _)⟩, ?_, ?_⟩
          · simp only [List.length_cons, List.length_append, List.length_drop, hl]
            omega
          · show Fin X.K cl (m1 ++ [o]) _ ((ev PR j).call f _ (st1 ++ [.ins c []])) _
            cases q : (ev PR j).call f (.ref st1.length :: (v1 ++ d.dv.drop (d.dv.length - (d.np - (cs.length + 1))))) (st1 ++ [.ins c []]) with
            | exc _ _ => rw [q] at f1; exact f1.elim
            | bad => rw [q] at f1; exact f1.elim
            | ok v st' =>
              rw [q] at f1
              simp only [Res.bind] at f1
              intro u H' m' x3 sr3 r3
              cases v <;> first
                | exact f1.elim
                | skip
              cases r3
              refine ⟨rfl, ?_⟩
              have rr3 := rr2.mono x3
              dsimp only at f1
              split at f1
              · exact f1 _ H' m' (ex2.trans x3) sr3 rr3
              · cases q2 : done st1 false (.ref st1.length) st' with
                | exc _ _ => rw [q2] at f1; exact f1.elim
                | bad => rw [q2] at f1; exact f1.elim
                | ok w st2 =>
                  rw [q2] at f1
                  obtain ⟨m2, y1, y2, y3⟩ := done_ok sr1 (ex2.trans x3) sr3 rr3 q2
                  exact f1 _ H' m2 y1 y2 y3
  | meth a m cs =>
    rw [chkE_meth] at h
    match e, h with
    | .Call (.Attribute x gg apos) es [] pos, h =>
      simp only [Bool.and_eq_true] at h
      obtain ⟨⟨⟨⟨⟨⟨h1, h2⟩, h3⟩, h4⟩, h5⟩, h6⟩, h7⟩ := h
      have hm : m = gg := of_decide_eq_true h1
      subst hm
      refine peImp (pe_methD (hE _ _ _ _ _ _ X gd h5) g.passes (sl_of hE gd h6) h2 h7 (of_decide_eq_true h4) h3) fun σ H Q ⟨m', env, st, sr, er, f'⟩ => ?_
      refine rdE_bind (cnE Q) sr er f' fun v1 st1 u1 H1 m1 x1 sr1 er1 r1 f1 => ?_
      cases e1 : insOf st1 v1 with
      | none => rw [e1] at f1; exact f1.elim
      | some w =>
        obtain ⟨c, fs⟩ := w
        rw [e1] at f1
        dsimp only at f1
        cases ek : PR.kl[c]? with
        | none => rw [ek] at f1; exact f1.elim
        | some k =>
          cases el : fs.lookup m with
          | some _ => rw [ek, el] at f1; exact f1.elim
          | none =>
            rw [ek, el] at f1
            dsimp only at f1
            cases em : k.ms.lookup m with
            | none => rw [em] at f1; exact f1.elim
            | some f =>
              rw [em] at f1
              dsimp only at f1
              cases hd : PR.df[f]? with
              | none => rw [hd] at f1; exact f1.elim
              | some d =>
                rw [hd] at f1
                dsimp only at f1
                obtain ⟨p, dx, gs, rfl, hp, rf⟩ := ins_ok sr1 r1 e1
                have hpd : ∀ v1 : List PV, v1.length = cs.length → pad { d with np := d.np - 1 } v1 = v1 ++ d.dv.drop (d.dv.length - (d.np - (cs.length + 1))) := fun v1 hl => by
                  unfold pad
                  rw [hl]
                  show v1 ++ d.dv.drop (d.dv.length - (d.np - 1 - cs.length)) = _
                  rw [show d.np - 1 - cs.length = d.np - (cs.length + 1) from by omega]
                by_cases ar : cs.length + 1 ≤ d.np ∧ d.np - (cs.length + 1) ≤ d.dv.length
                · obtain ⟨ds, dvs, hb, hv, hr⟩ := g.wf.bd f d (cs.length + 1) hd ar.1 ar.2
                  refine ⟨p, cl c, fa f, j, fd f, ps f, _, ds, dvs, dx, gs, rfl, hp, g.wf.co.cls c k ek, g.wf.ms c k m f ek em, g.fo j (Nat.lt_succ_self j) f d hd, g.room.mono (Nat.le_succ j), hb, hv, rf.lookupN el, ?_⟩
                  refine rdL_bind' (cnE Q) sr1 er1 f1 fun v2 st2 u2 H2 m2 hl x2 sr2 er2 r2 f2 => ?_
                  rw [hpd v2 hl] at f2
                  refine ⟨m2, st2, v1 :: (v2 ++ d.dv.drop (d.dv.length - (d.np - (cs.length + 1)))), sr2, ⟨_, _, rfl, r1.mono x2, r2.append (hr H2 m2)⟩, ?_, f2⟩
                  simp only [List.length_cons, List.length_append, List.length_drop, hl]
                  omega
                · exfalso
                  cases q : evL (ev PR j) cs env st1 with
                  | exc _ _ => rw [q] at f1; exact f1.elim
                  | bad => rw [q] at f1; exact f1.elim
                  | ok v2 st2 =>
                    rw [q] at f1
                    simp only [Res.bind] at f1
                    have hl := evL_len q
                    rw [hpd v2 hl, call_len hd (by simp only [List.length_cons, List.length_append, List.length_drop, hl]; omega)] at f1
                    exact f1.elim
  | bi b cs =>
    rw [chkE_bi] at h
    match e, h with
    | .Call (.Name x p) es [] pos, h =>
      simp only [Bool.and_eq_true] at h
      obtain ⟨⟨⟨h1, h2⟩, h3⟩, h4⟩ := h
      obtain ⟨n1, n2, n3⟩ := plainN_ok h3
      have hx : x = biN b := of_decide_eq_true h1
      have plain : isIsi b = false → chkL T PR sc top N n cs es = true → es.all notStar = true → (!es.isEmpty) = true →
          (∀ {pins s σ H} {Q : Value → Shared → Prop}, Inv X pins σ H s → Q b.id s → wpAny (model X.prog X.w) X.A (eval (.Name x p) X.env) Q X.xe s) → PE X (.Call (.Name x p) es [] pos) (rdE X.K cl (ev PR (j + 1)) (.bi b cs)) := fun hb c1 c2 c3 hl => by
        have hne : es ≠ [] := by
          rintro rfl
          cases c3
        refine peImp (pe_callV (bi_id b) (cr_bi (cl := cl) rfl g.calm PR.isl PR.kl.length b hb) hl (sl_of hE gd c1) c2 hne) fun σ H Q ⟨m, env, st, sr, er, f⟩ => ?_
        exact rdL_bind (cnE Q) sr er f fun v1 st1 u1 H1 m1 x1 sr1 er1 r1 f1 => ⟨m1, st1, v1, sr1, r1, f1⟩
      have blt : isIsi b = false → isGcd b = false → T.bls.contains x = true → ∀ {pins s σ H} {Q : Value → Shared → Prop}, Inv X pins σ H s → Q b.id s → wpAny (model X.prog X.w) X.A (eval (.Name x p) X.env) Q X.xe s :=
        fun i1 i2 i3 {pins s σ H Q} I q => ld_blt I (glB_ok h2 g.sc) (g.wf.bl x i3) (by rw [hx]; exact boot_bi b i1 i2) q n3 n1
      cases b with
      | isi c =>
        simp only [Bool.and_eq_true] at h4
        exact isE_ok hE g hx h2 h4.1 h4.2
      | isiT c =>
        simp only [Bool.and_eq_true] at h4
        exact isT_ok hE g (of_decide_eq_true h4.1.1) hx h2 h4.1.2 h4.2
      | gcd =>
        simp only [Bool.and_eq_true] at h4
        obtain ⟨⟨⟨c0, c1⟩, c2⟩, c3⟩ := h4
        refine plain rfl c1 c2 c3 fun {pins s σ H Q} I q => ld_glob I (glB_ok h2 g.sc) (by rw [hx]; exact g.wf.gc c0) q n1
      | _ =>
        simp only [Bool.and_eq_true] at h4
        obtain ⟨⟨⟨c0, c1⟩, c2⟩, c3⟩ := h4
        exact plain rfl c1 c2 c3 (blt rfl rfl c0)
end
end Pv

set_option Elab.async false
set_option linter.all false
set_option maxRecDepth 100000
set_option maxHeartbeats 2000000
/-! Tests, one step. -/
namespace Pv
open PySem PySem.Spec PyProof.Rows L2
section
variable {CX : CXT} {T : Tab} {PR : Prog} {cl fa : Nat → Addr} {fd : Nat → FuncData} {ps : Nat → List Str}
variable {j : Nat} {sc : Scope} {top : Bool} {N : List Str} {X : Cx} {n : Nat}
theorem st_zero : STn CX T PR cl fa fd ps 0 := fun sc top N n c e X g h => ⟨⟨fun pins s σ H Q I ⟨m, env, st, sr, er, f⟩ => (show False from f).elim⟩, fun _ => ⟨fun wh pins s σ H Q I ⟨m, env, st, sr, er, f⟩ => (show False from f).elim⟩⟩
theorem FinB.val {m : List Addr} {H : Hp} {st : Store} {K : W.Frag} {k : Bool} {Q : Bool → Hp → Prop} (f : FinB K cl m H (.ok k st) Q) (sr : SR K cl H m st) : Q k H := f H m (Ext.refl _ _) sr
theorem st_succ (hE : SEn CX T PR cl fa fd ps j) (hT : STn CX T PR cl fa fd ps j) : STn CX T PR cl fa fd ps (j + 1) := by
  intro sc top N n c e X g h
  cases n with
  | zero => cases h
  | succ n =>
  have gd := g.down (Nat.le_succ j)
  -- any other
  have other : plainTrue e = true → (∀ env st, (ev PR (j + 1)).T c env st = ((ev PR j).E c env st).bind fun v st => tl (truth st v) st) → PT X e (rdT X.K cl (ev PR (j + 1)) c) ∧ (isBo e = true → PW X e (rdT X.K cl (ev PR (j + 1)) c)) := fun hp ht => by
    refine ⟨ptImp (pt_truth (hE sc top N (n + 1) c e X gd h) fun wh => plainTrue_ok hp wh) fun σ H Q ⟨m, env, st, sr, er, f⟩ => ?_, fun hb => ?_⟩
    · have f : FinB X.K cl m H ((ev PR (j + 1)).T c env st) Q := f
      rw [ht] at f
      refine rdE_bind (cnB Q) sr er f fun v1 st1 u1 H1 m1 x1 sr1 er1 r1 f1 => ?_
      obtain ⟨k, hk, f2⟩ : ∃ a, truth st1 v1 = some a ∧ FinB X.K cl m1 H1 (.ok a st1) Q := by
        cases q : truth st1 v1 with
        | none => rw [q] at f1; exact f1.elim
        | some a => rw [q] at f1; exact ⟨a, rfl, f1⟩
      exact ⟨k, truth_ok sr1 r1 hk, f2.val sr1⟩
    · cases e <;> first
        | (cases hb; done)
        | (cases hp; done)
  cases c with
  | and a b =>
    rw [chkE_and] at h
    have key : ∀ {x : Expr} {pos : Pos} {r : List Expr} {y : Expr}, chkE T PR sc top N n a x = true → PW X (.BoolOp .And (y :: r) pos) (rdT X.K cl (ev PR j) b) → PW X (.BoolOp .And (x :: y :: r) pos) (rdT X.K cl (ev PR (j + 1)) (.and a b)) := fun {x pos r y} h1 p2 => by
      refine pwImp (pw_and (hT _ _ _ _ _ _ X gd h1).1 p2) fun σ H Q ⟨m, env, st, sr, er, f⟩ => ?_
      refine rdT_bind (cnB Q) sr er f fun k st1 H1 m1 x1 sr1 er1 f1 => ?_
      cases k with
      | true => exact ⟨m1, env, st1, sr1, er1, f1⟩
      | false => exact FinB.val f1 sr1
    have both : ∀ {e : Expr}, PW X e (rdT X.K cl (ev PR (j + 1)) (.and a b)) → PT X e (rdT X.K cl (ev PR (j + 1)) (.and a b)) ∧ (isBo e = true → PW X e (rdT X.K cl (ev PR (j + 1)) (.and a b))) := fun p => ⟨p.pt, fun _ => p⟩
    match e, h with
    | .BoolOp .And [x, y] pos, h =>
      simp only [Bool.and_eq_true] at h
      exact both (key h.1 (pw_and1 (hT _ _ _ _ _ _ X gd h.2).1))
    | .BoolOp .And (x :: y :: z :: r) pos, h =>
      simp only [Bool.and_eq_true] at h
      exact both (key h.1 ((hT _ _ _ _ _ _ X gd h.2).2 rfl))
  | or a b =>
    rw [chkE_or] at h
    have key : ∀ {x : Expr} {pos : Pos} {r : List Expr} {y : Expr}, chkE T PR sc top N n a x = true → PW X (.BoolOp .Or (y :: r) pos) (rdT X.K cl (ev PR j) b) → PW X (.BoolOp .Or (x :: y :: r) pos) (rdT X.K cl (ev PR (j + 1)) (.or a b)) := fun {x pos r y} h1 p2 => by
      refine pwImp (pw_or (hT _ _ _ _ _ _ X gd h1).1 p2) fun σ H Q ⟨m, env, st, sr, er, f⟩ => ?_
      refine rdT_bind (cnB Q) sr er f fun k st1 H1 m1 x1 sr1 er1 f1 => ?_
      cases k with
      | true => exact FinB.val f1 sr1
      | false => exact ⟨m1, env, st1, sr1, er1, f1⟩
    have both : ∀ {e : Expr}, PW X e (rdT X.K cl (ev PR (j + 1)) (.or a b)) → PT X e (rdT X.K cl (ev PR (j + 1)) (.or a b)) ∧ (isBo e = true → PW X e (rdT X.K cl (ev PR (j + 1)) (.or a b))) := fun p => ⟨p.pt, fun _ => p⟩
    match e, h with
    | .BoolOp .Or [x, y] pos, h =>
      simp only [Bool.and_eq_true] at h
      exact both (key h.1 (pw_or1 (hT _ _ _ _ _ _ X gd h.2).1))
    | .BoolOp .Or (x :: y :: z :: r) pos, h =>
      simp only [Bool.and_eq_true] at h
      exact both (key h.1 ((hT _ _ _ _ _ _ X gd h.2).2 rfl))
  | not a =>
    rw [chkE_not] at h
    match e, h with
    | .UnaryOp .Not x pos, h =>
      refine ⟨ptImp (pt_not (hT _ _ _ _ _ _ X gd h).1) fun σ H Q ⟨m, env, st, sr, er, f⟩ => ?_, fun z => by cases z⟩
      exact rdT_bind (cnB Q) sr er f fun k st1 H1 m1 x1 sr1 er1 f1 => FinB.val f1 sr1
  | ite c a b =>
    rw [chkE_ite] at h
    match e, h with
    | .IfExp t x y pos, h =>
      simp only [Bool.and_eq_true] at h
      obtain ⟨⟨h1, h2⟩, h3⟩ := h
      have p1 := (hT _ _ _ _ _ _ X gd h1).1
      have p2 := (hT _ _ _ _ _ _ X gd h2).1
      have p3 := (hT _ _ _ _ _ _ X gd h3).1
      refine ⟨⟨fun pins s σ H Q I ⟨m, env, st, sr, er, f⟩ => ?_⟩, fun z => by cases z⟩
      have q : rdT X.K cl (ev PR j) c σ H fun k H1 => if k = true then rdT X.K cl (ev PR j) a σ H1 Q else rdT X.K cl (ev PR j) b σ H1 Q := by
        refine rdT_bind (cnB Q) sr er f fun k st1 H1 m1 x1 sr1 er1 f1 => ?_
        cases k with
        | true => exact ⟨m1, env, st1, sr1, er1, f1⟩
        | false => exact ⟨m1, env, st1, sr1, er1, f1⟩
      show wpAny _ _ (do if ← isTrue t X.env (eval t X.env) then isTrue x X.env (eval x X.env) else isTrue y X.env (eval y X.env)) _ _ s
      refine wpAny_bind (thn (p1.run pins s σ H _ I q) fun k s1 ⟨H1, I1, q1⟩ => ?_)
      cases k with
      | true => exact p2.run pins s1 σ H1 Q I1 q1
      | false => exact p3.run pins s1 σ H1 Q I1 q1
  | cmp o a b =>
    rw [chkE_cmp] at h
    match e, h with
    | .Compare x [p] [y] pos, h =>
      simp only [Bool.and_eq_true, Bool.not_eq_true'] at h
      obtain ⟨⟨⟨h1, h4⟩, h2⟩, h3⟩ := h
      have hp : p = o.op := of_decide_eq_true h1
      subst hp
      refine ⟨ptImp (pt_cmpR (op_cmp (cl := cl) rfl g.units o) (hE _ _ _ _ _ _ X gd h2) (hE _ _ _ _ _ _ X gd h3) h4) fun σ H Q ⟨m, env, st, sr, er, f⟩ => ?_, fun z => by cases z⟩
      refine rdE_bind (cnB Q) sr er f fun v1 st1 u1 H1 m1 x1 sr1 er1 r1 f1 => ?_
      refine rdE_bind (cnB Q) sr1 er1 f1 fun v2 st2 u2 H2 m2 x2 sr2 er2 r2 f2 => ?_
      cases q : cmpR o v1 v2 st2 with
      | none => rw [q] at f2; exact f2.elim
      | some k =>
        rw [q] at f2
        exact ⟨m2, st2, v1, v2, k, sr2, r1.mono x2, r2, q, k, rfl, FinB.val f2 sr2⟩
  | chain o q a b c =>
    rw [chkE_chain] at h
    match e, h with
    | .Compare x [p, p'] [y, z] pos, h =>
      simp only [Bool.and_eq_true, Bool.not_eq_true'] at h
      obtain ⟨⟨⟨⟨⟨h1, h1'⟩, h4⟩, h2⟩, h3⟩, h5⟩ := h
      have hp : p = o.op := of_decide_eq_true h1
      have hp' : p' = q.op := of_decide_eq_true h1'
      subst hp hp'
      refine ⟨ptImp (pt_chain (op_cmp (cl := cl) rfl g.units o) (op_cmp (cl := cl) rfl g.units q) (hE _ _ _ _ _ _ X gd h2) (hE _ _ _ _ _ _ X gd h3) (hE _ _ _ _ _ _ X gd h5) h4) fun σ H Q ⟨m, env, st, sr, er, f⟩ => ?_, fun z => by cases z⟩
      refine rdE_bind (cnB Q) sr er f fun v1 st1 u1 H1 m1 x1 sr1 er1 r1 f1 => ?_
      refine rdE_bind (cnB Q) sr1 er1 f1 fun v2 st2 u2 H2 m2 x2 sr2 er2 r2 f2 => ?_
      obtain ⟨k, hk, f3⟩ := tl_bind (cnB Q) f2
      refine ⟨m2, st2, v1, v2, k, sr2, r1.mono x2, r2, hk, k, rfl, ?_⟩
      cases k with
      | false => exact ⟨false, rfl, FinB.val f3 sr2⟩
      | true =>
        refine rdE_bind (cnB Q) sr2 er2 f3 fun v3 st3 u3 H3 m3 x3 sr3 er3 r3 f4 => ?_
        cases qq : cmpR q v2 v3 st3 with
        | none => rw [qq] at f4; exact f4.elim
        | some k =>
          rw [qq] at f4
          exact ⟨m3, st3, v2, v3, k, sr3, r2.mono x3, r3, qq, k, rfl, FinB.val f4 sr3⟩
  | v i =>
    refine other ?_ fun _ _ => rfl
    rw [chkE_v] at h
    cases e <;> first | rfl | cases h
  | c v =>
    refine other ?_ fun _ _ => rfl
    rw [chkE_c] at h
    cases e <;> first | rfl | cases h
  | g i =>
    refine other ?_ fun _ _ => rfl
    rw [chkE_g] at h
    cases e <;> first | rfl | cases h
  | bin o a b =>
    refine other ?_ fun _ _ => rfl
    rw [chkE_bin] at h
    cases e <;> first | rfl | cases h
  | cat mu a b =>
    refine other ?_ fun _ _ => rfl
    rw [chkE_cat] at h
    cases e <;> first | rfl | cases h
  | neg a =>
    refine other ?_ fun _ _ => rfl
    rw [chkE_neg] at h
    match e, h with
    | .UnaryOp .USub x pos, h => rfl
  | tup cs =>
    refine other ?_ fun _ _ => rfl
    rw [chkE_tup] at h
    cases e <;> first | rfl | cases h
  | lst mu cs =>
    refine other ?_ fun _ _ => rfl
    rw [chkE_lst] at h
    cases e <;> first | rfl | cases h
  | idx a i =>
    refine other ?_ fun _ _ => rfl
    rw [chkE_idx] at h
    cases e <;> first | rfl | cases h
  | slc a lo hi =>
    refine other ?_ fun _ _ => rfl
    rw [chkE_slc] at h
    cases e <;> first | rfl | cases h
  | nil => cases h
  | attr a f =>
    refine other ?_ fun _ _ => rfl
    rw [chkE_attr] at h
    cases e <;> first | rfl | cases h
  | call f cs =>
    refine other ?_ fun _ _ => rfl
    rw [chkE_call] at h
    cases e <;> first | rfl | cases h
  | new c mu cs =>
    refine other ?_ fun _ _ => rfl
    rw [chkE_new] at h
    cases e <;> first | rfl | cases h
  | meth a m cs =>
    refine other ?_ fun _ _ => rfl
    rw [chkE_meth] at h
    cases e <;> first | rfl | cases h
  | bi b cs =>
    refine other ?_ fun _ _ => rfl
    rw [chkE_bi] at h
    cases e <;> first | rfl | cases h
  | comp mu ce tg k its ts =>
    refine other ?_ fun _ _ => rfl
    rw [chkE_comp] at h
    cases e <;> first | rfl | cases h
end
end Pv

set_option Elab.async false
set_option linter.all false
set_option maxRecDepth 100000
set_option maxHeartbeats 2000000
/-! Targets; what a loop walks. -/
namespace Pv
open PySem PySem.Spec PyProof.Rows L2
/-- only these slots differ -/
def OnlyAt (is : List Nat) (σ σ' : L2.St) : Prop := σ'.length = σ.length ∧ ∀ i, i ∉ is → σ'[i]? = σ[i]?
theorem OnlyAt.refl (σ : L2.St) : OnlyAt [] σ σ := ⟨rfl, fun _ _ => rfl⟩
theorem OnlyAt.trans {is js : List Nat} {σ σ1 σ2 : L2.St} (a : OnlyAt is σ σ1) (b : OnlyAt js σ1 σ2) : OnlyAt (is ++ js) σ σ2 :=
  ⟨b.1.trans a.1, fun i hi => by
    rw [List.mem_append, not_or] at hi
    rw [b.2 i hi.2, a.2 i hi.1]⟩
theorem OnlyAt.set (σ : L2.St) (i : Nat) (x : Option V) : OnlyAt [i] σ (σ.set i x) :=
  ⟨by simp, fun k hk => by rw [List.mem_singleton] at hk; rw [List.getElem?_set_ne (Ne.symm hk)]⟩
theorem wipe_get {σ : L2.St} {i : Nat} : ∀ {vs : List Nat}, (wipe σ vs)[i]? = if i ∈ vs ∧ i < σ.length then some none else σ[i]?
  | [] => by simp [wipe]
  | v :: vs => by
    unfold wipe
    by_cases hi : v = i
    · subst hi
      by_cases hl : v < σ.length
      · rw [List.getElem?_set_self (by rw [wipe_length]; exact hl), if_pos ⟨by simp, hl⟩]
      · rw [if_neg (fun z => hl z.2), List.getElem?_eq_none (by simp [wipe_length]; omega), List.getElem?_eq_none (by omega)]
    · rw [List.getElem?_set_ne hi, wipe_get (vs := vs)]
      have : (i ∈ v :: vs) ↔ i ∈ vs := by simp [Ne.symm hi]
      simp only [this]
theorem OnlyAt.wipe {is : List Nat} {σ σ' : L2.St} (h : OnlyAt is σ σ') : wipe σ' is = L2.wipe σ is := by
  apply List.ext_getElem?
  intro i
  rw [wipe_get, wipe_get, h.1]
  by_cases hi : i ∈ is ∧ i < σ.length
  · rw [if_pos hi, if_pos hi]
  · rw [if_neg hi, if_neg hi]
    by_cases hm : i ∈ is
    · have : ¬ i < σ.length := fun z => hi ⟨hm, z⟩
      rw [List.getElem?_eq_none (by rw [h.1]; omega), List.getElem?_eq_none (by omega)]
    · exact h.2 i hm
section
variable (K : W.Frag) (cl : Nat → Addr)
def rdG (tg : Tg) : TG := fun v σ H Q => ∃ m env st x env', SR K cl H m st ∧ ER K cl H m env σ ∧ Rp K cl H m x v ∧ asg tg x env = some env' ∧ ∀ σ', ER K cl H m env' σ' → OnlyAt (slots tg) σ σ' → Q σ' H
def rdGs (tg : List Tg) : TGs := fun vs σ H Q => ∃ m env st xs env', SR K cl H m st ∧ ER K cl H m env σ ∧ RpL K cl H m xs vs ∧ asgs tg xs env = some env' ∧ ∀ σ', ER K cl H m env' σ' → OnlyAt (slotss tg) σ σ' → Q σ' H
end
section
variable {CX : CXT} {T : Tab} {PR : Prog} {cl fa : Nat → Addr} {fd : Nat → FuncData} {ps : Nat → List Str}
variable {j : Nat} {sc : Scope} {top : Bool} {N : List Str} {X : Cx}
theorem pgImp {e : Expr} {t t' : TG} (h : PG X e t) (k : ∀ v σ H Q, t' v σ H Q → t v σ H Q) : PG X e t' := ⟨fun pins s σ H v u Q I r q => h.run pins s σ H v u Q I r (k v σ H Q q)⟩
theorem pgsImp {e : List Expr} {t t' : TGs} (h : PGs X e t) (k : ∀ v σ H Q, t' v σ H Q → t v σ H Q) : PGs X e t' := ⟨fun pins s σ H v u Q I r q => h.run pins s σ H v u Q I r (k v σ H Q q)⟩
theorem locB_ok {x : Str} (g : Good CX T PR cl fa fd ps j sc top N X) (h : locB sc top x = true) : L2.Loc X.env.scope x ∧ (X.fn x = true ∨ X.env.scope.names.lookup x = some .local) := by
  unfold locB at h
  rw [g.sc]
  unfold L2.Loc
  split at h
  · rename_i e; exact ⟨.inl e, .inr e⟩
  · rename_i e; exact ⟨.inr e, .inl (by rw [g.fn h])⟩
  · cases h
mutual
theorem tg_ok (g : Good CX T PR cl fa fd ps j sc top N X) : ∀ (tg : Tg) (e : Expr), tgB sc top N tg e = true → PG X e (rdG X.K cl tg)
  | .n i, e, h => by
    match e, h with
    | .Name x pos, h =>
      simp only [tgB, Bool.and_eq_true] at h
      obtain ⟨l1, l2⟩ := locB_ok g h.2
      refine pgImp (pg_name (by rw [g.hN]; exact g.nd) (by rw [g.hN]; exact of_decide_eq_true h.1) l1 l2) fun v σ H Q ⟨m, env, st, x, env', sr, er, r, ha, k⟩ => ?_
      unfold asg at ha
      split at ha
      · cases ha
        exact k _ (er.set r) (OnlyAt.set σ i _)
      · cases ha
  | .t ts, e, h => by
    match e, h with
    | .Tuple es kk pos, h =>
      simp only [tgB, Bool.and_eq_true] at h
      refine pgImp (pg_tup g.calm (tgs_ok g ts es h.1) assign_len (assign_star h.2)) fun v σ H Q ⟨m, env, st, x, env', sr, er, r, ha, k⟩ => ?_
      cases x with
      | tup xs =>
        obtain ⟨a, ys, rfl, hq, rl⟩ := r
        unfold asg at ha
        exact ⟨a, ys, rfl, hq, by rw [← rl.length]; exact asgs_len ha h.1, m, env, st, xs, env', sr, er, rl, ha, k⟩
      | _ => unfold asg at ha; cases ha
theorem asgs_len {ts : List Tg} {xs : List PV} {env env' : En} {es : List Expr} (h : asgs ts xs env = some env') (hb : tgBs sc top N ts es = true) : xs.length = es.length := by
  match ts, xs, es, h, hb with
  | [], [], [], _, _ => rfl
  | t :: ts, x :: xs, e :: es, h, hb =>
    unfold asgs at h
    simp only [tgBs, Bool.and_eq_true] at hb
    cases q : asg t x env with
    | none => rw [q] at h; cases h
    | some e1 =>
      rw [q] at h
      simp [asgs_len h hb.2]
  | [], _ :: _, _, h, _ => unfold asgs at h; cases h
  | _ :: _, [], _, h, _ => unfold asgs at h; cases h
  | [], _, _ :: _, _, hb => cases hb
  | _ :: _, _, [], _, hb => cases hb
theorem tgs_ok (g : Good CX T PR cl fa fd ps j sc top N X) : ∀ (ts : List Tg) (es : List Expr), tgBs sc top N ts es = true → PGs X es (rdGs X.K cl ts)
  | [], [], h => by
    refine pgsImp pgs_nil fun vs σ H Q ⟨m, env, st, xs, env', sr, er, r, ha, k⟩ => ?_
    cases xs with
    | nil =>
      cases r
      cases ha
      exact ⟨rfl, k σ er (OnlyAt.refl σ)⟩
    | cons _ _ => unfold asgs at ha; cases ha
  | t :: ts, e :: es, h => by
    simp only [tgBs, Bool.and_eq_true] at h
    have ne : notStar e = true := by
      cases e <;> first
        | rfl
        | (cases t <;> (unfold tgB at h; have := h.1; cases this))
    refine pgsImp (pgs_cons (tg_ok g t e h.1) (tgs_ok g ts es h.2) (by rw [assign_cons ne]; rfl)) fun vs σ H Q ⟨m, env, st, xs, env', sr, er, r, ha, k⟩ => ?_
    cases xs with
    | nil => unfold asgs at ha; cases ha
    | cons x xs =>
      obtain ⟨y, zs, rfl, r1, r2⟩ := r
      unfold asgs at ha
      cases q : asg t x env with
      | none => rw [q] at ha; cases ha
      | some e1 =>
        rw [q] at ha
        exact ⟨y, zs, rfl, m, env, st, x, e1, sr, er, r1, q, fun σ1 er1 o1 => ⟨m, e1, st, xs, env', sr, er1, r2, ha, fun σ2 er2 o2 => k σ2 er2 (o1.trans o2)⟩⟩
  | [], _ :: _, h => by cases h
  | _ :: _, [], h => by cases h
end

/-! ### what a loop walks -/
/-- the walker J hands out these items, while g holds -/
structure WkOk (K : W.Frag) (cl : Nat → Addr) (m₀ : List Addr) (H₀ : Hp) (J : It) (xs : List PV) (g : Store → Prop) : Prop where
  go : ∀ {m H st i}, Ext m₀ H₀ m H → SR K cl H m st → g st → i < xs.length → J.go i H
  stop : ∀ {m H st i}, Ext m₀ H₀ m H → SR K cl H m st → g st → xs.length ≤ i → J.stop i H
  yld : ∀ {m H st i x H' v}, Ext m₀ H₀ m H → SR K cl H m st → g st → xs[i]? = some v → J.yld i H x H' → Ext m H m H' ∧ SR K cl H' m st ∧ Rp K cl H' m v x
theorem WkOk.imp {K : W.Frag} {m₀ m₁ : List Addr} {H₀ H₁ : Hp} {J : It} {xs : List PV} {g : Store → Prop} (w : WkOk K cl m₀ H₀ J xs g) (e : Ext m₀ H₀ m₁ H₁) : WkOk K cl m₁ H₁ J xs g :=
  ⟨fun x => w.go (e.trans x), fun x => w.stop (e.trans x), fun x => w.yld (e.trans x)⟩
def FinI (K : W.Frag) (cl : Nat → Addr) (m : List Addr) (H : Hp) (env : En) (σ : L2.St) (k : Ik) (res : Res (List PV)) (R : It → Hp → Prop) : Prop := match res with
  | .ok vs st' => match walk k vs st' with
    | some (xs, g) => ∀ J H' m', Ext m H m' H' → SR K cl H' m' st' → ER K cl H' m' env σ → WkOk K cl m' H' J xs g → R J H'
    | none => False
  | _ => False
def rdI (K : W.Frag) (cl : Nat → Addr) (r : Ev) (k : Ik) (cs : List Ex) : TI := fun σ H R => At K cl σ H fun m env st => FinI K cl m H env σ k (evL r cs env st) R
def iSeq (K : W.Frag) (tl : TE) : TI := fun σ H R => tl σ H fun x H1 => ∃ a, x = .ref a ∧ (((∃ xs, SqL K H1 a xs) ∧ R (Itl K a) H1) ∨ ((∃ xs, SqT K H1 a xs) ∧ R (Itt K a) H1))
theorem pi_seq {tg l : Expr} {tl : TE} (hl : PE X l tl) : PI X tg l (iSeq X.K tl) := by
  refine ⟨fun pins s σ H R I h => ?_⟩
  refine thn (hl.run pins s σ H _ I h) fun v s1 ⟨x, H1, I1, r1, q1⟩ => ?_
  obtain ⟨a, e, q⟩ := q1
  subst e
  cases r1
  rcases q with ⟨⟨xs, hq⟩, q⟩ | ⟨⟨xs, hq⟩, q⟩
  · obtain ⟨its, rv, p, hz⟩ := I1.list hq
    refine wpAny_pyIter_list p.isList ?_
    refine ⟨s1.heap.objs.size, [s1.heap.objs.size], _, _, H1, rfl, I1.kept (t' := s1.toks) fun b o e => Heap.get?_push_of_some _ e, turn_list a _, ⟨_, Heap.get?_push_size _ rfl, rfl, rfl⟩, fun b hb => ?_, q⟩
    have e : b = s1.heap.objs.size := by simpa using hb
    subst e
    exact I1.fpOk (Nat.le_refl _) (I1.hok.fresh (Nat.le_refl _))
  · obtain ⟨its, rv, p, hz⟩ := I1.tuple hq
    refine wpAny_pyIter_tuple (show s1.heap.IsTuple a its.toArray from p) ?_
    refine ⟨s1.heap.objs.size, [s1.heap.objs.size], _, _, H1, rfl, I1.kept (t' := s1.toks) fun b o e => Heap.get?_push_of_some _ e, turn_tuple a _, ⟨_, Heap.get?_push_size _ rfl, rfl, rfl⟩, fun b hb => ?_, q⟩
    have e : b = s1.heap.objs.size := by simpa using hb
    subst e
    exact I1.fpOk (Nat.le_refl _) (I1.hok.fresh (Nat.le_refl _))
theorem piImp {tg e : Expr} {t t' : TI} (h : PI X tg e t) (k : ∀ σ H R, t' σ H R → t σ H R) : PI X tg e t' := ⟨fun pins s σ H R I q => h.run pins s σ H R I (k σ H R q)⟩
theorem wk_seqL {K : W.Frag} {m : List Addr} {H : Hp} {a : Addr} {v : PV} {b : Bool} {xs : List PV} (r : Rp K cl H m v (.ref a)) (hb : b = false) : WkOk K cl m H (Itl K a) xs (fun st' => seqOf st' v = some (b, xs)) := by
  subst hb
  have look : ∀ {m1 H1 st}, Ext m H m1 H1 → SR K cl H1 m1 st → seqOf st v = some (false, xs) → ∃ ys, SqL K H1 a ys ∧ RpL K cl H1 m1 xs ys := fun {m1 H1 st} e sr g => by
    obtain ⟨p, ys, e1, rl, _, h2⟩ := seq_ok sr (r.mono e) g
    cases e1
    exact ⟨ys, .inl (.inl (h2 rfl)), rl⟩
  refine ⟨fun {m1 H1 st i} e sr g hi => ?_, fun {m1 H1 st i} e sr g hi => ?_, fun {m1 H1 st i x H' v'} e sr g hv hy => ?_⟩
  · obtain ⟨ys, hs, rl⟩ := look e sr g
    obtain ⟨y, hy, _⟩ := rl.get (List.getElem?_eq_getElem hi)
    exact ⟨ys, y, hs, hy⟩
  · obtain ⟨ys, hs, rl⟩ := look e sr g
    exact ⟨ys, hs, by rw [← rl.length]; exact hi⟩
  · obtain ⟨ys, hs, rl⟩ := look e sr g
    obtain ⟨y, hy', ry⟩ := rl.get hv
    obtain ⟨rfl, f⟩ := hy
    have : y = x := Option.some.inj (hy'.symm.trans (f ys hs))
    subst this
    exact ⟨Ext.refl _ _, sr, ry⟩
theorem wk_seqT {K : W.Frag} {m : List Addr} {H : Hp} {a : Addr} {v : PV} {b : Bool} {xs : List PV} (r : Rp K cl H m v (.ref a)) (hb : b = true) : WkOk K cl m H (Itt K a) xs (fun st' => seqOf st' v = some (b, xs)) := by
  subst hb
  have look : ∀ {m1 H1 st}, Ext m H m1 H1 → SR K cl H1 m1 st → seqOf st v = some (true, xs) → ∃ ys, SqT K H1 a ys ∧ RpL K cl H1 m1 xs ys := fun {m1 H1 st} e sr g => by
    obtain ⟨p, ys, e1, rl, h1, _⟩ := seq_ok sr (r.mono e) g
    cases e1
    exact ⟨ys, h1 rfl, rl⟩
  refine ⟨fun {m1 H1 st i} e sr g hi => ?_, fun {m1 H1 st i} e sr g hi => ?_, fun {m1 H1 st i x H' v'} e sr g hv hy => ?_⟩
  · obtain ⟨ys, hs, rl⟩ := look e sr g
    obtain ⟨y, hy, _⟩ := rl.get (List.getElem?_eq_getElem hi)
    exact ⟨ys, y, hs, hy⟩
  · obtain ⟨ys, hs, rl⟩ := look e sr g
    exact ⟨ys, hs, by rw [← rl.length]; exact hi⟩
  · obtain ⟨ys, hs, rl⟩ := look e sr g
    obtain ⟨y, hy', ry⟩ := rl.get hv
    obtain ⟨rfl, f⟩ := hy
    have : y = x := Option.some.inj (hy'.symm.trans (f ys hs))
    subst this
    exact ⟨Ext.refl _ _, sr, ry⟩
theorem wk_rng {K : W.Frag} {m : List Addr} {H : Hp} {lo : Int} {n : Nat} {f : Nat → Int} (hf : ∀ i, f i = lo + i) : WkOk K cl m H (Itr lo n) ((List.range n).map fun i => PV.int (f i)) (fun _ => True) := by
  refine ⟨fun {m1 H1 st i} e sr g hi => ?_, fun {m1 H1 st i} e sr g hi => ?_, fun {m1 H1 st i x H' v'} e sr g hv hy => ?_⟩
  · rw [List.length_map, List.length_range] at hi
    exact hi
  · rw [List.length_map, List.length_range] at hi
    exact hi
  · obtain ⟨rfl, rfl⟩ := hy
    rw [List.getElem?_map] at hv
    by_cases hi : i < n
    · rw [List.getElem?_range hi] at hv
      cases hv
      refine ⟨Ext.refl _ _, sr, ?_⟩
      show V.int (lo + i) = V.int (f i)
      rw [hf]
    · rw [List.getElem?_eq_none (by simpa using hi)] at hv
      cases hv
theorem rdI_bind {K : W.Frag} {m : List Addr} {H : Hp} {σ : L2.St} {env : En} {st : Store} {β : Type} {F : List Addr → Hp → Res β → Prop} {r : Ev} {k : Ik} {cs : List Ex} {f : List PV → (Store → Prop) → Store → Res β} {R : It → Hp → Prop} (C : Cn F) (sr : SR K cl H m st) (er : ER K cl H m env σ)
    (h : F m H ((evL r cs env st).bind fun vs st => match walk k vs st with | some (xs, g) => f xs g st | none => .bad))
    (kk : ∀ xs g st' J H' m', Ext m H m' H' → SR K cl H' m' st' → ER K cl H' m' env σ → WkOk K cl m' H' J xs g → F m' H' (f xs g st') → R J H') : rdI K cl r k cs σ H R := by
  refine ⟨m, env, st, sr, er, ?_⟩
  cases e : evL r cs env st with
  | exc x s => rw [e] at h; exact absurd h C.nx
  | bad => rw [e] at h; exact absurd h C.nb
  | ok vs st' =>
    rw [e] at h
    dsimp only [Res.bind] at h
    show FinI K cl m H env σ k (evL r cs env st) R
    rw [e]
    unfold FinI
    dsimp only
    cases w : walk k vs st' with
    | none => rw [w] at h; exact absurd h C.nb
    | some p =>
      obtain ⟨xs, g⟩ := p
      rw [w] at h
      exact fun J H' m' x s er' wk => kk xs g st' J H' m' x s er' wk (C.mono x h)
theorem si_of (hE : SEn CX T PR cl fa fd ps j) {n : Nat} (g : Good CX T PR cl fa fd ps j sc top N X) {k : Ik} {cs : List Ex} {tg e : Expr} (h : chkI T PR sc top N n k cs e = true) : PI X tg e (rdI X.K cl (ev PR j) k cs) := by
  cases k with
  | seq =>
    have h : chkL T PR sc top N n cs [e] = true := h
    obtain ⟨n', c, rfl, hc⟩ := chkL_one h
    refine piImp (pi_seq (hE sc top N n' c e X g hc)) fun σ H R ⟨m, env, st, sr, er, f⟩ => ?_
    refine ⟨m, env, st, sr, er, ?_⟩
    have f : FinI X.K cl m H env σ .seq (((ev PR j).E c env st).bind fun v st => .ok [v] st) R := f
    show Fin X.K cl m H ((ev PR j).E c env st) _
    cases q : (ev PR j).E c env st with
    | exc x s => rw [q] at f; exact f.elim
    | bad => rw [q] at f; exact f.elim
    | ok v st' =>
      rw [q] at f
      simp only [Res.bind, FinI, walk] at f
      intro u H' m' x sr' r
      cases e1 : seqOf st' v with
      | none => rw [e1] at f; exact f.elim
      | some w =>
        obtain ⟨b, xs⟩ := w
        rw [e1] at f
        obtain ⟨p, ys, rfl, rl, h1, h2⟩ := seq_ok sr' r e1
        refine ⟨p, rfl, ?_⟩
        cases b with
        | false => exact .inl ⟨⟨ys, .inl (.inl (h2 rfl))⟩, f _ H' m' x sr' (er.mono x) (wk_seqL r rfl)⟩
        | true => exact .inr ⟨⟨ys, h1 rfl⟩, f _ H' m' x sr' (er.mono x) (wk_seqT r rfl)⟩
  | rng1 =>
    match e, h with
    | .Call (.Name x p) [a] [] pos, h =>
      simp only [chkI, chkIt, Bool.and_eq_true] at h
      obtain ⟨⟨⟨h1, h2⟩, h3⟩, h4⟩ := h
      have hx : x = "range" := of_decide_eq_true h1
      subst hx
      have ns : notStar a = true := by
        cases cs with
        | nil => cases h4
        | cons c cs => simp only [chkLs, Bool.and_eq_true] at h4; exact h4.1.2
      refine piImp (pi_range1 (glB_ok h2 g.sc) (g.wf.bl _ h3) (sl_of hE g h4) (star_cons ns)) fun σ H R ⟨m, env, st, sr, er, f⟩ => ?_
      refine ⟨m, env, st, sr, er, ?_⟩
      have f : FinI X.K cl m H env σ .rng1 (evL (ev PR j) cs env st) R := f
      show FinL X.K cl m H (evL (ev PR j) cs env st) _
      cases q : evL (ev PR j) cs env st with
      | exc x s => rw [q] at f; exact f.elim
      | bad => rw [q] at f; exact f.elim
      | ok vs st' =>
        rw [q] at f
        simp only [FinI] at f
        intro us H' m' x sr' r
        have hl := (evL_len q).trans (chkL_len h4)
        match vs, hl, f, r with
        | [v], _, f, r =>
          obtain ⟨u, rfl, ru⟩ := r.one
          cases v with
          | int k =>
            cases ru
            by_cases hk : -(2 ^ 62) ≤ k ∧ k < 2 ^ 62
            · simp only [walk, if_pos hk] at f
              exact ⟨k, rfl, hk.1, hk.2, f _ H' m' x sr' (er.mono x) (wk_rng fun i => by omega)⟩
            · simp only [walk, if_neg hk] at f
          | _ => exact f.elim
  | rng2 =>
    match e, h with
    | .Call (.Name x p) [a, b] [] pos, h =>
      simp only [chkI, chkIt, Bool.and_eq_true] at h
      obtain ⟨⟨⟨h1, h2⟩, h3⟩, h4⟩ := h
      have hx : x = "range" := of_decide_eq_true h1
      subst hx
      obtain ⟨ns, ns2⟩ : notStar a = true ∧ notStar b = true := by
        match cs, h4 with
        | [c, d], h4 =>
          simp only [chkLs, Bool.and_eq_true] at h4
          exact ⟨h4.1.2, h4.2.1.2⟩
        | [], h4 => cases h4
        | [_], h4 => simp only [chkLs, Bool.and_false] at h4; cases h4
        | _ :: _ :: _ :: _, h4 => simp only [chkLs, Bool.and_false] at h4; cases h4
      refine piImp (pi_range2 (glB_ok h2 g.sc) (g.wf.bl _ h3) (sl_of hE g h4) (by rw [star_cons ns, star_cons ns2]; rfl) (star_cons ns2)) fun σ H R ⟨m, env, st, sr, er, f⟩ => ?_
      refine ⟨m, env, st, sr, er, ?_⟩
      have f : FinI X.K cl m H env σ .rng2 (evL (ev PR j) cs env st) R := f
      show FinL X.K cl m H (evL (ev PR j) cs env st) _
      cases q : evL (ev PR j) cs env st with
      | exc x s => rw [q] at f; exact f.elim
      | bad => rw [q] at f; exact f.elim
      | ok vs st' =>
        rw [q] at f
        simp only [FinI] at f
        intro us H' m' x sr' r
        have hl := (evL_len q).trans (chkL_len h4)
        match vs, hl, f, r with
        | [v, w], _, f, r =>
          obtain ⟨u, u2, rfl, ru, ru2⟩ := r.two
          cases v with
          | int k =>
            cases w with
            | int l =>
              cases ru
              cases ru2
              by_cases hk : -(2 ^ 62) ≤ k ∧ k < 2 ^ 62 ∧ -(2 ^ 62) ≤ l ∧ l < 2 ^ 62
              · simp only [walk, if_pos hk] at f
                exact ⟨k, l, rfl, hk, f _ H' m' x sr' (er.mono x) (wk_rng fun i => rfl)⟩
              · simp only [walk, if_neg hk] at f
            | _ => exact f.elim
          | _ => exact f.elim
  | _ => cases h
end
end Pv

set_option Elab.async false
set_option linter.all false
set_option maxRecDepth 100000
set_option maxHeartbeats 2000000
/-! Comprehensions. -/
namespace Pv
open PySem PySem.Spec PyProof.Rows L2
theorem wipe_idem (σ : L2.St) (vs : List Nat) : wipe (wipe σ vs) vs = wipe σ vs := by
  apply List.ext_getElem?
  intro i
  rw [wipe_get, wipe_get, wipe_length]
  by_cases hi : i ∈ vs ∧ i < σ.length
  · simp only [if_pos hi]
  · simp only [if_neg hi]
section
variable {K : W.Frag} {cl : Nat → Addr} {m m' : List Addr} {H H' : Hp} {σ : L2.St} {env : En} {st st' : Store} {p a : Addr}
theorem wipeE_length (env : En) : ∀ vs : List Nat, (wipeE env vs).length = env.length
  | [] => rfl
  | v :: vs => by unfold wipeE; rw [List.length_set, wipeE_length env vs]
theorem wipeE_some {i : Nat} {x : PV} : ∀ {vs : List Nat}, (wipeE env vs)[i]? = some (some x) → env[i]? = some (some x) ∧ i ∉ vs
  | [], h => ⟨h, by simp⟩
  | v :: vs, h => by
    unfold wipeE at h
    by_cases hi : v = i
    · subst hi
      by_cases hv : v < (wipeE env vs).length
      · rw [List.getElem?_set_self hv] at h; cases h
      · rw [List.getElem?_eq_none (by simpa using hv)] at h; cases h
    · rw [List.getElem?_set_ne hi] at h
      obtain ⟨h1, h2⟩ := wipeE_some h
      exact ⟨h1, by simp only [List.mem_cons, not_or]; exact ⟨fun e => hi e.symm, h2⟩⟩
theorem ER.wipe (er : ER K cl H m env σ) (vs : List Nat) : ER K cl H m (wipeE env vs) (L2.wipe σ vs) := by
  refine ⟨by rw [wipeE_length, wipe_length, er.1], fun i x e => ?_⟩
  obtain ⟨h1, h2⟩ := wipeE_some e
  obtain ⟨v, hv, r⟩ := er.2 i x h1
  exact ⟨v, by rw [wipe_get, if_neg (fun z => h2 z.1)]; exact hv, r⟩
def FinU (K : W.Frag) (cl : Nat → Addr) (m : List Addr) (H : Hp) (res : Res Unit) (Q : Hp → Prop) : Prop := match res with
  | .ok _ st' => ∀ H' m', Ext m H m' H' → SR K cl H' m' st' → Q H'
  | _ => False
theorem cnU (Q : Hp → Prop) : Cn (fun m H res => FinU K cl m H res Q) := ⟨fun {m m' H H' res} e h => by
  cases res with
  | ok v st => exact fun H2 m2 e2 => h H2 m2 (e.trans e2)
  | exc _ _ => exact h
  | bad => exact h, fun h => h, fun h => h⟩
theorem push_ok {d : Nat} {y : PV} {v : V} {D : Addr} (sr : SR K cl H m st) (hD : m[d]? = some D) (r : Rp K cl H m y v) (h : push d y st = some st') :
    ∃ acc, H D = some (.lst acc) ∧ acc.length < sizeLine ∧ Ext m H m (upd H D (.lst (acc ++ [v]))) ∧ SR K cl (upd H D (.lst (acc ++ [v]))) m st' := by
  unfold push at h
  cases e : st[d]? with
  | none => rw [e] at h; cases h
  | some o =>
    rw [e] at h
    cases o with
    | ins c fs => cases h
    | lst xs =>
      dsimp only at h
      split at h
      case isFalse => cases h
      rename_i hl
      cases h
      obtain ⟨u, hu, acc, rfl, rl⟩ := sr.at_ d D _ hD e
      refine ⟨acc, hu, by rw [← rl.length]; exact hl, ?_⟩
      exact setO (x := .lst (xs ++ [y])) (o := .lst (acc ++ [v])) sr hD (List.getElem?_eq_some_iff.mp e).1 (by rw [hu]; exact trivial) ⟨_, rfl, rl.append ⟨v, [], rfl, r, rfl⟩⟩
end
section
variable {CX : CXT} {T : Tab} {PR : Prog} {cl fa : Nat → Addr} {fd : Nat → FuncData} {ps : Nat → List Str}
variable {j : Nat} {sc : Scope} {top : Bool} {N : List Str} {X : Cx} {n : Nat}
theorem Good.blk (g : Good CX T PR cl fa fd ps j sc top N X) (s : Shared) (H : Hp) (scope : Scope) (cls : List (Str × Addr)) (C : Addr) (fp : List Addr) (hk : scope.kind = .function) : Good CX T PR cl fa fd ps j (relS scope sc) false N (X.blk s H scope (compEnvC scope cls C X.env) fp) :=
  ⟨g.wf, g.fo, g.hN, g.nd, hk, by rw [← g.sc]; rfl, g.calm, g.room, g.pass, rfl, fun z => by cases z⟩
def rdTs (K : W.Frag) (cl : Nat → Addr) (r : Ev) : List Ex → TT
  | [] => tYes
  | [c] => rdT K cl r c
  | _ => fun _ _ _ => False
/-- a comprehension's reading -/
theorem lc_read {r : Ev} {mu : Bool} {ce : Ex} {tg : Tg} {k : Ik} {its ts : List Ex} {K : W.Frag} {m : List Addr} {H : Hp} {σ : L2.St} {env : En} {st : Store} {Q : VK} (sr : SR K cl H m st) (er : ER K cl H m env σ) (f : Fin K cl m H (comp r mu ce tg k its ts env st) Q) :
    tLc (rdI K cl r k its) (rdG K cl tg) (rdTs K cl r ts) (rdE K cl r ce) (slots tg) σ H Q := by
  unfold comp at f
  refine rdI_bind (cnE Q) sr er f fun xs g st1 J H1 m1 x1 sr1 er1 wk f1 => ?_
  intro D hD
  obtain ⟨xD, srD, rD⟩ := newO (x := .lst []) (o := .lst []) sr1 ⟨[], rfl, rfl⟩ hD
  have atD : (m1 ++ [D])[st1.length]? = some D := by
    obtain ⟨a, e, q⟩ := rD
    cases e
    exact q
  have fu : FinU K cl (m1 ++ [D]) (upd H1 D (.lst [])) (compL r ce tg ts g st1.length (wipeE env (slots tg)) xs (st1 ++ [.lst []])) (fun H' => Q (.ref D) H') := by
    cases e : compL r ce tg ts g st1.length (wipeE env (slots tg)) xs (st1 ++ [.lst []]) with
    | exc _ _ => rw [e] at f1; exact f1.elim
    | bad => rw [e] at f1; exact f1.elim
    | ok z st' =>
      rw [e] at f1
      simp only [Res.bind] at f1
      intro H' m' x' sr'
      have rp : Rp K cl H' m' (.ref st1.length) (.ref D) := rD.mono x'
      cases mu with
      | true => exact f1 _ H' m' (xD.trans x') sr' rp
      | false =>
        simp only [Bool.false_eq_true, if_false] at f1
        cases q : done st1 false (.ref st1.length) st' with
        | exc _ _ => rw [q] at f1; exact f1.elim
        | bad => rw [q] at f1; exact f1.elim
        | ok w st2 =>
          rw [q] at f1
          obtain ⟨m2, y1, y2, y3⟩ := done_ok sr1 (xD.trans x') sr' rp q
          exact f1 _ H' m2 y1 y2 y3
  let S : Nat → Hp → Prop := fun i H' => ∃ m' st', Ext (m1 ++ [D]) (upd H1 D (.lst [])) m' H' ∧ SR K cl H' m' st' ∧ FinU K cl m' H' (compL r ce tg ts g st1.length (wipeE env (slots tg)) (xs.drop i) st') (fun H' => Q (.ref D) H')
  refine ⟨fun i mm H' => mm = xs.length - i ∧ i ≤ xs.length ∧ S i H', ⟨_, rfl, Nat.zero_le _, m1 ++ [D], _, Ext.refl _ _, srD, fu⟩, ?_⟩
  rintro i mm H' ⟨rfl, hi, m', st', x', sr', fi⟩
  have xx := xD.trans x'
  by_cases hlt : i < xs.length
  · rw [List.drop_eq_getElem_cons hlt] at fi
    unfold compL at fi
    by_cases hg : g st'
    case neg => rw [if_neg hg] at fi; exact fi.elim
    rw [if_pos hg] at fi
    refine .inr ⟨wk.go xx sr' hg hlt, S (i + 1), fun H'' s => ⟨_, by omega, rfl, hlt, s⟩, fun x H2 hy => ?_⟩
    obtain ⟨y1, y2, y3⟩ := wk.yld xx sr' hg (List.getElem?_eq_getElem hlt) hy
    cases ea : asg tg xs[i] (wipeE env (slots tg)) with
    | none => rw [ea] at fi; exact fi.elim
    | some env' =>
      rw [ea] at fi
      refine ⟨m', _, st', xs[i], env', y2, (er1.mono (xx.trans y1)).wipe _, y3, ea, fun σ2 er2 o2 => ⟨by rw [o2.wipe, wipe_idem], ?_⟩⟩
      have fi := (cnU _).mono y1 fi
      have rest : ∀ {m3 H3 st3 b}, Ext m' H2 m3 H3 → SR K cl H3 m3 st3 → ER K cl H3 m3 env' σ2 → FinU K cl m3 H3 (if b = true then (r.E ce env' st3).bind fun y st => match push st1.length y st with
          | some st => compL r ce tg ts g st1.length (wipeE env (slots tg)) (xs.drop (i + 1)) st
          | none => .bad
        else compL r ce tg ts g st1.length (wipeE env (slots tg)) (xs.drop (i + 1)) st3) (fun H' => Q (.ref D) H') →
          if b = true then rdE K cl r ce σ2 H3 fun y H4 => ∃ acc, H4 D = some (.lst acc) ∧ acc.length < sizeLine ∧ S (i + 1) (upd H4 D (.lst (acc ++ [y]))) else S (i + 1) H3 := fun {m3 H3 st3 b} x3 sr3 er3 f3 => by
        cases b with
        | false => exact ⟨m3, st3, x'.trans (y1.trans x3), sr3, f3⟩
        | true =>
          simp only [if_true] at f3 ⊢
          refine rdE_bind (cnU _) sr3 er3 f3 fun v4 st4 u4 H4 m4 x4 sr4 er4 r4 f4 => ?_
          have hD4 : m4[st1.length]? = some D := (x'.trans (y1.trans (x3.trans x4))).at_ atD
          cases q : push st1.length v4 st4 with
          | none => rw [q] at f4; exact f4.elim
          | some st5 =>
            rw [q] at f4
            obtain ⟨acc, h1, h2, h3, h4⟩ := push_ok sr4 hD4 r4 q
            exact ⟨acc, h1, h2, m4, st5, (x'.trans (y1.trans (x3.trans x4))).trans h3, h4, (cnU _).mono h3 f4⟩
      match ts, fi with
      | [], fi => exact rest (b := true) (Ext.refl _ _) y2 er2 fi
      | [t], fi => exact rdT_bind (cnU _) y2 er2 fi fun b st3 H3 m3 x3 sr3 er3 f3 => rest x3 sr3 er3 f3
      | _ :: _ :: _, fi => exact fi.elim
  · have e : i = xs.length := by omega
    subst e
    rw [List.drop_length] at fi
    unfold compL at fi
    by_cases hg : g st'
    case neg => rw [if_neg hg] at fi; exact fi.elim
    rw [if_pos hg] at fi
    exact .inl ⟨wk.stop xx sr' hg (Nat.le_refl _), fi H' m' (Ext.refl _ _) sr'⟩
/-- the parts of a comprehension -/
theorem lc_parts (hE : SEn CX T PR cl fa fd ps j) (hT : STn CX T PR cl fa fd ps j) (g : Good CX T PR cl fa fd ps (j + 1) sc top N X) {mu : Bool} {ce : Ex} {tg : Tg} {k : Ik} {its ts : List Ex} {e : Expr} (h : chkE T PR sc top N (n + 1) (.comp mu ce tg k its ts) e = true) :
    ∃ elt t iter ifs scope pos, e = .ListComp elt [⟨t, iter, ifs, 0⟩] scope pos ∧ PI X t iter (rdI X.K cl (ev PR j) k its) ∧ BlkOk X.N X.env.scope scope (ownN N (slots tg)) ∧ (ownN N (slots tg)).map (·.2) = slots tg ∧
      (∀ (s : Shared) (H : Hp) (C : Addr) (cls : List (Str × Addr)) (fp : List Addr), PG (X.blk s H scope (compEnvC scope cls C X.env) fp) t (rdG X.K cl tg)) ∧
      (∀ (s : Shared) (H : Hp) (C : Addr) (cls : List (Str × Addr)) (fp : List Addr), PTs (X.blk s H scope (compEnvC scope cls C X.env) fp) ifs (rdTs X.K cl (ev PR j) ts)) ∧
      (∀ (s : Shared) (H : Hp) (C : Addr) (cls : List (Str × Addr)) (fp : List Addr), PE (X.blk s H scope (compEnvC scope cls C X.env) fp) elt (rdE X.K cl (ev PR j) ce)) ∧ ∀ x, foldedSetIterable iter X.env x = pure x := by
  rw [chkE_comp] at h
  match e, h with
  | .ListComp elt [⟨t, iter, ifs, 0⟩] scope pos, h =>
    simp only [Bool.and_eq_true] at h
    obtain ⟨⟨⟨⟨⟨⟨h1, h2⟩, h3⟩, h4⟩, h5⟩, h6⟩, h7⟩ := h
    have gd := g.down (Nat.le_succ j)
    have hk := (blkOk_by h2).kind
    refine ⟨elt, t, iter, ifs, scope, pos, rfl, si_of hE gd h1, by rw [g.hN, g.sc]; exact blkOk_by h2, of_decide_eq_true h3, fun s H C cls fp => tg_ok (gd.blk s H scope cls C fp hk) tg t h4, fun s H C cls fp => ?_, fun s H C cls fp => hE _ _ _ _ _ _ _ (gd.blk s H scope cls C fp hk) h5, fun x => notSet_ok h7 x⟩
    match ts, ifs, h6 with
    | [], [], _ => exact pts_nil
    | [c], [i], h6 => exact pts_one (hT _ _ _ _ _ _ _ (gd.blk s H scope cls C fp hk) h6).1
theorem sc_ok (hE : SEn CX T PR cl fa fd ps j) (hT : STn CX T PR cl fa fd ps j) : SCn CX T PR cl fa fd ps j := by
  intro sc top N n mu ce tg k its ts e X g h
  obtain ⟨elt, t, iter, ifs, scope, pos, rfl, p1, p2, p3, p4, p5, p6, p7⟩ := lc_parts hE hT g h
  refine peImp (pe_lc g.calm (by rw [g.hN]; exact g.nd) p1 p2 p4 p5 p6 p7) fun σ H Q ⟨m, env, st, sr, er, f⟩ => ?_
  rw [p3]
  exact lc_read sr er f
end
end Pv

set_option Elab.async false
set_option linter.all false
set_option maxRecDepth 100000
set_option maxHeartbeats 2000000
/-! Statements. -/
namespace Pv
open PySem PySem.Spec PyProof.Rows L2
def notTup : Expr → Bool
  | .Tuple _ _ _ => false
  | _ => true
theorem notTup_ok {ts : List Expr} {e : Expr} {env : Env} (h : notTup e = true) : swappedStores ts e env = pure none := by
  unfold swappedStores
  split
  · rename_i x ts vs he
    split at he
    · cases h
    · cases h
    · cases he
  · rfl
theorem sub_stores {o i : Expr} {p : Pos} {e : Expr} {env : Env} : swappedStores [.Subscript o i p] e env = pure none := by
  unfold swappedStores
  rfl
/-- whether a comprehension's store comes within -/
def swB (sc : Scope) (e : Expr) (y : Str) (p : Pos) : Bool := match e with
  | .ListComp _ _ s pos => decide (sc.names.lookup y = some .local) && (p.line == pos.line) && !(s.names.any fun (n, k) => n == y && (k == .local || k == .cell))
  | _ => false
theorem swB_ok {sc : Scope} {e : Expr} {y : Str} {p : Pos} {l : Nat} {env : Env} (hs : env.scope = sc) (hk : sc.kind = .function) (hc : (match e with | .SetComp _ _ _ _ => false | .DictComp _ _ _ _ _ => false | _ => true) = true) :
    swapsWith e (some (.Name y p)) l env = pure (swB sc e y p) := by
  have hb : env.blockKind = .function := by unfold Env.blockKind; rw [hs, hk]; rfl
  cases e with
  | ListComp elt gs s pos =>
    unfold swapsWith swB
    simp only [hb]
    have : (env.kindOf y == some NameKind.local) = decide (sc.names.lookup y = some .local) := by
      unfold Env.kindOf
      rw [hs]
      by_cases q : sc.names.lookup y = some .local
      · rw [q]; simp
      · rw [decide_eq_false q]; exact beq_eq_false_iff_ne.mpr q
    rw [this]
    rfl
  | SetComp _ _ _ _ => cases hc
  | DictComp _ _ _ _ _ => cases hc
  | _ => rfl
def parB (sc : Scope) (x y : Str) (px py : Pos) (a b : Expr) : Bool := decide (sc.names.lookup x = some .local) && decide (sc.names.lookup y = some .local) && (py.line == px.line) && decide (x ≠ y) && notStar a && notStar b && !(foldedForSure 8 a && foldedForSure 8 b) && !(constantsAlone 8 a && constantsAlone 8 b)
theorem parB_ok {sc : Scope} {x y : Str} {px py pt pt2 : Pos} {kt k2 : Nat} {a b : Expr} {env : Env} (hs : env.scope = sc) (hk : sc.kind = .function) (h : parB sc x y px py a b = true) :
    swappedStores [.Tuple [.Name x px, .Name y py] kt pt] (.Tuple [a, b] k2 pt2) env = pure (some [x, y]) := by
  simp only [parB, Bool.and_eq_true, Bool.not_eq_true'] at h
  obtain ⟨⟨⟨⟨⟨⟨⟨h1, h2⟩, h3⟩, h4⟩, h5⟩, h6⟩, h7⟩, h8⟩ := h
  have hb : env.blockKind = .function := by unfold Env.blockKind; rw [hs, hk]; rfl
  have kx : env.kindOf x = some .local := by unfold Env.kindOf; rw [hs]; exact of_decide_eq_true h1
  have ky : env.kindOf y = some .local := by unfold Env.kindOf; rw [hs]; exact of_decide_eq_true h2
  have hxy : x ≠ y := of_decide_eq_true h4
  have hl : (py.line == px.line) = true := h3
  have ed : ([x, y] : List Str).eraseDups = [x, y] := by
    have : (y == x) = false := beq_eq_false_iff_ne.mpr (Ne.symm hxy)
    simp [List.eraseDups_cons, this, Ne.symm hxy]
  unfold swappedStores
  simp only [hb, kx, ky, List.any_cons, List.any_nil, List.all_cons, List.all_nil, Bool.and_true, Bool.or_false, h7, h8, List.filterMap_cons, List.filterMap_nil, List.head?_cons, Option.map_some, Option.getD_some, Expr.pos, hl, beq_self_eq_true, if_true, List.length_cons, List.length_nil]
  rw [if_neg (by decide), if_neg, if_neg]
  · rfl
  · rw [ed]
    simp
  · intro z
    rw [Bool.or_eq_true] at z
    rcases z with z | z
    · cases a <;> first
        | (cases h5; done)
        | cases z
    · cases b <;> first
        | (cases h6; done)
        | cases z
def isComp : Ex → Bool
  | .comp _ _ _ _ _ _ => true
  | _ => false
def notSD : Expr → Bool
  | .SetComp _ _ _ _ => false
  | .DictComp _ _ _ _ _ => false
  | _ => true
def chkSs (r : Sm → Stmt → Bool) : List Sm → List Stmt → Bool
  | [], [] => true
  | c :: cs, s :: ss => r c s && chkSs r cs ss
  | _, _ => false
/-- n: how deep expressions are looked at -/
def chkSt (T : Tab) (PR : Prog) (sc : Scope) (N : List Str) (n : Nat) (rc : Sm → Stmt → Bool) (c : Sm) (s : Stmt) : Bool := match c with
  | .set t c => match s with
    | .Assign [.Name x p] e _ => tgB sc true N t (.Name x p) && chkE T PR sc true N n c e && notSD e && (!swB sc e x p || isComp c)
    | .Assign [.Tuple ts k p] e _ => tgB sc true N t (.Tuple ts k p) && chkE T PR sc true N n c e && notComp e && notTup e
    | _ => false
  | .par i j a b => match s with
    | .Assign [.Tuple [.Name x px, .Name y py] _ _] (.Tuple [ea, eb] _ _) _ => decide (N[i]? = some x) && decide (N[j]? = some y) && decide (i ≠ j) && parB sc x y px py ea eb && chkL T PR sc true N n [a, b] [ea, eb]
    | _ => false
  | .aug _ _ _ => false
  | .setIx a i c => match s with
    | .Assign [.Subscript o ix _] e _ => plainIx ix && chkE T PR sc true N n a o && chkE T PR sc true N n i ix && chkE T PR sc true N n c e && notComp e
    | _ => false
  | .swap _ _ _ _ _ _ => false
  | .setAt a f c => match s with
    | .Assign [.Attribute o g _] e _ => decide (f = g) && chkE T PR sc true N n a o && chkE T PR sc true N n c e && notComp e
    | _ => false
  | .ex c => match s with
    | .Expr e _ => chkE T PR sc true N n c e && notComp e
    | _ => false
  | .app a c => match s with
    | .Expr (.Call (.Attribute o m apos) [e] [] pos) _ => decide (m = "append") && plainBase o && (apos.endLine == pos.line) && notStar e && chkE T PR sc true N n a o && chkE T PR sc true N n c e
    | _ => false
  | .ext a c => match s with
    | .Expr (.Call (.Attribute o m apos) [e] [] pos) _ => decide (m = "extend") && plainBase o && (apos.endLine == pos.line) && notStar e && chkE T PR sc true N n a o && chkE T PR sc true N n c e
    | _ => false
  | .ite c a b => match s with
    | .If t x y _ => chkE T PR sc true N n c t && chkSs rc a x && chkSs rc b y
    | _ => false
  | .whl c b => match s with
    | .While t x [] _ => chkE T PR sc true N n c t && chkSs rc b x
    | _ => false
  | .for_ tg k its b => match s with
    | .For t iter x [] _ => tgB sc true N tg t && chkI T PR sc true N n k its iter && chkSs rc b x && notSet iter
    | _ => false
  | .ret c => match s with
    | .Return (some e) _ => chkE T PR sc true N n c e
    | _ => false
  | .retN => match s with
    | .Return none _ => true
    | _ => false
  | .brk => match s with | .Break _ => true | _ => false
  | .cnt => match s with | .Continue _ => true | _ => false
  | .pass => match s with | .Pass _ => true | _ => false
  | .bad => true
section
variable {T : Tab} {PR : Prog} {sc : Scope} {N : List Str} {n : Nat} {rc : Sm → Stmt → Bool} {s : Stmt}
theorem chkSt_set (t : Tg) (c : Ex) : chkSt T PR sc N n rc (.set t c) s = (match s with
  | .Assign [.Name x p] e _ => tgB sc true N t (.Name x p) && chkE T PR sc true N n c e && notSD e && (!swB sc e x p || isComp c)
  | .Assign [.Tuple ts k p] e _ => tgB sc true N t (.Tuple ts k p) && chkE T PR sc true N n c e && notComp e && notTup e
  | _ => false) := rfl
theorem chkSt_par (i j : Nat) (a b : Ex) : chkSt T PR sc N n rc (.par i j a b) s = (match s with
  | .Assign [.Tuple [.Name x px, .Name y py] _ _] (.Tuple [ea, eb] _ _) _ => decide (N[i]? = some x) && decide (N[j]? = some y) && decide (i ≠ j) && parB sc x y px py ea eb && chkL T PR sc true N n [a, b] [ea, eb]
  | _ => false) := rfl
theorem chkSt_setIx (a i c : Ex) : chkSt T PR sc N n rc (.setIx a i c) s = (match s with
  | .Assign [.Subscript o ix _] e _ => plainIx ix && chkE T PR sc true N n a o && chkE T PR sc true N n i ix && chkE T PR sc true N n c e && notComp e
  | _ => false) := rfl
theorem chkSt_setAt (a : Ex) (f : Str) (c : Ex) : chkSt T PR sc N n rc (.setAt a f c) s = (match s with
  | .Assign [.Attribute o g _] e _ => decide (f = g) && chkE T PR sc true N n a o && chkE T PR sc true N n c e && notComp e
  | _ => false) := rfl
theorem chkSt_ex (c : Ex) : chkSt T PR sc N n rc (.ex c) s = (match s with
  | .Expr e _ => chkE T PR sc true N n c e && notComp e
  | _ => false) := rfl
theorem chkSt_app (a c : Ex) : chkSt T PR sc N n rc (.app a c) s = (match s with
  | .Expr (.Call (.Attribute o m apos) [e] [] pos) _ => decide (m = "append") && plainBase o && (apos.endLine == pos.line) && notStar e && chkE T PR sc true N n a o && chkE T PR sc true N n c e
  | _ => false) := rfl
theorem chkSt_ext (a c : Ex) : chkSt T PR sc N n rc (.ext a c) s = (match s with
  | .Expr (.Call (.Attribute o m apos) [e] [] pos) _ => decide (m = "extend") && plainBase o && (apos.endLine == pos.line) && notStar e && chkE T PR sc true N n a o && chkE T PR sc true N n c e
  | _ => false) := rfl
theorem chkSt_ite (c : Ex) (a b : List Sm) : chkSt T PR sc N n rc (.ite c a b) s = (match s with
  | .If t x y _ => chkE T PR sc true N n c t && chkSs rc a x && chkSs rc b y
  | _ => false) := rfl
theorem chkSt_whl (c : Ex) (b : List Sm) : chkSt T PR sc N n rc (.whl c b) s = (match s with
  | .While t x [] _ => chkE T PR sc true N n c t && chkSs rc b x
  | _ => false) := rfl
theorem chkSt_for_ (tg : Tg) (k : Ik) (its : List Ex) (b : List Sm) : chkSt T PR sc N n rc (.for_ tg k its b) s = (match s with
  | .For t iter x [] _ => tgB sc true N tg t && chkI T PR sc true N n k its iter && chkSs rc b x && notSet iter
  | _ => false) := rfl
theorem chkSt_ret (c : Ex) : chkSt T PR sc N n rc (.ret c) s = (match s with
  | .Return (some e) _ => chkE T PR sc true N n c e
  | _ => false) := rfl
theorem chkSt_retN  : chkSt T PR sc N n rc (.retN) s = (match s with
  | .Return none _ => true
  | _ => false) := rfl
theorem chkSt_brk  : chkSt T PR sc N n rc (.brk) s = (match s with | .Break _ => true | _ => false) := rfl
theorem chkSt_cnt  : chkSt T PR sc N n rc (.cnt) s = (match s with | .Continue _ => true | _ => false) := rfl
theorem chkSt_pass  : chkSt T PR sc N n rc (.pass) s = (match s with | .Pass _ => true | _ => false) := rfl
end
def chkS (T : Tab) (PR : Prog) (sc : Scope) (N : List Str) (n : Nat) : Nat → Sm → Stmt → Bool
  | 0 => fun _ _ => false
  | k + 1 => chkSt T PR sc N n (chkS T PR sc N n k)
section
variable {CX : CXT} {T : Tab} {PR : Prog} {cl fa : Nat → Addr} {fd : Nat → FuncData} {ps : Nat → List Str}
theorem psImp {X : Cx} {s : Stmt} {t t' : TS} (h : PS X s t) (k : ∀ D σ H, t' D σ H → t D σ H) : PS X s t' := ⟨fun pins s σ H D I q => h.run pins s σ H D I (k D σ H q)⟩
theorem pssImp {X : Cx} {s : List Stmt} {t t' : TS} (h : PSs X s t) (k : ∀ D σ H, t' D σ H → t D σ H) : PSs X s t' := ⟨fun pins s σ H D I q => h.run pins s σ H D I (k D σ H q)⟩
theorem psF {X : Cx} {s : Stmt} {t : TS} (k : ∀ D σ H, ¬ t D σ H) : PS X s t := ⟨fun pins s σ H D I q => (k D σ H q).elim⟩
variable (CX T PR cl fa fd ps)
def SSn (j : Nat) : Prop := ∀ sc N n k c s X, Good CX T PR cl fa fd ps j sc true N X → chkS T PR sc N n k c s = true → PS X s (rdS X.K cl (ev PR j) c)
variable {CX T PR cl fa fd ps}
/-- a block -/
theorem sb_of {j : Nat} (hS : SSn CX T PR cl fa fd ps j) {n k : Nat} {X : Cx} {sc : Scope} {N : List Str} (g : Good CX T PR cl fa fd ps j sc true N X) : ∀ {cs : List Sm} {ss : List Stmt}, chkSs (chkS T PR sc N n k) cs ss = true → PSs X ss (rdB X.K cl (ev PR j) cs)
  | [], [], h => by
    refine pssImp pss_nil fun D σ H ⟨m, env, st, sr, er, f⟩ => ?_
    exact f σ H m (Ext.refl _ _) sr er
  | c :: cs, s :: ss, h => by
    simp only [chkSs, Bool.and_eq_true] at h
    refine pssImp (pss_cons (hS sc N n k c s X g h.1) (sb_of hS g h.2)) fun D σ H ⟨m, env, st, sr, er, f⟩ => ?_
    refine ⟨m, env, st, sr, er, ?_⟩
    have f : FinS X.K cl m H (((ev PR j).S c env st).bind fun a st => match a with
      | (.nx, env) => blk (ev PR j) cs env st
      | (f, env) => .ok (f, env) st) D := f
    show FinS X.K cl m H ((ev PR j).S c env st) _
    cases e : (ev PR j).S c env st with
    | exc _ _ => rw [e] at f; exact f.elim
    | bad => rw [e] at f; exact f.elim
    | ok a st' =>
      rw [e] at f
      obtain ⟨fl, env'⟩ := a
      cases fl with
      | nx => exact fun σ' H' m' x sr' er' => ⟨m', env', st', sr', er', FinS.mono x f⟩
      | ret v => exact f
      | bk => exact f
      | ct => exact f
  | [], _ :: _, h => by cases h
  | _ :: _, [], h => by cases h
theorem ss_zero : SSn CX T PR cl fa fd ps 0 := fun sc N n k c s X g h => psF fun D σ H ⟨m, env, st, sr, er, f⟩ => f
end
end Pv

set_option Elab.async false
set_option linter.all false
set_option maxRecDepth 100000
set_option maxHeartbeats 1000000
/-! Statements, one step. -/
namespace Pv
open PySem PySem.Spec PyProof.Rows L2
section
variable {T : Tab} {PR : Prog} {sc : Scope} {N : List Str} {n : Nat} {rc : Sm → Stmt → Bool} {s : Stmt}
theorem inv_ite {c : Ex} {a b : List Sm} (h : chkSt T PR sc N n rc (.ite c a b) s = true) : ∃ t x y pos, s = .If t x y pos ∧ chkE T PR sc true N n c t = true ∧ chkSs rc a x = true ∧ chkSs rc b y = true := by
  rw [chkSt_ite] at h
  cases s with
  | If t x y pos =>
    simp only [Bool.and_eq_true] at h
    exact ⟨t, x, y, pos, rfl, h.1.1, h.1.2, h.2⟩
  | _ => cases h
theorem inv_set {t : Tg} {c : Ex} (h : chkSt T PR sc N n rc (.set t c) s = true) : (∃ x p e pos, s = .Assign [.Name x p] e pos ∧ tgB sc true N t (.Name x p) = true ∧ chkE T PR sc true N n c e = true ∧ notSD e = true ∧ (!swB sc e x p || isComp c) = true) ∨
    ∃ ts k p e pos, s = .Assign [.Tuple ts k p] e pos ∧ tgB sc true N t (.Tuple ts k p) = true ∧ chkE T PR sc true N n c e = true ∧ notComp e = true ∧ notTup e = true := by
  rw [chkSt_set] at h
  cases s with
  | Assign tgs e pos =>
    cases tgs with
    | nil => cases h
    | cons tg r =>
      cases r with
      | cons _ _ => cases tg <;> cases h
      | nil =>
        cases tg with
        | Name x p =>
          simp only [Bool.and_eq_true] at h
          exact .inl ⟨x, p, e, pos, rfl, h.1.1.1, h.1.1.2, h.1.2, h.2⟩
        | Tuple ts k p =>
          simp only [Bool.and_eq_true] at h
          exact .inr ⟨ts, k, p, e, pos, rfl, h.1.1.1, h.1.1.2, h.1.2, h.2⟩
        | _ => cases h
  | _ => cases h
theorem inv_par {i j : Nat} {a b : Ex} (h : chkSt T PR sc N n rc (.par i j a b) s = true) : ∃ x px y py kt pt ea eb k2 pt2 pos, s = .Assign [.Tuple [.Name x px, .Name y py] kt pt] (.Tuple [ea, eb] k2 pt2) pos ∧ decide (N[i]? = some x) = true ∧ decide (N[j]? = some y) = true ∧ decide (i ≠ j) = true ∧
    parB sc x y px py ea eb = true ∧ chkL T PR sc true N n [a, b] [ea, eb] = true := by
  rw [chkSt_par] at h
  split at h
  · simp only [Bool.and_eq_true] at h
    exact ⟨_, _, _, _, _, _, _, _, _, _, _, rfl, h.1.1.1.1, h.1.1.1.2, h.1.1.2, h.1.2, h.2⟩
  · cases h
theorem inv_setIx {a i c : Ex} (h : chkSt T PR sc N n rc (.setIx a i c) s = true) : ∃ o ix p e pos, s = .Assign [.Subscript o ix p] e pos ∧ plainIx ix = true ∧ chkE T PR sc true N n a o = true ∧ chkE T PR sc true N n i ix = true ∧ chkE T PR sc true N n c e = true ∧ notComp e = true := by
  rw [chkSt_setIx] at h
  split at h
  · simp only [Bool.and_eq_true] at h
    exact ⟨_, _, _, _, _, rfl, h.1.1.1.1, h.1.1.1.2, h.1.1.2, h.1.2, h.2⟩
  · cases h
theorem inv_setAt {a c : Ex} {f : Str} (h : chkSt T PR sc N n rc (.setAt a f c) s = true) : ∃ o p e pos, s = .Assign [.Attribute o f p] e pos ∧ chkE T PR sc true N n a o = true ∧ chkE T PR sc true N n c e = true ∧ notComp e = true := by
  rw [chkSt_setAt] at h
  split at h
  · simp only [Bool.and_eq_true] at h
    have e := of_decide_eq_true h.1.1.1
    subst e
    exact ⟨_, _, _, _, rfl, h.1.1.2, h.1.2, h.2⟩
  · cases h
theorem inv_app {a c : Ex} (h : chkSt T PR sc N n rc (.app a c) s = true) : ∃ o apos e pos pos2, s = .Expr (.Call (.Attribute o "append" apos) [e] [] pos) pos2 ∧ plainBase o = true ∧ (apos.endLine == pos.line) = true ∧ notStar e = true ∧ chkE T PR sc true N n a o = true ∧ chkE T PR sc true N n c e = true := by
  rw [chkSt_app] at h
  split at h
  · simp only [Bool.and_eq_true] at h
    have e := of_decide_eq_true h.1.1.1.1.1
    subst e
    exact ⟨_, _, _, _, _, rfl, h.1.1.1.1.2, h.1.1.1.2, h.1.1.2, h.1.2, h.2⟩
  · cases h
theorem inv_ext {a c : Ex} (h : chkSt T PR sc N n rc (.ext a c) s = true) : ∃ o apos e pos pos2, s = .Expr (.Call (.Attribute o "extend" apos) [e] [] pos) pos2 ∧ plainBase o = true ∧ (apos.endLine == pos.line) = true ∧ notStar e = true ∧ chkE T PR sc true N n a o = true ∧ chkE T PR sc true N n c e = true := by
  rw [chkSt_ext] at h
  split at h
  · simp only [Bool.and_eq_true] at h
    have e := of_decide_eq_true h.1.1.1.1.1
    subst e
    exact ⟨_, _, _, _, _, rfl, h.1.1.1.1.2, h.1.1.1.2, h.1.1.2, h.1.2, h.2⟩
  · cases h
theorem inv_whl {c : Ex} {b : List Sm} (h : chkSt T PR sc N n rc (.whl c b) s = true) : ∃ t x pos, s = .While t x [] pos ∧ chkE T PR sc true N n c t = true ∧ chkSs rc b x = true := by
  rw [chkSt_whl] at h
  split at h
  · simp only [Bool.and_eq_true] at h
    exact ⟨_, _, _, rfl, h.1, h.2⟩
  · cases h
theorem inv_for {tg : Tg} {k : Ik} {its : List Ex} {b : List Sm} (h : chkSt T PR sc N n rc (.for_ tg k its b) s = true) : ∃ t iter x pos, s = .For t iter x [] pos ∧ tgB sc true N tg t = true ∧ chkI T PR sc true N n k its iter = true ∧ chkSs rc b x = true ∧ notSet iter = true := by
  rw [chkSt_for_] at h
  split at h
  · simp only [Bool.and_eq_true] at h
    exact ⟨_, _, _, _, rfl, h.1.1.1, h.1.1.2, h.1.2, h.2⟩
  · cases h
theorem inv_ret {c : Ex} (h : chkSt T PR sc N n rc (.ret c) s = true) : ∃ e pos, s = .Return (some e) pos ∧ chkE T PR sc true N n c e = true := by
  rw [chkSt_ret] at h
  split at h
  · exact ⟨_, _, rfl, h⟩
  · cases h
theorem inv_retN (h : chkSt T PR sc N n rc .retN s = true) : ∃ pos, s = .Return none pos := by
  rw [chkSt_retN] at h
  split at h
  · exact ⟨_, rfl⟩
  · cases h
theorem inv_ex {c : Ex} (h : chkSt T PR sc N n rc (.ex c) s = true) : ∃ e pos, s = .Expr e pos ∧ chkE T PR sc true N n c e = true ∧ notComp e = true := by
  rw [chkSt_ex] at h
  split at h
  · simp only [Bool.and_eq_true] at h
    exact ⟨_, _, rfl, h.1, h.2⟩
  · cases h
theorem inv_brk (h : chkSt T PR sc N n rc .brk s = true) : ∃ pos, s = .Break pos := by
  rw [chkSt_brk] at h
  split at h
  · exact ⟨_, rfl⟩
  · cases h
theorem inv_cnt (h : chkSt T PR sc N n rc .cnt s = true) : ∃ pos, s = .Continue pos := by
  rw [chkSt_cnt] at h
  split at h
  · exact ⟨_, rfl⟩
  · cases h
theorem inv_pass (h : chkSt T PR sc N n rc .pass s = true) : ∃ pos, s = .Pass pos := by
  rw [chkSt_pass] at h
  split at h
  · exact ⟨_, rfl⟩
  · cases h
end
end Pv

set_option Elab.async false
set_option linter.all false
set_option maxRecDepth 100000
set_option maxHeartbeats 1000000
/-! Statements, one step. -/
namespace Pv
open PySem PySem.Spec PyProof.Rows L2
section
variable {CX : CXT} {T : Tab} {PR : Prog} {cl fa : Nat → Addr} {fd : Nat → FuncData} {ps : Nat → List Str}
variable {j : Nat} {sc : Scope} {N : List Str} {X : Cx} {n k : Nat} {s : Stmt}
theorem FinS.nx {m : List Addr} {H : Hp} {st : Store} {env : En} {σ : L2.St} {K : W.Frag} {D : Ends} (f : FinS K cl m H (.ok (.nx, env) st) D) (sr : SR K cl H m st) (er : ER K cl H m env σ) : D.nx σ H := f σ H m (Ext.refl _ _) sr er
theorem st_par (hE : SEn CX T PR cl fa fd ps j) (g : Good CX T PR cl fa fd ps (j + 1) sc true N X) {i jj : Nat} {a b : Ex} {rc : Sm → Stmt → Bool} (h : chkSt T PR sc N n rc (.par i jj a b) s = true) : PS X s (rdS X.K cl (ev PR (j + 1)) (.par i jj a b)) := by
  obtain ⟨x, px, y, py, kt, pt, ea, eb, k2, pt2, pos, rfl, h1, h2, h3, h4, h5⟩ := inv_par h
  have gd := g.down (Nat.le_succ j)
  have pl := parB_ok (kt := kt) (k2 := k2) (pt := pt) (pt2 := pt2) g.sc g.kd h4
  have h4' := h4
  simp only [parB, Bool.and_eq_true] at h4'
  obtain ⟨⟨⟨⟨⟨⟨⟨q1, q2⟩, _⟩, _⟩, _⟩, _⟩, _⟩, _⟩ := h4'
  refine psImp (ps_par g.calm (by rw [g.hN]; exact g.nd) (by rw [g.hN]; exact of_decide_eq_true h1) (by rw [g.hN]; exact of_decide_eq_true h2) (of_decide_eq_true h3) (by rw [g.sc]; exact of_decide_eq_true q1) (by rw [g.sc]; exact of_decide_eq_true q2) (sl_of hE gd h5) pl) fun D σ H ⟨m, env, st, sr, er, f⟩ => ?_
  have f : FinS X.K cl m H ((evL (ev PR j) [a, b] env st).bind fun vs st => match vs with
    | [x, y] => .ok (.nx, (env.set i (some x)).set jj (some y)) st
    | _ => .bad) D := by
    simp only [evL, Res.bind_assoc]
    exact f
  refine rdL_bind (cnS D) sr er f fun v1 st1 u1 H1 m1 x1 sr1 er1 r1 f1 => ?_
  match v1, r1, f1 with
  | [x, y], r1, f1 =>
    obtain ⟨u, w, rfl, ru, rw'⟩ := r1.two
    exact ⟨u, w, rfl, FinS.nx f1 sr1 ((er1.set ru).set rw')⟩
  | [], _, f1 => exact f1.elim
  | [_], _, f1 => exact f1.elim
  | _ :: _ :: _ :: _, _, f1 => exact f1.elim
theorem st_setAt (hE : SEn CX T PR cl fa fd ps j) (g : Good CX T PR cl fa fd ps (j + 1) sc true N X) {a c : Ex} {f : Str} {rc : Sm → Stmt → Bool} (h : chkSt T PR sc N n rc (.setAt a f c) s = true) : PS X s (rdS X.K cl (ev PR (j + 1)) (.setAt a f c)) := by
  obtain ⟨o, p, e, pos, rfl, h2, h3, h4⟩ := inv_setAt h
  have gd := g.down (Nat.le_succ j)
  refine psImp (ps_fld (hE _ _ _ _ _ _ X gd h2) (hE _ _ _ _ _ _ X gd h3) (notComp_ok h4)) fun D σ H ⟨m, env, st, sr, er, f'⟩ => ?_
  refine rdE_bind (cnS D) sr er f' fun v1 st1 u1 H1 m1 x1 sr1 er1 r1 f1 => ?_
  refine rdE_bind (cnS D) sr1 er1 f1 fun v2 st2 u2 H2 m2 x2 sr2 er2 r2 f2 => ?_
  cases v2 with
  | ref r =>
    dsimp only at f2
    cases e1 : st2[r]? with
    | none => rw [e1] at f2; exact f2.elim
    | some so =>
      rw [e1] at f2
      cases so with
      | lst _ => exact f2.elim
      | ins c fs =>
        dsimp only at f2
        cases ek : PR.kl[c]? with
        | none => rw [ek] at f2; exact f2.elim
        | some kc =>
          rw [ek] at f2
          dsimp only at f2
          split at f2
          · rename_i hin
            obtain ⟨ad, rfl, had⟩ := r2
            obtain ⟨w, hw, dx, gs, rfl, rl⟩ := sr2.at_ r ad _ had e1
            have st' := setO (x := .ins c (putP f v1 fs)) (o := .ins (cl c) dx (putF f u1 gs)) sr2 had (List.getElem?_eq_some_iff.mp e1).1 (by rw [hw]; exact trivial) ⟨_, _, rfl, RpF.put (r1.mono x2) rl⟩
            exact ⟨ad, cl c, dx, gs, rfl, hw, g.wf.co.cls c kc ek, g.wf.na c kc f ek hin.1, by rw [← rl.length]; exact hin.2, f2 _ _ m2 st'.1 st'.2 (er2.mono st'.1)⟩
          · exact f2.elim
  | _ => exact f2.elim
theorem sole_ok {t e : Expr} {l : Nat} {env : Env} (h : notComp e = true) : swapsWithSole [t] e l env = pure false := by
  show swapsWith e (some t) l env = pure false
  exact notComp_ok h
theorem few1 {env : Env} {e : Expr} {pos : Pos} (h : notStar e = true) : ((backTo pos (starEach [e] env)).all (fun x => !x.1) && (backToKw pos (keywordEach [] env)).all (fun x => x.1.isSome)
      && decide ([e].length + ([] : List Keyword).length + (if ([] : List Keyword).isEmpty then 0 else 1) < 30)) = true := by
  rw [star_cons h]
  rfl
theorem pg_subP {X : Cx} {o i : Expr} {to ti : TE} {t : TSet} {pos : Pos} (hp : plainIx i = true) (ho : PE X o to) (hi : PE X i ti) (hs : PSet X t) : PG X (.Subscript o i pos) (gSub to ti t) :=
  pg_sub ho hi hs (by intro v; cases i <;> first | rfl | cases hp)
theorem st_setIx (hE : SEn CX T PR cl fa fd ps j) (g : Good CX T PR cl fa fd ps (j + 1) sc true N X) {a i c : Ex} {rc : Sm → Stmt → Bool} (h : chkSt T PR sc N n rc (.setIx a i c) s = true) : PS X s (rdS X.K cl (ev PR (j + 1)) (.setIx a i c)) := by
  obtain ⟨o, ix, p, e, pos, rfl, h1, h2, h3, h4, h5⟩ := inv_setIx h
  have gd := g.down (Nat.le_succ j)
  refine psImp (ps_asg (hE _ _ _ _ _ _ X gd h4) (pg_subP h1 (hE _ _ _ _ _ _ X gd h2) (hE _ _ _ _ _ _ X gd h3) set_list) (sole_ok h5) sub_stores) fun D σ H ⟨m, env, st, sr, er, f⟩ => ?_
  refine rdE_bind (cnS D) sr er f fun v1 st1 u1 H1 m1 x1 sr1 er1 r1 f1 => ?_
  refine rdE_bind (cnS D) sr1 er1 f1 fun v2 st2 u2 H2 m2 x2 sr2 er2 r2 f2 => ?_
  refine rdE_bind (cnS D) sr2 er2 f2 fun v3 st3 u3 H3 m3 x3 sr3 er3 r3 f3 => ?_
  cases v2 with
  | ref r =>
    cases v3 with
    | int q =>
      cases r3
      dsimp only at f3
      cases e1 : st3[r]? with
      | none => rw [e1] at f3; exact f3.elim
      | some so =>
        rw [e1] at f3
        cases so with
        | ins _ _ => exact f3.elim
        | lst xs =>
          dsimp only at f3
          obtain ⟨jx, e2, f4⟩ := tl_bind (cnS D) f3
          obtain ⟨ad, rfl, had⟩ := r2.mono x3
          obtain ⟨w, hw, ys, rfl, rl⟩ := sr3.at_ r ad _ had e1
          have st' := setO (x := .lst (xs.set jx v1)) (o := .lst (ys.set jx u1)) sr3 had (List.getElem?_eq_some_iff.mp e1).1 (by rw [hw]; exact trivial) ⟨_, rfl, rl.set jx (r1.mono (x2.trans x3))⟩
          exact ⟨ad, ys, q, jx, rfl, rfl, hw, by rw [← rl.length]; exact e2, f4 _ _ m3 st'.1 st'.2 (er3.mono st'.1)⟩
    | _ => exact f3.elim
  | _ => exact f3.elim
theorem st_app (hE : SEn CX T PR cl fa fd ps j) (g : Good CX T PR cl fa fd ps (j + 1) sc true N X) {a c : Ex} {rc : Sm → Stmt → Bool} (h : chkSt T PR sc N n rc (.app a c) s = true) : PS X s (rdS X.K cl (ev PR (j + 1)) (.app a c)) := by
  obtain ⟨o, apos, e, pos, pos2, rfl, h1, h2, h3, h4, h5⟩ := inv_app h
  have gd := g.down (Nat.le_succ j)
  refine psImp (ps_expr (pe_bm PySem.F.plainAttrs_list PySem.F.slot_list_append PySem.F.type_list_append mt_append (hE _ _ _ _ _ _ X gd h4) (pa_cons (hE _ _ _ _ _ _ X gd h5) pa_nil (star_cons h3)) (plainBase_ok h1 _) (few1 h3) h2 (star_cons h3))) fun D σ H ⟨m, env, st, sr, er, f⟩ => ?_
  refine rdE_bind (cnS D) sr er f fun v1 st1 u1 H1 m1 x1 sr1 er1 r1 f1 => ?_
  cases v1 with
  | ref r =>
    dsimp only at f1
    cases e1 : st1[r]? with
    | none => rw [e1] at f1; exact f1.elim
    | some so =>
      rw [e1] at f1
      cases so with
      | ins _ _ => exact f1.elim
      | lst xs =>
        dsimp only at f1
        obtain ⟨l, rfl, had⟩ := r1
        obtain ⟨w, hw, ys, rfl, rl⟩ := sr1.at_ r l _ had e1
        refine ⟨.inl ⟨rfl, ys, .inl (.inl hw)⟩, ?_⟩
        refine rdE_bind (cnS D) sr1 er1 f1 fun v2 st2 u2 H2 m2 x2 sr2 er2 r2 f2 => ?_
        obtain ⟨st3, e3, f3⟩ := tl_bind (cnS D) f2
        obtain ⟨acc, q1, q2, q3, q4⟩ := push_ok sr2 (x2.at_ had) r2 e3
        exact ⟨l, acc, u2, rfl, rfl, q1, q2, f3 _ _ m2 q3 q4 (er2.mono q3)⟩
  | _ => exact f1.elim
theorem st_ext (hE : SEn CX T PR cl fa fd ps j) (g : Good CX T PR cl fa fd ps (j + 1) sc true N X) {a c : Ex} {rc : Sm → Stmt → Bool} (h : chkSt T PR sc N n rc (.ext a c) s = true) : PS X s (rdS X.K cl (ev PR (j + 1)) (.ext a c)) := by
  obtain ⟨o, apos, e, pos, pos2, rfl, h1, h2, h3, h4, h5⟩ := inv_ext h
  have gd := g.down (Nat.le_succ j)
  refine psImp (ps_expr (pe_bm PySem.F.plainAttrs_list PySem.F.slot_list_extend PySem.F.type_list_extend mt_extend (hE _ _ _ _ _ _ X gd h4) (pa_cons (hE _ _ _ _ _ _ X gd h5) pa_nil (star_cons h3)) (plainBase_ok h1 _) (few1 h3) h2 (star_cons h3))) fun D σ H ⟨m, env, st, sr, er, f⟩ => ?_
  refine rdE_bind (cnS D) sr er f fun v1 st1 u1 H1 m1 x1 sr1 er1 r1 f1 => ?_
  cases v1 with
  | ref r =>
    dsimp only at f1
    cases e1 : st1[r]? with
    | none => rw [e1] at f1; exact f1.elim
    | some so =>
      rw [e1] at f1
      cases so with
      | ins _ _ => exact f1.elim
      | lst xs0 =>
        dsimp only at f1
        obtain ⟨l, rfl, had⟩ := r1
        obtain ⟨w, hw, ys0, rfl, rl0⟩ := sr1.at_ r l _ had e1
        refine ⟨.inl ⟨rfl, ys0, .inl (.inl hw)⟩, ?_⟩
        refine rdE_bind (cnS D) sr1 er1 f1 fun v2 st2 u2 H2 m2 x2 sr2 er2 r2 f2 => ?_
        cases e2 : seqOf st2 v2 with
        | none => rw [e2] at f2; exact f2.elim
        | some w =>
          obtain ⟨b, ys⟩ := w
          rw [e2] at f2
          cases b with
          | true => exact f2.elim
          | false =>
            cases e3 : st2[r]? with
            | none => rw [e3] at f2; exact f2.elim
            | some so =>
              rw [e3] at f2
              cases so with
              | ins _ _ => exact f2.elim
              | lst xs =>
                dsimp only at f2
                split at f2
                · rename_i hl
                  obtain ⟨p2, zs, rfl, rz, _, hz⟩ := seq_ok sr2 r2 e2
                  have had2 := x2.at_ had
                  obtain ⟨w, hw, ws, rfl, rw'⟩ := sr2.at_ r l _ had2 e3
                  have st' := setO (x := .lst (xs ++ ys)) (o := .lst (ws ++ zs)) sr2 had2 (List.getElem?_eq_some_iff.mp e3).1 (by rw [hw]; exact trivial) ⟨_, rfl, rw'.append rz⟩
                  exact ⟨l, p2, ws, zs, rfl, rfl, hw, hz rfl, by rw [← rw'.length, ← rz.length]; exact hl, f2 _ _ m2 st'.1 st'.2 (er2.mono st'.1)⟩
                · exact f2.elim
  | _ => exact f1.elim
end
end Pv

set_option Elab.async false
set_option linter.all false
set_option maxRecDepth 100000
set_option maxHeartbeats 1000000
/-! Statements: loops, stores; one step in all. -/
namespace Pv
open PySem PySem.Spec PyProof.Rows L2
section
variable {CX : CXT} {T : Tab} {PR : Prog} {cl fa : Nat → Addr} {fd : Nat → FuncData} {ps : Nat → List Str}
variable {j : Nat} {sc : Scope} {N : List Str} {X : Cx} {n k : Nat} {s : Stmt}
theorem own_pass {i : Nat} {top : Bool} (g : Good CX T PR cl fa fd ps i sc top N X) : PassesOwn (model X.prog X.w) X.A X.env X.xe := by
  rw [g.never]
  exact PassesOwn.never
/-- behind a body: what a loop does with how it ended -/
theorem body_end {K : W.Frag} {r : Ev} {b : List Sm} {env : En} {st : Store} {m : List Addr} {H : Hp} {σ : L2.St} {D : Ends} {nx : En → Store → Res (Fl × En)} {W : L2.St → Hp → Prop} (sr : SR K cl H m st) (er : ER K cl H m env σ)
    (f : FinS K cl m H ((blk r b env st).bind fun a st => match a with
      | (.nx, env) => nx env st
      | (.ct, env) => nx env st
      | (.bk, env) => .ok (.nx, env) st
      | (.ret v, env) => .ok (.ret v, env) st) D)
    (hW : ∀ σ' H' m' env' st', Ext m H m' H' → SR K cl H' m' st' → ER K cl H' m' env' σ' → FinS K cl m' H' (nx env' st') D → W σ' H') : rdB K cl r b { D with nx := W, ct := W, bk := D.nx } σ H := by
  refine ⟨m, env, st, sr, er, ?_⟩
  show FinS K cl m H (blk r b env st) _
  cases e : blk r b env st with
  | exc _ _ => rw [e] at f; exact f.elim
  | bad => rw [e] at f; exact f.elim
  | ok a st' =>
    rw [e] at f
    obtain ⟨fl, env'⟩ := a
    cases fl with
    | nx => exact fun σ' H' m' x sr' er' => hW σ' H' m' env' st' x sr' er' (FinS.mono x f)
    | ct => exact fun σ' H' m' x sr' er' => hW σ' H' m' env' st' x sr' er' (FinS.mono x f)
    | bk => exact fun σ' H' m' x sr' er' => f σ' H' m' x sr' er'
    | ret v => exact fun u H' m' x sr' rp => f u H' m' x sr' rp
theorem st_whl (hT : STn CX T PR cl fa fd ps j) (hS : SSn CX T PR cl fa fd ps j) (g : Good CX T PR cl fa fd ps (j + 1) sc true N X) {c : Ex} {b : List Sm} (h : chkSt T PR sc N n (chkS T PR sc N n k) (.whl c b) s = true) : PS X s (rdS X.K cl (ev PR (j + 1)) (.whl c b)) := by
  obtain ⟨t, x, pos, rfl, h1, h2⟩ := inv_whl h
  have gd := g.down (Nat.le_succ j)
  refine psImp (ps_while (own_pass gd) (hT _ _ _ _ _ _ X gd h1).1 (sb_of hS gd h2)) fun D σ H q => ?_
  obtain ⟨m, env, st, sr, er, f⟩ := q
  refine ⟨fun i σ H => At X.K cl σ H fun m env st => FinS X.K cl m H (whileN (ev PR j) c b i env st) D, ⟨PR.wf, m, env, st, sr, er, f⟩, ?_⟩
  rintro i σ1 H1 ⟨m1, env1, st1, sr1, er1, f1⟩
  cases i with
  | zero => exact f1.elim
  | succ i =>
    unfold whileN at f1
    refine rdT_bind (cnS D) sr1 er1 f1 fun bb st2 H2 m2 x2 sr2 er2 f2 => ?_
    cases bb with
    | false => exact FinS.nx f2 sr2 er2
    | true =>
      simp only [if_true] at f2 ⊢
      refine ⟨fun σ' H' => At X.K cl σ' H' fun m env st => FinS X.K cl m H' (whileN (ev PR j) c b i env st) D, fun σ' H' q => ⟨i, Nat.lt_succ_self i, q⟩, ?_⟩
      exact body_end sr2 er2 f2 fun σ' H' m' env' st' x sr' er' f' => ⟨m', env', st', sr', er', f'⟩
theorem st_for (hE : SEn CX T PR cl fa fd ps j) (hS : SSn CX T PR cl fa fd ps j) (g : Good CX T PR cl fa fd ps (j + 1) sc true N X) {tg : Tg} {kk : Ik} {its : List Ex} {b : List Sm} (h : chkSt T PR sc N n (chkS T PR sc N n k) (.for_ tg kk its b) s = true) : PS X s (rdS X.K cl (ev PR (j + 1)) (.for_ tg kk its b)) := by
  obtain ⟨t, iter, x, pos, rfl, h1, h2, h3, h4⟩ := inv_for h
  have gd := g.down (Nat.le_succ j)
  refine psImp (ps_for (own_pass gd) g.calm (si_of hE gd h2) (tg_ok gd tg t h1) (sb_of hS gd h3) (fun x => notSet_ok h4 x)) fun D σ H q => ?_
  obtain ⟨m, env, st, sr, er, f⟩ := q
  refine rdI_bind (cnS D) sr er f fun xs gg st1 J H1 m1 x1 sr1 er1 wk f1 => ?_
  let S : Nat → L2.St → Hp → Prop := fun i σ' H' => ∃ m' env' st', Ext m1 H1 m' H' ∧ SR X.K cl H' m' st' ∧ ER X.K cl H' m' env' σ' ∧ FinS X.K cl m' H' (forL (ev PR j) tg b gg (xs.drop i) env' st') D
  refine ⟨fun i mm σ' H' => mm = xs.length - i ∧ i ≤ xs.length ∧ S i σ' H', ⟨_, rfl, Nat.zero_le _, m1, env, st1, Ext.refl _ _, sr1, er1, f1⟩, ?_⟩
  rintro i mm σ' H' ⟨rfl, hi, m', env', st', x', sr', er', fi⟩
  by_cases hlt : i < xs.length
  · rw [List.drop_eq_getElem_cons hlt] at fi
    unfold forL at fi
    by_cases hg : gg st'
    case neg => rw [if_neg hg] at fi; exact fi.elim
    rw [if_pos hg] at fi
    refine .inr ⟨wk.go x' sr' hg hlt, S (i + 1), fun σ2 H2 q => ⟨_, by omega, rfl, hlt, q⟩, fun y H2 hy => ?_⟩
    obtain ⟨y1, y2, y3⟩ := wk.yld x' sr' hg (List.getElem?_eq_getElem hlt) hy
    cases ea : asg tg xs[i] env' with
    | none => rw [ea] at fi; exact fi.elim
    | some env2 =>
      rw [ea] at fi
      refine ⟨m', env', st', xs[i], env2, y2, er'.mono y1, y3, ea, fun σ3 er3 o3 => ?_⟩
      exact body_end y2 er3 (FinS.mono y1 fi) fun σ4 H4 m4 env4 st4 x4 sr4 er4 f4 => ⟨m4, env4, st4, (x'.trans y1).trans x4, sr4, er4, f4⟩
  · have e : i = xs.length := by omega
    subst e
    rw [List.drop_length] at fi
    unfold forL at fi
    by_cases hg : gg st'
    case neg => rw [if_neg hg] at fi; exact fi.elim
    rw [if_pos hg] at fi
    exact .inl ⟨wk.stop x' sr' hg (Nat.le_refl _), FinS.nx fi sr' er'⟩
theorem st_set (hE : SEn CX T PR cl fa fd ps j) (hE' : ∀ i, i < j → SEn CX T PR cl fa fd ps i ∧ STn CX T PR cl fa fd ps i) (g : Good CX T PR cl fa fd ps (j + 1) sc true N X) {t : Tg} {c : Ex} {rc : Sm → Stmt → Bool} (h : chkSt T PR sc N n rc (.set t c) s = true) : PS X s (rdS X.K cl (ev PR (j + 1)) (.set t c)) := by
  have gd := g.down (Nat.le_succ j)
  rcases inv_set h with ⟨x, p, e, pos, rfl, h1, h2, h3, h4⟩ | ⟨ts, kk, p, e, pos, rfl, h1, h2, h3, h4⟩
  · cases t with
    | t ts => cases h1
    | n i =>
      simp only [tgB, Bool.and_eq_true] at h1
      obtain ⟨l1, l2⟩ := locB_ok gd h1.2
      have hi : X.N[i]? = some x := by rw [g.hN]; exact of_decide_eq_true h1.1
      have nd : X.N.Nodup := by rw [g.hN]; exact g.nd
      have fin : ∀ {v : PV} {u : V} {σ : L2.St} {env : En} {st : Store} {m : List Addr} {H : Hp} {D : Ends}, SR X.K cl H m st → ER X.K cl H m env σ → Rp X.K cl H m v u → FinS X.K cl m H ((tl (asg (.n i) v env) st).bind fun env st => .ok (.nx, env) st) D → D.nx (σ.set i (some u)) H := fun {v u σ env st m H D} sr er r f => by
        obtain ⟨env', e1, f1⟩ := tl_bind (cnS D) f
        unfold asg at e1
        split at e1
        · cases e1
          exact FinS.nx f1 sr (er.set r)
        · cases e1
      by_cases sw : swB sc e x p = true
      · have hc : isComp c = true := by
          rw [sw] at h4
          exact h4
        cases c with
        | comp mu ce tg kk its ts =>
          cases n with
          | zero => cases h2
          | succ n =>
          cases j with
          | zero => exact psF fun D σ H ⟨m, env, st, sr, er, f⟩ => f
          | succ j =>
            obtain ⟨hEj, hTj⟩ := hE' j (Nat.lt_succ_self j)
            obtain ⟨elt, tt, iter, ifs, scope, lpos, rfl, p1, p2, p3, p4, p5, p6, p7⟩ := lc_parts hEj hTj gd h2
            simp only [swB, Bool.and_eq_true, Bool.not_eq_true'] at sw
            obtain ⟨⟨w1, w2⟩, w3⟩ := sw
            have w1 : X.env.scope.names.lookup x = some .local := by rw [g.sc]; exact of_decide_eq_true w1
            refine psImp (ps_setLc g.calm nd hi w1 (sw_true (by rw [g.sc]; exact g.kd) w1 w2 w3) p1 p2 p4 p5 p6 p7) fun D σ H ⟨m, env, st, sr, er, f⟩ => ?_
            have f : FinS X.K cl m H ((comp (ev PR j) mu ce tg kk its ts env st).bind fun v st => (tl (asg (.n i) v env) st).bind fun env st => .ok (.nx, env) st) D := f
            show tLc _ _ _ _ _ σ H fun v H1 => D.nx (σ.set i (some v)) H1
            rw [p3]
            refine lc_read (mu := mu) sr er ?_
            cases q : comp (ev PR j) mu ce tg kk its ts env st with
            | exc _ _ => rw [q] at f; exact f.elim
            | bad => rw [q] at f; exact f.elim
            | ok v st' =>
              rw [q] at f
              exact fun u H' m' x sr' rp => fin sr' (er.mono x) rp (FinS.mono x f)
        | _ => cases hc
      · have sw : swB sc e x p = false := by simpa using sw
        refine psImp (ps_set nd hi l1 (hE _ _ _ _ _ _ X gd h2) (by rw [swB_ok g.sc g.kd (by cases e <;> first | rfl | cases h3), sw]) l2) fun D σ H ⟨m, env, st, sr, er, f⟩ => ?_
        exact rdE_bind (cnS D) sr er f fun v1 st1 u1 H1 m1 x1 sr1 er1 r1 f1 => fin sr1 er1 r1 f1
  · refine psImp (ps_asg (hE _ _ _ _ _ _ X gd h2) (tg_ok gd t _ h1) (sole_ok h3) (notTup_ok h4)) fun D σ H ⟨m, env, st, sr, er, f⟩ => ?_
    refine rdE_bind (cnS D) sr er f fun v1 st1 u1 H1 m1 x1 sr1 er1 r1 f1 => ?_
    obtain ⟨env', e1, f2⟩ := tl_bind (cnS D) f1
    exact ⟨m1, env, st1, v1, env', sr1, er1, r1, e1, fun σ' er' _ => FinS.nx f2 sr1 er'⟩
theorem ss_succ (hE : SEn CX T PR cl fa fd ps j) (hT : STn CX T PR cl fa fd ps j) (hE' : ∀ i, i < j → SEn CX T PR cl fa fd ps i ∧ STn CX T PR cl fa fd ps i) (hS : SSn CX T PR cl fa fd ps j) : SSn CX T PR cl fa fd ps (j + 1) := by
  intro sc N n k c s X g h
  cases k with
  | zero => cases h
  | succ k =>
  have gd := g.down (Nat.le_succ j)
  have h : chkSt T PR sc N n (chkS T PR sc N n k) c s = true := h
  cases c with
  | bad => exact psF fun D σ H ⟨m, env, st, sr, er, f⟩ => f
  | aug i o e => cases h
  | swap a i b j x y => cases h
  | pass =>
    obtain ⟨pos, rfl⟩ := inv_pass h
    exact psImp ps_pass fun D σ H ⟨m, env, st, sr, er, f⟩ => FinS.nx f sr er
  | brk =>
    obtain ⟨pos, rfl⟩ := inv_brk h
    exact psImp ps_break fun D σ H ⟨m, env, st, sr, er, f⟩ => f σ H m (Ext.refl _ _) sr er
  | cnt =>
    obtain ⟨pos, rfl⟩ := inv_cnt h
    exact psImp ps_continue fun D σ H ⟨m, env, st, sr, er, f⟩ => f σ H m (Ext.refl _ _) sr er
  | retN =>
    obtain ⟨pos, rfl⟩ := inv_retN h
    exact psImp ps_retN fun D σ H ⟨m, env, st, sr, er, f⟩ => f .non H m (Ext.refl _ _) sr rfl
  | ret c =>
    obtain ⟨e, pos, rfl, h1⟩ := inv_ret h
    refine psImp (ps_ret (hE _ _ _ _ _ _ X gd h1)) fun D σ H ⟨m, env, st, sr, er, f⟩ => ?_
    exact rdE_bind (cnS D) sr er f fun v1 st1 u1 H1 m1 x1 sr1 er1 r1 f1 => f1 u1 H1 m1 (Ext.refl _ _) sr1 r1
  | ex c =>
    obtain ⟨e, pos, rfl, h1, h2⟩ := inv_ex h
    refine psImp (ps_expr (hE _ _ _ _ _ _ X gd h1) (notComp_ok h2)) fun D σ H ⟨m, env, st, sr, er, f⟩ => ?_
    exact rdE_bind (cnS D) sr er f fun v1 st1 u1 H1 m1 x1 sr1 er1 r1 f1 => FinS.nx f1 sr1 er1
  | ite c a b =>
    obtain ⟨t, x, y, pos, rfl, h1, h2, h3⟩ := inv_ite h
    refine psImp (ps_if (hT _ _ _ _ _ _ X gd h1).1 (sb_of hS gd h2) (sb_of hS gd h3)) fun D σ H ⟨m, env, st, sr, er, f⟩ => ?_
    refine rdT_bind (cnS D) sr er f fun b st1 H1 m1 x1 sr1 er1 f1 => ?_
    cases b with
    | true => exact ⟨m1, env, st1, sr1, er1, f1⟩
    | false => exact ⟨m1, env, st1, sr1, er1, f1⟩
  | set t c => exact st_set hE hE' g h
  | par i jj a b => exact st_par hE g h
  | setIx a i c => exact st_setIx hE g h
  | setAt a f c => exact st_setAt hE g h
  | app a c => exact st_app hE g h
  | ext a c => exact st_ext hE g h
  | whl c b => exact st_whl hT hS g h
  | for_ tg kk its b => exact st_for hE hS g h
end
end Pv

set_option Elab.async false
set_option linter.all false
set_option maxRecDepth 100000
set_option maxHeartbeats 1000000
/-! All levels; defs. -/
namespace Pv
open PySem PySem.Spec PyProof.Rows L2
section
variable {CX : CXT} {T : Tab} {PR : Prog} {cl fa : Nat → Addr} {fd : Nat → FuncData} {ps : Nat → List Str}
theorem all_upto : ∀ j i : Nat, i ≤ j → SEn CX T PR cl fa fd ps i ∧ STn CX T PR cl fa fd ps i ∧ SSn CX T PR cl fa fd ps i
  | 0, i, h => by
    obtain rfl : i = 0 := by omega
    exact ⟨se_zero, st_zero, ss_zero⟩
  | j + 1, i, h => by
    by_cases e : i = j + 1
    · subst e
      obtain ⟨h1, h2, h3⟩ := all_upto j j (Nat.le_refl j)
      exact ⟨se_succ h1 h2 (sc_ok h1 h2), st_succ h1 h2, ss_succ h1 h2 (fun i hi => ⟨(all_upto j i (by omega)).1, (all_upto j i (by omega)).2.1⟩) h3⟩
    · exact all_upto j i (by omega)
theorem ss_all (j : Nat) : SSn CX T PR cl fa fd ps j := (all_upto j j (Nat.le_refl j)).2.2
end
/-- a def of the text beside its mirror -/
structure Ent (T : Tab) (PR : Prog) (K : W.Frag) (f : Addr) (fd : FuncData) (ps : List Str) (d : Df) : Prop where
  ex : ∃ (x qual : Str) (params : Arguments) (body : List Stmt) (scope : Scope) (dvs : List V) (kws : List (Str × V)) (N : List Str) (n k : Nat),
    FunD K x qual params body scope dvs kws f fd ∧ FnScope N ps scope ∧ N.length = d.nn ∧ chkSs (chkS T PR scope N n k) d.body body = true
section
variable {P : Program} {w : World} {K : W.Frag} {mg : Str → Option Value} {base : Heap} {T : Tab} {PR : Prog} {cl fa : Nat → Addr} {fd : Nat → FuncData} {ps : Nat → List Str}
theorem RpL.start {m : List Addr} {H : Hp} {N : List Str} {as : List PV} {vs : List V} (r : RpL K cl H m as vs) : ER K cl H m (as.map some ++ List.replicate (N.length - as.length) none) (start N vs) := by
  unfold L2.start
  refine ⟨by simp [r.length], fun i x e => ?_⟩
  rw [List.getElem?_append] at e
  rw [List.getElem?_append]
  simp only [List.length_map] at e ⊢
  by_cases hi : i < as.length
  · rw [if_pos hi] at e
    rw [if_pos (by rw [← r.length]; exact hi)]
    rw [List.getElem?_map] at e
    cases q : as[i]? with
    | none => rw [q] at e; cases e
    | some y =>
      rw [q] at e
      cases e
      obtain ⟨v, hv, rv⟩ := r.get q
      exact ⟨v, by rw [List.getElem?_map, hv]; rfl, rv⟩
  · rw [if_neg hi, List.getElem?_replicate] at e
    split at e <;> cases e
theorem spF_len {r : Ev} {n f : Nat} {vs : List V} {H : Hp} {Q : VK} {E : XK} (h : spF K cl r n f vs H Q E) : vs.length = n := by
  obtain ⟨m, st, as, sr, rl, e, _⟩ := h
  rw [← rl.length]; exact e
/-- a def keeps what its mirror says -/
theorem fn_ok (wf : Wf T PR cl fa fd ps K mg) (ent : ∀ f d, PR.df[f]? = some d → Ent T PR K (fa f) (fd f) (ps f) d) : ∀ j f d, PR.df[f]? = some d → FnOk P w K mg base CX0 j (fa f) (fd f) (ps f) (spF K cl (ev PR j) d.np f) := by
  intro j
  induction j using Nat.strongRecOn with
  | ind j ih =>
    intro f d hd
    have len : ∀ {r : Ev} (vs : List V) (H : Hp) (Q : VK) (E : XK), spF K cl r d.np f vs H Q E → vs.length = (ps f).length := fun vs H Q E h => by rw [spF_len h, wf.pl f d hd]
    cases j with
    | zero =>
      refine ⟨fun vs H Q E h => len vs H Q E h, fun A outer s H args us vs Q E hr e0 hb hv h => ?_⟩
      obtain ⟨m, st, as, sr, rl, e, f⟩ := h
      exact f.elim
    | succ j =>
      obtain ⟨x, qual, params, body, scope, dvs, kws, N, n, k, F, S, hN, hc⟩ := (ent f d hd).ex
      refine F.ok S (fun vs H Q E h => len vs H Q E h) (fun cdv A outer s H vs Q E hr h => ⟨rdB K cl (ev PR j) d.body, PSs.nox ?_, ?_⟩)
      · have g : Good CX0 T PR cl fa fd ps j scope true N (cxOf CX0 P w K mg base N qual scope (fa f) cdv A outer s H E).nox :=
          ⟨wf, fun i hi f d hd => ih i (by omega) f d hd, rfl, S.nd, S.kind, rfl, rfl, hr, fun _ _ _ _ _ z => z, rfl, fun _ => rfl⟩
        exact sb_of (ss_all j) g hc
      · obtain ⟨m, st, as, sr, rl, e, fin⟩ := h
        have fin : Fin K cl m H (stepC PR (ev PR j) f as st) Q := fin
        unfold stepC at fin
        rw [hd] at fin
        dsimp only at fin
        split at fin
        case isFalse => exact fin.elim
        rename_i hl
        have er := rl.start (N := N)
        rw [hN, hl.1] at er
        refine ⟨m, _, st, sr, er, ?_⟩
        show FinS K cl m H (blk (ev PR j) d.body _ st) _
        cases q : blk (ev PR j) d.body (as.map some ++ List.replicate (d.nn - d.np) none) st with
        | exc _ _ => rw [q] at fin; exact fin.elim
        | bad => rw [q] at fin; exact fin.elim
        | ok a st' =>
          rw [q] at fin
          obtain ⟨fl, env'⟩ := a
          have go : ∀ {v : PV}, Fin K cl m H (done st d.mu v st') Q → ∀ u H' m', Ext m H m' H' → SR K cl H' m' st' → Rp K cl H' m' v u → Q u H' := fun {v} fin u H' m' x sr' rp => by
            cases q2 : done st d.mu v st' with
            | exc _ _ => rw [q2] at fin; exact fin.elim
            | bad => rw [q2] at fin; exact fin.elim
            | ok z st2 =>
              rw [q2] at fin
              obtain ⟨m2, y1, y2, y3⟩ := done_ok sr x sr' rp q2
              exact fin u H' m2 y1 y2 y3
          cases fl with
          | nx => exact fun σ' H' m' x sr' er' => go fin .non H' m' x sr' rfl
          | ret v => exact fun u H' m' x sr' rp => go fin u H' m' x sr' rp
          | bk => exact fin.elim
          | ct => exact fin.elim
end
end Pv

set_option Elab.async false
set_option linter.all false
set_option maxRecDepth 100000
set_option maxHeartbeats 1000000
/-! The text as it stands behind the top: facts by a Bool. -/
namespace Pv
open PySem PySem.Spec PyProof.Rows L2
mutual
/-- a value of the top -/
def gvB (K : W.Frag) : PV → Value → Bool
  | .non, .none => true
  | .bl b, .bool c => b == c
  | .int i, .int j _ => decide (i = j)
  | .str x, .str y _ => decide (x = y)
  | .tup xs, .ref a => match K.lookup a with
    | some ⟨.type c, _, .seq its _, _⟩ => decide (c = "tuple") && (decide (its.size ≤ sizeLine) && gvBs K xs its.toList)
    | _ => false
  | _, _ => false
def gvBs (K : W.Frag) : List PV → List Value → Bool
  | [], [] => true
  | v :: vs, u :: us => gvB K v u && gvBs K vs us
  | _, _ => false
end
section
variable {K : W.Frag}
mutual
theorem gvB_ok : ∀ (v : PV) (u : Value), gvB K v u = true → ∃ w, RelV w u ∧ ∀ cl H m, Rp K cl H m v w
  | .non, u, h => by
    cases u with
    | none => exact ⟨.non, rfl, fun _ _ _ => rfl⟩
    | _ => cases h
  | .bl b, u, h => by
    cases u with
    | bool c =>
      have e : b = c := eq_of_beq (show (b == c) = true from h)
      subst e
      exact ⟨.bl b, rfl, fun _ _ _ => rfl⟩
    | _ => cases h
  | .int i, u, h => by
    cases u with
    | int j t =>
      have e : i = j := of_decide_eq_true h
      subst e
      exact ⟨.int i, ⟨t, rfl⟩, fun _ _ _ => rfl⟩
    | _ => cases h
  | .str i, u, h => by
    cases u with
    | str j t =>
      have e : i = j := of_decide_eq_true h
      subst e
      exact ⟨.str i, ⟨t, rfl⟩, fun _ _ _ => rfl⟩
    | _ => cases h
  | .tup xs, u, h => by
    cases u with
    | ref a =>
      unfold gvB at h
      cases q : K.lookup a with
      | none => rw [q] at h; cases h
      | some o =>
        obtain ⟨oc, od, dt, osl⟩ := o
        rw [q] at h
        cases oc with
        | type c =>
          cases dt with
          | seq its n =>
            simp only [Bool.and_eq_true] at h
            obtain ⟨h1, h2, h3⟩ := h
            obtain ⟨ws, r1, r2⟩ := gvBs_ok xs its.toList h3
            exact ⟨.ref a, rfl, fun cl H m => ⟨a, ws, rfl, .inr ⟨_, its, n, q, congrArg Value.type (of_decide_eq_true h1), rfl, of_decide_eq_true h2, r1⟩, r2 cl H m⟩⟩
          | _ => cases h
        | _ => cases h
    | _ => cases h
  | .ty _, u, h => by unfold gvB at h; cases h
  | .lst _, u, h => by unfold gvB at h; cases h
  | .scr _, u, h => by unfold gvB at h; cases h
  | .ins _ _, u, h => by unfold gvB at h; cases h
  | .ref _, u, h => by unfold gvB at h; cases h
theorem gvBs_ok : ∀ (vs : List PV) (us : List Value), gvBs K vs us = true → ∃ ws, Vals ws us ∧ ∀ cl H m, RpL K cl H m vs ws
  | [], [], h => ⟨[], .nil, fun _ _ _ => rfl⟩
  | v :: vs, u :: us, h => by
    unfold gvBs at h
    rw [Bool.and_eq_true] at h
    obtain ⟨w, r1, r2⟩ := gvB_ok v u h.1
    obtain ⟨ws, q1, q2⟩ := gvBs_ok vs us h.2
    exact ⟨w :: ws, .cons r1 q1, fun cl H m => ⟨w, ws, rfl, r2 cl H m, q2 cl H m⟩⟩
  | [], _ :: _, h => by unfold gvBs at h; cases h
  | _ :: _, [], h => by unfold gvBs at h; cases h
end
end
/-- where the defs and the classes stand -/
def faOf (dm : List He.DefD) (K : W.Frag) (f : Nat) : Addr := match dm[f]? with
  | some d => He.fAd K d.at_
  | none => 0
def clOf (cn : List Str) (K : W.Frag) (c : Nat) : Addr := match cn[c]? with
  | some x => He.ga K x
  | none => 0
def atOf (dm : List He.DefD) (f : Nat) : Option (Str × Option Str) := (dm[f]?).map (·.at_)
def isFB (K : W.Frag) (C : Addr) : Bool := He.eqO (W.findIn K (.ref C) "__class__") (some (some (.builtin "object.__class__"))) && (He.eqO (W.specialIn K (.builtin "object.__class__") "__get__") (some (some (.builtin "getset_descriptor.__get__")))
  && (decide (W.takesIn K (.builtin "object.__class__") = some true) && decide (W.mroIn K C (.type "object") = some true)))
theorem isFB_ok {K : W.Frag} {C : Addr} (h : isFB K C = true) : IsF K C := by
  unfold isFB at h
  simp only [Bool.and_eq_true] at h
  exact ⟨He.eqO_ok h.1, He.eqO_ok h.2.1, of_decide_eq_true h.2.2.1, of_decide_eq_true h.2.2.2⟩
def klB (dm : List He.DefD) (K : W.Frag) (x : Str) (k : Kl) : Bool := (He.Fa.cls x).ok K && (isFB K (He.ga K x) && ((match k.init with
  | none => true
  | some f => (He.Fa.mkr x).ok K && decide (atOf dm f = some (x, some ("__init__" : Str)))) && ((k.ms.all fun q => (He.Fa.meth x q.1).ok K && decide (atOf dm q.2 = some (x, some q.1))) && k.ats.all fun f => (He.Fa.noat x f).ok K)))
def klsB (dm : List He.DefD) (K : W.Frag) : List Str → List Kl → Bool
  | [], [] => true
  | x :: xs, k :: ks => klB dm K x k && klsB dm K xs ks
  | _, _ => false
theorem klsB_ok {dm : List He.DefD} {K : W.Frag} : ∀ {xs : List Str} {ks : List Kl}, klsB dm K xs ks = true → ∀ (c : Nat) (k : Kl), ks[c]? = some k → ∃ x, xs[c]? = some x ∧ klB dm K x k = true
  | [], [], _, _, _, h => by simp at h
  | x :: xs, k :: ks, h, c, k', e => by
    unfold klsB at h
    rw [Bool.and_eq_true] at h
    cases c with
    | zero =>
      obtain rfl : k = k' := Option.some.inj e
      exact ⟨x, rfl, h.1⟩
    | succ c => exact klsB_ok h.2 c k' e
  | [], _ :: _, h, _, _, _ => by cases h
  | _ :: _, [], h, _, _, _ => by cases h
/-- the facts, by a look at what the top has written -/
def okB (dm : List He.DefD) (cn : List Str) (T : Tab) (kl : List Kl) (gl : List PV) (isl : List (Cs × Cs × Bool)) (K : W.Frag) : Bool :=
  (T.fns.all fun q => decide (atOf dm q.2 = some (q.1, none)) && He.eqO (W.nsIn K mainGlobals q.1) (some (some (.ref (He.fAd K (q.1, none))))))
  && ((T.css.all fun q => decide (cn[q.2]? = some q.1) && He.eqO (W.nsIn K mainGlobals q.1) (some (some (.ref (He.ga K q.1)))))
  && (klsB dm K cn kl
  && ((isl.all fun q => decide (W.kitOne K (csV (clOf cn K) q.1) (csV (clOf cn K) q.2.1) = some q.2.2))
  && ((T.gls.all fun q => match gl[q.2]?, W.nsIn K mainGlobals q.1 with
    | some v, some (some u) => gvB K v u
    | _, _ => false)
  && ((T.bls.all fun x => He.eqO (W.nsIn K mainGlobals x) (some none))
  && (!T.gcd || He.eqO (W.nsIn K mainGlobals "gcd") (some (some (.builtin "math.gcd")))))))))
theorem all_lookup {α β : Type} [BEq α] [LawfulBEq α] {p : α × β → Bool} : ∀ {l : List (α × β)}, l.all p = true → ∀ x i, l.lookup x = some i → p (x, i) = true
  | [], _, _, _, h => by cases h
  | (y, j) :: l, ha, x, i, h => by
    rw [List.all_cons, Bool.and_eq_true] at ha
    rw [List.lookup_cons] at h
    cases e : x == y with
    | true =>
      rw [e] at h
      cases h
      rw [eq_of_beq e]
      exact ha.1
    | false =>
      rw [e] at h
      exact all_lookup ha.2 x i h
section
variable {dm : List He.DefD} {cn : List Str} {T : Tab} {PR : Prog} {K : W.Frag} {h : Heap} {mg : Str → Option Value} {fd : Nat → FuncData} {ps : Nat → List Str}
theorem fa_at {f : Nat} {p : Str × Option Str} (e : atOf dm f = some p) : faOf dm K f = He.fAd K p := by
  unfold atOf at e
  unfold faOf
  cases q : dm[f]? with
  | none => rw [q] at e; cases e
  | some d =>
    rw [q] at e
    cases e
    rfl
theorem wf_of (X : K.In h) (G : h.Ns mainGlobals mg) (ok : okB dm cn T PR.kl PR.gl PR.isl K = true)
    (kp : ∀ (f : Nat) (d : He.DefD), dm[f]? = some d → W.keepIn K (.ref (He.fAd K d.at_)) = true)
    (pl : ∀ f d, PR.df[f]? = some d → (ps f).length = d.np)
    (bd : ∀ f d n, PR.df[f]? = some d → n ≤ d.np → d.np - n ≤ d.dv.length → ∃ ds dvs, Binds K (fd f) (ps f) ds ∧ Vals dvs ds ∧ ∀ H m, RpL K (clOf cn K) H m (d.dv.drop (d.dv.length - (d.np - n))) dvs) :
    Wf T PR (clOf cn K) (faOf dm K) fd ps K mg := by
  unfold okB at ok
  simp only [Bool.and_eq_true] at ok
  obtain ⟨o1, o2, o3, o4, o5, o6, o7⟩ := ok
  have kl : ∀ (c : Nat) (k : Kl), PR.kl[c]? = some k → ∃ x, clOf cn K c = He.ga K x ∧ klB dm K x k = true := fun c k e => by
    obtain ⟨x, e1, e2⟩ := klsB_ok o3 c k e
    exact ⟨x, by unfold clOf; rw [e1], e2⟩
  refine ⟨⟨fun c k e => ?_, fun c k e => ?_, fun a b r e => ?_⟩, fun x i e => ?_, fun x c e => ?_, fun c k f e e1 => ?_, fun c k m f e e1 => ?_, fun c k f e e1 => ?_, fun x i v e e1 => ?_, fun x e => ?_, fun e => ?_, pl, bd⟩
  · obtain ⟨x, e1, e2⟩ := kl c k e
    unfold klB at e2
    simp only [Bool.and_eq_true] at e2
    rw [e1]
    exact He.cls_ok e2.1
  · obtain ⟨x, e1, e2⟩ := kl c k e
    unfold klB at e2
    simp only [Bool.and_eq_true] at e2
    rw [e1]
    exact isFB_ok e2.2.1
  · exact of_decide_eq_true (List.all_eq_true.mp o4 _ e)
  · have z := all_lookup o1 x i e
    simp only [Bool.and_eq_true] at z
    have e1 := of_decide_eq_true z.1
    rw [fa_at e1]
    refine ⟨W.mg_of X G (He.eqO_ok z.2), ?_⟩
    unfold atOf at e1
    cases q : dm[i]? with
    | none => rw [q] at e1; cases e1
    | some d =>
      rw [q] at e1
      have e2 : d.at_ = (x, none) := Option.some.inj e1
      rw [← e2]
      exact kp i d q
  · have z := all_lookup o2 x c e
    simp only [Bool.and_eq_true] at z
    unfold clOf
    rw [of_decide_eq_true z.1]
    exact W.mg_of X G (He.eqO_ok z.2)
  · obtain ⟨x, e2, e3⟩ := kl c k e
    unfold klB at e3
    simp only [Bool.and_eq_true] at e3
    have z := e3.2.2.1
    rw [e1] at z
    simp only [Bool.and_eq_true] at z
    rw [e2, fa_at (of_decide_eq_true z.2)]
    exact He.mkr_ok z.1
  · obtain ⟨x, e2, e3⟩ := kl c k e
    unfold klB at e3
    simp only [Bool.and_eq_true] at e3
    have z := all_lookup e3.2.2.2.1 m f e1
    simp only [Bool.and_eq_true] at z
    rw [e2, fa_at (of_decide_eq_true z.2)]
    exact He.meth_ok z.1
  · obtain ⟨x, e2, e3⟩ := kl c k e
    unfold klB at e3
    simp only [Bool.and_eq_true] at e3
    rw [e2]
    exact He.noat_ok (List.all_eq_true.mp e3.2.2.2.2 f e1)
  · have z := all_lookup o5 x i e
    dsimp only at z
    rw [e1] at z
    cases q : W.nsIn K mainGlobals x with
    | none => rw [q] at z; cases z
    | some r =>
      rw [q] at z
      cases r with
      | none => cases z
      | some u =>
        obtain ⟨w, r1, r2⟩ := gvB_ok v u z
        exact ⟨u, w, W.mg_of X G q, r1, fun H m => r2 _ H m⟩
  · exact W.mg_none_of X G (He.eqO_ok (List.all_eq_true.mp o6 x (by simpa using e)))
  · rw [e] at o7
    exact W.mg_of X G (He.eqO_ok (by simpa using o7))
end
/-! ### the hook -/
abbrev AlP : Type := He.AlD × Bool
def obsP (fn : List He.DefD) (ex : W.Frag → Bool) (K : W.Frag) : AlP := (He.obsD [] fn K, ex K)
def valP (fn : List He.DefD) : AlP := (He.valD fn, true)
def obsPG (n : Nat) (fn : List He.DefD) (ex : W.Frag → Bool) (g : Addr → Option Obj) : AlP := obsP fn ex (He.frG g (He.asD g n))
def hookP (n : Nat) (fn : List He.DefD) (ex : W.Frag → Bool) : W.Hook where
  α := AlP
  obs := fun s => obsPG n fn ex s.heap.get?
  val := fun _ => valP fn
  says := fun _ h => ∃ K : W.Frag, K.In h ∧ obsP fn ex K = valP fn
  of := fun _ _ e => ⟨_, He.frG_in, e⟩
  keeps := fun _ _ _ ⟨K, hK, c⟩ k => ⟨K, W.Frag.In.keeps hK k, c⟩
theorem obsPG_eq {n : Nat} {fn : List He.DefD} {ex : W.Frag → Bool} {g : Addr → Option Obj} {s : Shared} (h : ∀ a, g a = s.heap.get? a) : obsPG n fn ex g = (hookP n fn ex).obs s := by
  have e : g = s.heap.get? := funext h
  rw [e] <;> rfl
theorem says_p {fn : List He.DefD} {ex : W.Frag → Bool} {K : W.Frag} (c : obsP fn ex K = valP fn) : He.SaysD [] fn K ∧ ex K = true := ⟨congrArg (fun z : AlP => z.1) c, congrArg (fun z : AlP => z.2) c⟩
end Pv

set_option Elab.async false
set_option linter.all false
set_option maxRecDepth 100000
set_option maxHeartbeats 1000000
/-! The end: from the mirror's run to the row. -/
namespace Pv
open PySem PySem.Spec PyProof.Rows L2
/-- a law over a head by facts, with the script's bits -/
theorem walk_P {l : W.OpenLaw} {n k : Nat} {q : Program} {loose : List Str} {XP : (Str → Option Value) → Heap → Prop} {YP : World → Heap → Prop} {d : DefRec} {CX : CXT} {x : Str}
    (hn : l.most = some n) (hn2 : n ≤ sizeLine) (hdf : d.params.defaults = []) (hr : Room k callerA)
    (F : ∀ (w : World) (mg : Str → Option Value) (fa : Addr) (h : Heap), YP w h → h.Ns mainGlobals mg → mg d.name = some (.ref fa) →
      ∃ (K : W.Frag) (fd : FuncData) (sp : Sp), K.In h ∧ (∀ (s : Shared) (u : Value), BindsTo s fd ⟨[u], []⟩ [(x, u)]) ∧
        (∀ (H : Hp) (a : Addr) (ns : List Int), ns.length ≤ n → (∀ z ∈ ns, Builtin.Int.intBits z ≤ 1048576) → Only H → SqL K H a (ns.map V.int) → sp [.ref a] H (fun v _ => v = .bl true) fun _ _ _ => False) ∧
        ∀ base : Heap, K.In base → base.Ns mainGlobals mg → FnOk l.prog w K mg base CX k fa fd [x] sp)
    (hCX : ∀ (H : Hp) (s : Shared) (e : Value) (s' : Shared), CX [] H s (fun _ _ _ => False) e s' → False) :
    W.WalkO q loose XP YP l.row.toRowW d [] (fun f vs => PySem.call f vs) := by
  refine Att.attach_callB hn hdf fun w s₀ s₁ mg mb fa o pm cd doc a vs ns G Y ho hd hcd hmg hobj hints hlen hbits hg => ?_
  obtain ⟨K, fd, sp, KX, hb, hsp, hF⟩ := F w mg fa _ Y G.T.g hmg
  exact law_call KX G.T.g G.T.b G.T.builtins G.T.nolimit hg hobj hints (Nat.le_trans hlen hn2) hr hF hb (fun H hO hS => hsp H a ns hlen hbits hO hS) fun H e s' => hCX H s₁ e s'
/-- what the mirror says of the law: for some number of turns it is True -/
def LawSays (PR : Nat → Prog) (f k : Nat) (ns : List Int) : Prop := ∃ W st', (ev (PR W) k).call f [.scr ns] [] = .ok (.bl true) st'
def spLaw (PR : Nat → Prog) (f k : Nat) (cl : Nat → Addr) (K : W.Frag) : Sp := fun vs H Q E => ∃ W, spF K cl (ev (PR W) k) 1 f vs H Q E
theorem spLaw_ok {P : Program} {w : World} {K : W.Frag} {mg : Str → Option Value} {base : Heap} {PR : Nat → Prog} {f k : Nat} {a : Addr} {fd : FuncData} {x : Str} {cl : Nat → Addr} {D : Nat → Df} (hD : ∀ W, (D W).np = 1) (h : ∀ W, FnOk P w K mg base CX0 k a fd [x] (spF K cl (ev (PR W) k) (D W).np f)) : FnOk P w K mg base CX0 k a fd [x] (spLaw PR f k cl K) := by
  refine ⟨fun vs H Q E ⟨W, q⟩ => ?_, fun A outer s H args us vs Q E hr e0 hb hv ⟨W, q⟩ => ?_⟩
  · exact (h W).len vs H Q E (by rw [hD]; exact q)
  · exact (h W).run A outer s H args us vs Q E hr e0 hb hv (by rw [hD]; exact q)
theorem spLaw_in {K : W.Frag} {PR : Nat → Prog} {f k : Nat} {cl : Nat → Addr} {H : Hp} {a : Addr} {ns : List Int} (hl : LawSays PR f k ns) (hS : SqL K H a (ns.map V.int)) : spLaw PR f k cl K [.ref a] H (fun v _ => v = .bl true) fun _ _ _ => False := by
  obtain ⟨W, st', e⟩ := hl
  refine ⟨W, [], [], [.scr ns], ⟨rfl, List.nodup_nil, fun n a o h => by simp at h⟩, ⟨.ref a, [], rfl, ⟨a, rfl, ?_⟩, rfl⟩, rfl, ?_⟩
  · rcases hS with h | h
    · exact .inl ⟨h, by simp⟩
    · exact .inr h
  · rw [e]
    exact fun u H' m' _ _ r => r
end Pv

set_option Elab.async false
set_option linter.all false
set_option maxRecDepth 100000
set_option maxHeartbeats 1000000
/-! Rules by which the mirror is run. -/
namespace Pv
open PySem PySem.Spec PyProof.Rows L2
def ab (i : Int) : Int := if i < 0 then -i else i
theorem ab_nonneg (i : Int) : 0 ≤ ab i := by unfold ab; split <;> omega
theorem ab_natAbs (i : Int) : (ab i).natAbs = i.natAbs := by unfold ab; split <;> omega
section
variable {P : Prog} {k : Nat} {env : En} {st : Store}
@[simp] theorem Res.ok_bind {α β : Type} (a : α) (st : Store) (f : α → Store → Res β) : (Res.ok a st).bind f = f a st := rfl
@[simp] theorem Res.bad_bind {α β : Type} (f : α → Store → Res β) : (Res.bad : Res α).bind f = .bad := rfl
@[simp] theorem tl_some {α : Type} (a : α) (st : Store) : tl (some a) st = .ok a st := rfl
@[simp] theorem evL_nil (r : Ev) : evL r [] env st = .ok [] st := rfl
@[simp] theorem evL_cons (r : Ev) (e : Ex) (es : List Ex) : evL r (e :: es) env st = (r.E e env st).bind fun v st => (evL r es env st).bind fun vs st => .ok (v :: vs) st := rfl
@[simp] theorem blk_nil (r : Ev) : blk r [] env st = .ok (.nx, env) st := rfl
@[simp] theorem blk_cons (r : Ev) (s : Sm) (ss : List Sm) : blk r (s :: ss) env st = (r.S s env st).bind fun a st => match a with
    | (.nx, env) => blk r ss env st
    | (f, env) => .ok (f, env) st := rfl
/-! expressions -/
@[simp] theorem E_v (i : Nat) : (ev P (k + 1)).E (.v i) env st = match env[i]? with
    | some (some x) => .ok x st
    | _ => .bad := rfl
@[simp] theorem E_c (x : PV) : (ev P (k + 1)).E (.c x) env st = .ok x st := rfl
@[simp] theorem E_g (i : Nat) : (ev P (k + 1)).E (.g i) env st = tl P.gl[i]? st := rfl
@[simp] theorem E_bin (o : BOp) (a b : Ex) : (ev P (k + 1)).E (.bin o a b) env st = ((ev P k).E a env st).bind fun x st => ((ev P k).E b env st).bind fun y st => bin2 o x y st := rfl
@[simp] theorem E_cat (mu : Bool) (a b : Ex) : (ev P (k + 1)).E (.cat mu a b) env st = ((ev P k).E a env st).bind fun x st => ((ev P k).E b env st).bind fun y st => addL mu x y st := rfl
@[simp] theorem E_neg (a : Ex) : (ev P (k + 1)).E (.neg a) env st = ((ev P k).E a env st).bind fun x st => match x with
    | .int i => .ok (.int (-i)) st
    | _ => .bad := rfl
@[simp] theorem E_not (a : Ex) : (ev P (k + 1)).E (.not a) env st = ((ev P k).E a env st).bind fun x st => (tl (truth st x) st).bind fun b st => .ok (.bl (!b)) st := rfl
@[simp] theorem E_cmp (o : COp) (a b : Ex) : (ev P (k + 1)).E (.cmp o a b) env st = ((ev P k).E a env st).bind fun x st => ((ev P k).E b env st).bind fun y st => (tl (cmpR o x y st) st).bind fun b st => .ok (.bl b) st := rfl
@[simp] theorem E_chain (o p : COp) (a b c : Ex) : (ev P (k + 1)).E (.chain o p a b c) env st = ((ev P k).E a env st).bind fun x st => ((ev P k).E b env st).bind fun y st => (tl (cmpR o x y st) st).bind fun q st =>
      if q then ((ev P k).E c env st).bind fun z st => (tl (cmpR p y z st) st).bind fun k st => .ok (.bl k) st else .ok (.bl false) st := rfl
@[simp] theorem E_and (a b : Ex) : (ev P (k + 1)).E (.and a b) env st = ((ev P k).E a env st).bind fun x st => match x with
    | .bl true => (ev P k).E b env st
    | .bl false => .ok (.bl false) st
    | _ => .bad := rfl
@[simp] theorem E_or (a b : Ex) : (ev P (k + 1)).E (.or a b) env st = ((ev P k).E a env st).bind fun x st => match x with
    | .bl false => (ev P k).E b env st
    | .bl true => .ok (.bl true) st
    | _ => .bad := rfl
@[simp] theorem E_ite (c a b : Ex) : (ev P (k + 1)).E (.ite c a b) env st = ((ev P k).T c env st).bind fun q st => if q then (ev P k).E a env st else (ev P k).E b env st := rfl
@[simp] theorem E_tup (es : List Ex) : (ev P (k + 1)).E (.tup es) env st = (evL (ev P k) es env st).bind fun vs st => if vs.length ≤ sizeLine then .ok (.tup vs) st else .bad := rfl
@[simp] theorem E_lst (mu : Bool) (es : List Ex) : (ev P (k + 1)).E (.lst mu es) env st = (evL (ev P k) es env st).bind fun vs st => if vs.length ≤ sizeLine then mkL mu vs st else .bad := rfl
@[simp] theorem E_idx (a i : Ex) : (ev P (k + 1)).E (.idx a i) env st = ((ev P k).E a env st).bind fun x st => ((ev P k).E i env st).bind fun y st => match y with
    | .int i => match seqOf st x with
      | some (_, xs) => tl (atI xs i) st
      | none => .bad
    | _ => .bad := rfl
@[simp] theorem E_slc (a lo hi : Ex) : (ev P (k + 1)).E (.slc a lo hi) env st = ((ev P k).E a env st).bind fun x st => (partOf (ev P k) lo env st).bind fun l st => (partOf (ev P k) hi env st).bind fun h st => match x with
    | .tup xs => if HT.sIx xs.length 0 l = 0 ∧ HT.sIx xs.length xs.length h = xs.length then .bad else .ok (.tup (cutP xs l h)) st
    | .scr ns => .ok (.lst (cutP (ns.map .int) l h)) st
    | x => match seqOf st x with
      | some (false, xs) => .ok (.lst (cutP xs l h)) st
      | _ => .bad := rfl
@[simp] theorem E_attr (a : Ex) (f : Str) : (ev P (k + 1)).E (.attr a f) env st = ((ev P k).E a env st).bind fun x st => match insOf st x with
    | some (c, fs) => match P.kl[c]? with
      | some k => if f ∈ k.ats then tl (fs.lookup f) st else .bad
      | none => .bad
    | none => .bad := rfl
@[simp] theorem E_call (f : Nat) (es : List Ex) : (ev P (k + 1)).E (.call f es) env st = (evL (ev P k) es env st).bind fun vs st => match P.df[f]? with
    | some d => (ev P k).call f (pad d vs) st
    | none => .bad := rfl
@[simp] theorem E_new (c : Nat) (mu : Bool) (es : List Ex) : (ev P (k + 1)).E (.new c mu es) env st = (evL (ev P k) es env st).bind fun vs st => match P.kl[c]? with
    | some ⟨some f, _, _⟩ => match P.df[f]? with
      | some d => newI (ev P k) c f mu (pad { d with np := d.np - 1 } vs) st
      | none => .bad
    | _ => .bad := rfl
@[simp] theorem E_meth (a : Ex) (m : Str) (es : List Ex) : (ev P (k + 1)).E (.meth a m es) env st = ((ev P k).E a env st).bind fun x st => match insOf st x with
    | some (c, fs) => match P.kl[c]?, fs.lookup m with
      | some k', none => match k'.ms.lookup m with
        | some f => match P.df[f]? with
          | some d => (evL (ev P k) es env st).bind fun vs st => (ev P k).call f (x :: pad { d with np := d.np - 1 } vs) st
          | none => .bad
        | none => .bad
      | _, _ => .bad
    | none => .bad := rfl
@[simp] theorem E_bi (b : Bi) (es : List Ex) : (ev P (k + 1)).E (.bi b es) env st = (evL (ev P k) es env st).bind fun vs st => biF P.isl P.kl.length b vs st := rfl
theorem E_comp (mu : Bool) (e : Ex) (tg : Tg) (q : Ik) (its ts : List Ex) : (ev P (k + 1)).E (.comp mu e tg q its ts) env st = comp (ev P k) mu e tg q its ts env st := rfl
/-! tests -/
@[simp] theorem T_and (a b : Ex) : (ev P (k + 1)).T (.and a b) env st = ((ev P k).T a env st).bind fun q st => if q then (ev P k).T b env st else .ok false st := rfl
@[simp] theorem T_or (a b : Ex) : (ev P (k + 1)).T (.or a b) env st = ((ev P k).T a env st).bind fun q st => if q then .ok true st else (ev P k).T b env st := rfl
@[simp] theorem T_not (a : Ex) : (ev P (k + 1)).T (.not a) env st = ((ev P k).T a env st).bind fun q st => .ok (!q) st := rfl
@[simp] theorem T_ite (c a b : Ex) : (ev P (k + 1)).T (.ite c a b) env st = ((ev P k).T c env st).bind fun q st => if q then (ev P k).T a env st else (ev P k).T b env st := rfl
@[simp] theorem T_cmp (o : COp) (a b : Ex) : (ev P (k + 1)).T (.cmp o a b) env st = ((ev P k).E a env st).bind fun x st => ((ev P k).E b env st).bind fun y st => tl (cmpR o x y st) st := rfl
@[simp] theorem T_chain (o p : COp) (a b c : Ex) : (ev P (k + 1)).T (.chain o p a b c) env st = ((ev P k).E a env st).bind fun x st => ((ev P k).E b env st).bind fun y st => (tl (cmpR o x y st) st).bind fun q st =>
      if q then ((ev P k).E c env st).bind fun z st => tl (cmpR p y z st) st else .ok false st := rfl
@[simp] theorem T_call (f : Nat) (es : List Ex) : (ev P (k + 1)).T (.call f es) env st = ((ev P k).E (.call f es) env st).bind fun v st => tl (truth st v) st := rfl
@[simp] theorem T_meth (a : Ex) (m : Str) (es : List Ex) : (ev P (k + 1)).T (.meth a m es) env st = ((ev P k).E (.meth a m es) env st).bind fun v st => tl (truth st v) st := rfl
@[simp] theorem T_bi (b : Bi) (es : List Ex) : (ev P (k + 1)).T (.bi b es) env st = ((ev P k).E (.bi b es) env st).bind fun v st => tl (truth st v) st := rfl
@[simp] theorem T_comp (mu : Bool) (e : Ex) (tg : Tg) (q : Ik) (its ts : List Ex) : (ev P (k + 1)).T (.comp mu e tg q its ts) env st = ((ev P k).E (.comp mu e tg q its ts) env st).bind fun v st => tl (truth st v) st := rfl
@[simp] theorem T_v (i : Nat) : (ev P (k + 1)).T (.v i) env st = ((ev P k).E (.v i) env st).bind fun v st => tl (truth st v) st := rfl
/-! statements -/
@[simp] theorem S_set (t : Tg) (e : Ex) : (ev P (k + 1)).S (.set t e) env st = ((ev P k).E e env st).bind fun v st => (tl (asg t v env) st).bind fun env st => .ok (.nx, env) st := rfl
@[simp] theorem S_par (i j : Nat) (a b : Ex) : (ev P (k + 1)).S (.par i j a b) env st = ((ev P k).E a env st).bind fun x st => ((ev P k).E b env st).bind fun y st => .ok (.nx, (env.set i (some x)).set j (some y)) st := rfl
@[simp] theorem S_setIx (a i e : Ex) : (ev P (k + 1)).S (.setIx a i e) env st = ((ev P k).E e env st).bind fun v st => ((ev P k).E a env st).bind fun x st => ((ev P k).E i env st).bind fun y st => match x, y with
    | .ref n, .int q => match st[n]? with
      | some (.lst xs) => (tl (ixN xs.length q) st).bind fun j st => .ok (.nx, env) (st.set n (.lst (xs.set j v)))
      | _ => .bad
    | _, _ => .bad := rfl
@[simp] theorem S_setAt (a : Ex) (f : Str) (e : Ex) : (ev P (k + 1)).S (.setAt a f e) env st = ((ev P k).E e env st).bind fun v st => ((ev P k).E a env st).bind fun x st => match x with
    | .ref n => match st[n]? with
      | some (.ins c fs) => match P.kl[c]? with
        | some k => if f ∈ k.ats ∧ fs.length < 1000 then .ok (.nx, env) (st.set n (.ins c (putP f v fs))) else .bad
        | none => .bad
      | _ => .bad
    | _ => .bad := rfl
@[simp] theorem S_ex (e : Ex) : (ev P (k + 1)).S (.ex e) env st = ((ev P k).E e env st).bind fun _ st => .ok (.nx, env) st := rfl
@[simp] theorem S_app (a e : Ex) : (ev P (k + 1)).S (.app a e) env st = ((ev P k).E a env st).bind fun x st => match x with
    | .ref n => match st[n]? with
      | some (.lst _) => ((ev P k).E e env st).bind fun y st => (tl (push n y st) st).bind fun st' _ => .ok (.nx, env) st'
      | _ => .bad
    | _ => .bad := rfl
@[simp] theorem S_ext (a e : Ex) : (ev P (k + 1)).S (.ext a e) env st = ((ev P k).E a env st).bind fun x st => match x with
    | .ref n => match st[n]? with
      | some (.lst _) => ((ev P k).E e env st).bind fun y st => match seqOf st y, st[n]? with
        | some (false, ys), some (.lst xs) => if xs.length + ys.length ≤ sizeLine then .ok (.nx, env) (st.set n (.lst (xs ++ ys))) else .bad
        | _, _ => .bad
      | _ => .bad
    | _ => .bad := rfl
@[simp] theorem S_ite (c : Ex) (a b : List Sm) : (ev P (k + 1)).S (.ite c a b) env st = ((ev P k).T c env st).bind fun q st => if q then blk (ev P k) a env st else blk (ev P k) b env st := rfl
theorem S_whl (c : Ex) (b : List Sm) : (ev P (k + 1)).S (.whl c b) env st = whileN (ev P k) c b P.wf env st := rfl
theorem S_for (tg : Tg) (q : Ik) (its : List Ex) (b : List Sm) : (ev P (k + 1)).S (.for_ tg q its b) env st = (evL (ev P k) its env st).bind fun vs st => match walk q vs st with
    | some (xs, g) => forL (ev P k) tg b g xs env st
    | none => .bad := rfl
@[simp] theorem S_ret (e : Ex) : (ev P (k + 1)).S (.ret e) env st = ((ev P k).E e env st).bind fun v st => .ok (.ret v, env) st := rfl
@[simp] theorem S_retN : (ev P (k + 1)).S .retN env st = .ok (.ret .non, env) st := rfl
@[simp] theorem S_brk : (ev P (k + 1)).S .brk env st = .ok (.bk, env) st := rfl
@[simp] theorem S_cnt : (ev P (k + 1)).S .cnt env st = .ok (.ct, env) st := rfl
@[simp] theorem S_pass : (ev P (k + 1)).S .pass env st = .ok (.nx, env) st := rfl
@[simp] theorem S_bad : (ev P (k + 1)).S .bad env st = .bad := rfl
/-! calls -/
theorem C_call (f : Nat) (vs : List PV) : (ev P (k + 1)).call f vs st = stepC P (ev P k) f vs st := rfl
/-- a call by its body -/
theorem call_by {f : Nat} {d : Df} {vs : List PV} {v : PV} {fl : Fl} {env' : En} {st' : Store} {res : Res PV} (hd : P.df[f]? = some d) (hl : vs.length = d.np) (hn : d.np ≤ d.nn)
    (hb : blk (ev P k) d.body (vs.map some ++ List.replicate (d.nn - d.np) none) st = .ok (fl, env') st') (hf : (fl = .nx ∧ v = .non) ∨ fl = .ret v) (hr : done st d.mu v st' = res) : (ev P (k + 1)).call f vs st = res := by
  rw [C_call]
  unfold stepC
  rw [hd]
  dsimp only
  rw [if_pos ⟨hl, hn⟩, hb]
  rcases hf with ⟨rfl, rfl⟩ | rfl
  · exact hr
  · exact hr
@[simp] theorem done_same (mu : Bool) (v : PV) : done st mu v st = .ok v st := by
  unfold done
  rw [if_pos rfl]
theorem done_len {mu : Bool} {v : PV} {st' : Store} (h : st'.length = st.length) : done st mu v st' = .ok v st' := by
  unfold done
  rw [if_pos h]
/-! values -/
@[simp] theorem truth_bl (b : Bool) : truth st (.bl b) = some b := rfl
@[simp] theorem truth_int (i : Int) : truth st (.int i) = some (decide (i ≠ 0)) := rfl
@[simp] theorem truth_lst (xs : List PV) : truth st (.lst xs) = some (!xs.isEmpty) := rfl
@[simp] theorem seqOf_tup (xs : List PV) : seqOf st (.tup xs) = some (true, xs) := rfl
@[simp] theorem seqOf_lst (xs : List PV) : seqOf st (.lst xs) = some (false, xs) := rfl
theorem seqOf_ref {n : Nat} {xs : List PV} (h : st[n]? = some (.lst xs)) : seqOf st (.ref n) = some (false, xs) := by
  unfold seqOf
  dsimp only
  rw [h]
@[simp] theorem insOf_ins (c : Nat) (fs : List (Str × PV)) : insOf st (.ins c fs) = some (c, fs) := rfl
theorem insOf_ref {n c : Nat} {fs : List (Str × PV)} (h : st[n]? = some (.ins c fs)) : insOf st (.ref n) = some (c, fs) := by
  unfold insOf
  dsimp only
  rw [h]
@[simp] theorem mkL_f (xs : List PV) : mkL false xs st = .ok (.lst xs) st := rfl
@[simp] theorem mkL_t (xs : List PV) : mkL true xs st = .ok (.ref st.length) (st ++ [.lst xs]) := rfl
@[simp] theorem bin_add (i j : Int) : bin2 .add (.int i) (.int j) st = .ok (.int (i + j)) st := rfl
@[simp] theorem bin_sub (i j : Int) : bin2 .sub (.int i) (.int j) st = .ok (.int (i - j)) st := rfl
theorem bin_mul {i j : Int} (h : MulOk i j) : bin2 .mul (.int i) (.int j) st = .ok (.int (i * j)) st := by
  unfold bin2
  exact if_pos h
theorem bin_fdiv {i j : Int} (h : DivOk i j) : bin2 .fdiv (.int i) (.int j) st = .ok (.int (i.fdiv j)) st := by
  unfold bin2
  exact if_pos h
theorem bin_mod {i j : Int} (h : j ≠ 0) : bin2 .mod (.int i) (.int j) st = .ok (.int (i.fmod j)) st := by
  unfold bin2
  exact if_pos h
theorem bin_pow {i j : Int} (h : PowOk i j) : bin2 .pow (.int i) (.int j) st = .ok (.int (i ^ j.toNat)) st := by
  unfold bin2
  exact if_pos h
@[simp] theorem bin_tup (xs ys : List PV) : bin2 .add (.tup xs) (.tup ys) st = if xs.length + ys.length ≤ sizeLine then .ok (.tup (xs ++ ys)) st else .bad := rfl
@[simp] theorem cmp_lt (i j : Int) : cmpR .lt (.int i) (.int j) st = some (decide (i < j)) := rfl
@[simp] theorem cmp_le (i j : Int) : cmpR .le (.int i) (.int j) st = some (decide (i ≤ j)) := rfl
@[simp] theorem cmp_gt (i j : Int) : cmpR .gt (.int i) (.int j) st = some (decide (j < i)) := rfl
@[simp] theorem cmp_ge (i j : Int) : cmpR .ge (.int i) (.int j) st = some (decide (j ≤ i)) := rfl
@[simp] theorem cmp_isN (v : PV) : cmpR .isN v .non st = some (match v with | .non => true | _ => false) := rfl
@[simp] theorem cmp_notN (v : PV) : cmpR .notN v .non st = some (match v with | .non => false | _ => true) := rfl
@[simp] theorem cmp_eqI (i j : Int) : cmpR .eq (.int i) (.int j) st = some (decide (i = j)) := by
  show some (PyData.eqv (.int i) (.int j)) = _
  rw [PyData.eqv]
  rfl
@[simp] theorem cmp_neI (i j : Int) : cmpR .ne (.int i) (.int j) st = some (decide (i ≠ j)) := by
  show some (!PyData.eqv (.int i) (.int j)) = _
  rw [PyData.eqv]
  by_cases h : i = j <;> simp [h]
@[simp] theorem cmp_isC (a : PV) (b : Bool) : cmpR .isC a (.bl b) st = some (match a with | .bl d => decide (d = b) | _ => false) := rfl
@[simp] theorem cmp_notC (a : PV) (b : Bool) : cmpR .notC a (.bl b) st = some (!(match a with | .bl d => decide (d = b) | _ => false)) := rfl
/-- two things that read as the same data -/
theorem cmp_eq_same {a b : PV} {d : PyData} (ha : datOf st a = some d) (hb : datOf st b = some d) (hs : SeqAt.shaped d = true) : cmpR .eq a b st = some true := by
  show cmp2 .eq a b st = _
  unfold cmp2
  rw [ha, hb]
  dsimp only
  rw [if_pos ⟨hs, hs⟩, SeqAt.eqv_refl d (SeqAt.canLay_of_shaped hs)]
theorem cmp_ne_same {a b : PV} {d : PyData} (ha : datOf st a = some d) (hb : datOf st b = some d) (hs : SeqAt.shaped d = true) : cmpR .ne a b st = some false := by
  show cmp2 .ne a b st = _
  unfold cmp2
  rw [ha, hb]
  dsimp only
  rw [if_pos ⟨hs, hs⟩, SeqAt.eqv_refl d (SeqAt.canLay_of_shaped hs)]
  rfl
@[simp] theorem bi_len (l : List (Cs × Cs × Bool)) (n : Nat) (v : PV) : biF l n .len [v] st = match seqOf st v with
    | some (_, xs) => .ok (.int xs.length) st
    | none => .bad := rfl
@[simp] theorem bi_tuple (l : List (Cs × Cs × Bool)) (n : Nat) (v : PV) : biF l n .tuple [v] st = match seqOf st v with
    | some (_, xs) => .ok (.tup xs) st
    | none => .bad := rfl
@[simp] theorem bi_list (l : List (Cs × Cs × Bool)) (n : Nat) (mu : Bool) (v : PV) : biF l n (.list mu) [v] st = match seqOf st v with
    | some (_, xs) => mkL mu xs st
    | none => .bad := rfl
@[simp] theorem bi_abs (l : List (Cs × Cs × Bool)) (n : Nat) (i : Int) : biF l n .abs [.int i] st = .ok (.int (ab i)) st := rfl
@[simp] theorem bi_int (l : List (Cs × Cs × Bool)) (n : Nat) (i : Int) : biF l n .int [.int i] st = .ok (.int i) st := rfl
@[simp] theorem bi_gcd (l : List (Cs × Cs × Bool)) (n : Nat) (i j : Int) : biF l n .gcd [.int i, .int j] st = .ok (.int ((Nat.gcd i.natAbs j.natAbs : Nat) : Int)) st := rfl
@[simp] theorem bi_isi (l : List (Cs × Cs × Bool)) (n : Nat) (c : Cs) (v : PV) : biF l n (.isi c) [v] st = match (tyOf st v).bind fun t => if csOk n t then isaT l t c else none with
    | some r => .ok (.bl r) st
    | none => .bad := rfl
@[simp] theorem ty_int (i : Int) : tyOf st (.int i) = some (.ty "int") := rfl
@[simp] theorem ty_bl (i : Bool) : tyOf st (.bl i) = some (.ty "bool") := rfl
@[simp] theorem ty_tup (xs : List PV) : tyOf st (.tup xs) = some (.ty "tuple") := rfl
@[simp] theorem ty_lst (xs : List PV) : tyOf st (.lst xs) = some (.ty "list") := rfl
@[simp] theorem ty_non : tyOf st .non = some (.ty "NoneType") := rfl
@[simp] theorem csOk_ty (n : Nat) (x : String) : csOk n (.ty x) = true := rfl
@[simp] theorem isa_ty (l : List (Cs × Cs × Bool)) (x y : String) : isaT l (.ty x) (.ty y) = kitB x y := rfl
end
end Pv

set_option Elab.async false
set_option linter.all false
set_option maxRecDepth 100000
set_option maxHeartbeats 1000000
/-! Loops of the mirror. -/
namespace Pv
open PySem PySem.Spec PyProof.Rows L2
section
variable {P : Prog} {k : Nat} {env : En} {st : Store}
theorem forL_nil {r : Ev} {tg : Tg} {b : List Sm} {g : Store → Prop} (h : g st) : forL r tg b g [] env st = .ok (.nx, env) st := by
  unfold forL
  rw [if_pos h]
theorem forL_cons {r : Ev} {tg : Tg} {b : List Sm} {g : Store → Prop} {x : PV} {xs : List PV} {env' : En} (h : g st) (ha : asg tg x env = some env') : forL r tg b g (x :: xs) env st = (blk r b env' st).bind fun a st => match a with
    | (.nx, env) => forL r tg b g xs env st
    | (.ct, env) => forL r tg b g xs env st
    | (.bk, env) => .ok (.nx, env) st
    | (.ret v, env) => .ok (.ret v, env) st := by
  rw [forL, if_pos h, ha] <;> rfl
open Classical in
theorem forL_nilS {r : Ev} {tg : Tg} {b : List Sm} {g : Store → Prop} : forL r tg b g [] env st = if g st then .ok (.nx, env) st else .bad := by
  rw [forL]
open Classical in
theorem forL_consS {r : Ev} {tg : Tg} {b : List Sm} {g : Store → Prop} {x : PV} {xs : List PV} : forL r tg b g (x :: xs) env st = if g st then match asg tg x env with
      | some env => (blk r b env st).bind fun a st => match a with
        | (.nx, env) => forL r tg b g xs env st
        | (.ct, env) => forL r tg b g xs env st
        | (.bk, env) => .ok (.nx, env) st
        | (.ret v, env) => .ok (.ret v, env) st
      | none => .bad
    else .bad := by
  rw [forL] <;> rfl
@[simp] theorem walk_tup (xs : List PV) : walk .seq [.tup xs] st = some (xs, fun st' => seqOf st' (.tup xs) = some (true, xs)) := rfl
@[simp] theorem walk_lst (xs : List PV) : walk .seq [.lst xs] st = some (xs, fun st' => seqOf st' (.lst xs) = some (false, xs)) := rfl
theorem walk_ref {n : Nat} {xs : List PV} (h : st[n]? = some (.lst xs)) : walk .seq [.ref n] st = some (xs, fun st' => seqOf st' (.ref n) = some (false, xs)) := by
  unfold walk
  dsimp only
  rw [seqOf_ref h]
theorem walk_rng1 {j : Int} (h0 : 0 ≤ j) (h : j < 2 ^ 62) : walk .rng1 [.int j] st = some ((List.range j.toNat).map fun (i : Nat) => .int i, fun _ => True) := by
  unfold walk
  dsimp only
  rw [if_pos ⟨by omega, h⟩]
theorem walk_rng2 {i j : Int} (h0 : 0 ≤ i) (h0' : 0 ≤ j) (h : i < 2 ^ 62) (h' : j < 2 ^ 62) : walk .rng2 [.int i, .int j] st = some ((List.range (j - i).toNat).map fun (k : Nat) => .int (i + k), fun _ => True) := by
  unfold walk
  dsimp only
  rw [if_pos ⟨by omega, h, by omega, h'⟩]
/-- a loop by an invariant: J i env st holds ahead of the i-th turn; every turn goes on -/
theorem forL_inv {r : Ev} {tg : Tg} {b : List Sm} {g : Store → Prop} {xs : List PV} (J : Nat → En → Store → Prop)
    (hg : ∀ i env st, i ≤ xs.length → J i env st → g st)
    (hs : ∀ i x env st, xs[i]? = some x → J i env st → ∃ env1, asg tg x env = some env1 ∧ ∃ env2 st2, (blk r b env1 st = .ok (.nx, env2) st2 ∨ blk r b env1 st = .ok (.ct, env2) st2) ∧ J (i + 1) env2 st2) :
    ∀ (n i : Nat) (env : En) (st : Store), i + n = xs.length → J i env st → ∃ env' st', forL r tg b g (xs.drop i) env st = .ok (.nx, env') st' ∧ J xs.length env' st'
  | 0, i, env, st, hi, j => by
    obtain rfl : i = xs.length := by omega
    rw [List.drop_length]
    exact ⟨env, st, forL_nil (hg _ _ _ (Nat.le_refl _) j), j⟩
  | n + 1, i, env, st, hi, j => by
    have hlt : i < xs.length := by omega
    rw [List.drop_eq_getElem_cons hlt]
    obtain ⟨env1, ha, env2, st2, hb, j2⟩ := hs i xs[i] env st (List.getElem?_eq_getElem hlt) j
    rw [forL_cons (hg _ _ _ (by omega) j) ha]
    obtain ⟨env', st', e, j'⟩ := forL_inv J hg hs n (i + 1) env2 st2 (by omega) j2
    refine ⟨env', st', ?_, j'⟩
    rcases hb with hb | hb
    · rw [hb]
      exact e
    · rw [hb]
      exact e
theorem for_inv {r : Ev} {tg : Tg} {b : List Sm} {g : Store → Prop} {xs : List PV} (J : Nat → En → Store → Prop) (h0 : J 0 env st)
    (hg : ∀ i env st, i ≤ xs.length → J i env st → g st)
    (hs : ∀ i x env st, xs[i]? = some x → J i env st → ∃ env1, asg tg x env = some env1 ∧ ∃ env2 st2, (blk r b env1 st = .ok (.nx, env2) st2 ∨ blk r b env1 st = .ok (.ct, env2) st2) ∧ J (i + 1) env2 st2) :
    ∃ env' st', forL r tg b g xs env st = .ok (.nx, env') st' ∧ J xs.length env' st' := by
  have := forL_inv (r := r) (tg := tg) (b := b) (g := g) J hg hs xs.length 0 env st (by omega) h0
  simpa using this
/-- a comprehension by an invariant; the new list stands at d -/
theorem compL_nil {r : Ev} {e : Ex} {tg : Tg} {ts : List Ex} {g : Store → Prop} {d : Nat} (h : g st) : compL r e tg ts g d env [] st = .ok () st := by
  unfold compL
  rw [if_pos h]
theorem compL_cons {r : Ev} {e : Ex} {tg : Tg} {ts : List Ex} {g : Store → Prop} {d : Nat} {x : PV} {xs : List PV} {env' : En} (h : g st) (ha : asg tg x env = some env') : compL r e tg ts g d env (x :: xs) st = (tests r ts env' st).bind fun b st => if b then (r.E e env' st).bind fun y st => match push d y st with
          | some st => compL r e tg ts g d env xs st
          | none => .bad
        else compL r e tg ts g d env xs st := by
  rw [compL, if_pos h, ha] <;> rfl
theorem push_at {st0 : Store} {acc : List PV} {y : PV} {d : Nat} (hd : st0.length = d) (hl : acc.length < sizeLine) : push d y (st0 ++ [.lst acc]) = some (st0 ++ [.lst (acc ++ [y])]) := by
  subst hd
  unfold push
  rw [List.getElem?_append_right (Nat.le_refl _)]
  simp [hl]
/-- elements by a function, no tests, the store stays -/
theorem compL_map {r : Ev} {e : Ex} {tg : Tg} {g : Store → Prop} {d : Nat} {env : En} (f : PV → PV) {st0 : Store} (hd : st0.length = d) (hg : ∀ acc, g (st0 ++ [.lst acc])) :
    ∀ (xs acc : List PV), (∀ x ∈ xs, ∃ env1, asg tg x env = some env1 ∧ ∀ acc, r.E e env1 (st0 ++ [.lst acc]) = .ok (f x) (st0 ++ [.lst acc])) → acc.length + xs.length ≤ sizeLine → compL r e tg [] g d env xs (st0 ++ [.lst acc]) = .ok () (st0 ++ [.lst (acc ++ xs.map f)])
  | [], acc, h, hl => by simp [compL_nil (hg acc)]
  | x :: xs, acc, h, hl => by
    obtain ⟨env1, ha, he⟩ := h x (List.mem_cons_self ..)
    rw [List.length_cons] at hl
    rw [compL_cons (hg acc) ha]
    simp only [tests, Res.ok_bind, if_true]
    rw [he, Res.ok_bind, push_at hd (by omega)]
    dsimp only
    rw [compL_map f hd hg xs (acc ++ [f x]) (fun y hy => h y (List.mem_cons_of_mem _ hy)) (by simp; omega)]
    simp
/-- those that pass, the store stays -/
theorem compL_filter {r : Ev} {e c : Ex} {tg : Tg} {g : Store → Prop} {d : Nat} {env : En} (p : PV → Bool) (f : PV → PV) {st0 : Store} (hd : st0.length = d) (hg : ∀ acc, g (st0 ++ [.lst acc])) :
    ∀ (xs acc : List PV), (∀ x ∈ xs, ∃ env1, asg tg x env = some env1 ∧ (∀ acc, r.T c env1 (st0 ++ [.lst acc]) = .ok (p x) (st0 ++ [.lst acc])) ∧ (p x = true → ∀ acc, r.E e env1 (st0 ++ [.lst acc]) = .ok (f x) (st0 ++ [.lst acc]))) → acc.length + xs.length ≤ sizeLine → compL r e tg [c] g d env xs (st0 ++ [.lst acc]) = .ok () (st0 ++ [.lst (acc ++ (xs.filter p).map f)])
  | [], acc, h, hl => by simp [compL_nil (hg acc)]
  | x :: xs, acc, h, hl => by
    obtain ⟨env1, ha, ht, he⟩ := h x (List.mem_cons_self ..)
    rw [List.length_cons] at hl
    rw [compL_cons (hg acc) ha]
    simp only [tests]
    rw [ht, Res.ok_bind]
    cases hp : p x with
    | true =>
      simp only [if_true]
      rw [he hp, Res.ok_bind, push_at hd (by omega)]
      dsimp only
      rw [compL_filter p f hd hg xs (acc ++ [f x]) (fun y hy => h y (List.mem_cons_of_mem _ hy)) (by simp; omega)]
      simp [hp]
    | false =>
      simp only [Bool.false_eq_true, if_false]
      rw [compL_filter p f hd hg xs acc (fun y hy => h y (List.mem_cons_of_mem _ hy)) (by omega)]
      simp [hp]
/-- a list that is handed back frozen -/
theorem done_new {mu : Bool} {v w : PV} {st' : Store} (h : st'.length ≠ st.length) (ho : OldOk st st') (hm : mu = false ∨ ∀ n, v ≠ .ref n) (hf : frz (onRef st' st.length st'.length 3) v = some w) : done st mu v st' = .ok w (st'.take st.length) := by
  unfold done
  rw [if_neg h, if_pos ho]
  have key : (match frz (onRef st' st.length st'.length 3) v with
      | some v' => Res.ok v' (st'.take st.length)
      | none => .bad) = .ok w (st'.take st.length) := by rw [hf]
  rcases hm with rfl | hm
  · exact key
  · cases mu with
    | false => exact key
    | true =>
      cases v with
      | ref n => exact absurd rfl (hm n)
      | _ => exact key
theorem oldOk_app (l : Store) : OldOk st (st ++ l) := ⟨by simp, fun n hn => .inl (List.getElem?_append_left hn)⟩
/-- what a comprehension lays is let go: its list, frozen -/
theorem done_list {st : Store} {ys zs : List PV} (hz : ∀ f, frzL f ys = some zs) : done st false (.ref st.length) (st ++ [.lst ys]) = .ok (.lst zs) st := by
  have h : frz (onRef (st ++ [SO.lst ys]) st.length (st ++ [SO.lst ys]).length 3) (.ref st.length) = some (.lst zs) := by
    unfold frz
    show onRef _ _ _ 3 _ = _
    unfold onRef
    rw [if_neg (Nat.lt_irrefl _), if_neg (by simp), List.getElem?_append_right (Nat.le_refl _), Nat.sub_self]
    dsimp only [List.getElem?_cons_zero]
    rw [hz]
  rw [done_new (by simp) (oldOk_app _) (.inl rfl) h, List.take_left']
  rfl
theorem comp_map {r : Ev} {e : Ex} {tg : Tg} {kk : Ik} {its : List Ex} {vs xs : List PV} {g : Store → Prop} (f : PV → PV) (hi : evL r its env st = .ok vs st) (hw : walk kk vs st = some (xs, g)) (hg : ∀ acc, g (st ++ [.lst acc]))
    (he : ∀ x ∈ xs, ∃ env1, asg tg x (wipeE env (slots tg)) = some env1 ∧ ∀ acc, r.E e env1 (st ++ [.lst acc]) = .ok (f x) (st ++ [.lst acc])) (hl : xs.length ≤ sizeLine) (hz : ∀ ff, frzL ff (xs.map f) = some (xs.map f)) : comp r false e tg kk its [] env st = .ok (.lst (xs.map f)) st := by
  unfold comp
  rw [hi, Res.ok_bind, hw]
  dsimp only
  rw [compL_map f rfl hg xs [] he (by simpa using hl)]
  rw [Res.ok_bind, if_neg (by decide), List.nil_append]
  exact done_list hz
theorem comp_filter {r : Ev} {e c : Ex} {tg : Tg} {kk : Ik} {its : List Ex} {vs xs : List PV} {g : Store → Prop} (p : PV → Bool) (f : PV → PV) (hi : evL r its env st = .ok vs st) (hw : walk kk vs st = some (xs, g)) (hg : ∀ acc, g (st ++ [.lst acc]))
    (he : ∀ x ∈ xs, ∃ env1, asg tg x (wipeE env (slots tg)) = some env1 ∧ (∀ acc, r.T c env1 (st ++ [.lst acc]) = .ok (p x) (st ++ [.lst acc])) ∧ (p x = true → ∀ acc, r.E e env1 (st ++ [.lst acc]) = .ok (f x) (st ++ [.lst acc]))) (hl : xs.length ≤ sizeLine) (hz : ∀ ff, frzL ff ((xs.filter p).map f) = some ((xs.filter p).map f)) : comp r false e tg kk its [c] env st = .ok (.lst ((xs.filter p).map f)) st := by
  unfold comp
  rw [hi, Res.ok_bind, hw]
  dsimp only
  rw [compL_filter p f rfl hg xs [] he (by simpa using hl)]
  rw [Res.ok_bind, if_neg (by decide), List.nil_append]
  exact done_list hz
theorem blsOf_true {α : Type} : ∀ l : List α, blsOf (l.map fun _ => PV.bl true) = some (l.map fun _ => true)
  | [] => rfl
  | x :: l => by
    rw [List.map_cons, blsOf, blsOf_true l]
    rfl
theorem frzL_true {α : Type} (f : Nat → Option PV) : ∀ l : List α, frzL f (l.map fun _ => PV.bl true) = some (l.map fun _ => PV.bl true)
  | [] => rfl
  | x :: l => by
    rw [List.map_cons]
    unfold frzL
    rw [frzL_true f l]
    rfl
theorem app_get {a : Nat} {o : SO} {l : Store} (h : st[a]? = some o) : (st ++ l)[a]? = some o := by
  rw [List.getElem?_append_left (List.getElem?_eq_some_iff.mp h).1]
  exact h
end
end Pv

set_option Elab.async false
set_option linter.all false
set_option maxRecDepth 100000
set_option maxHeartbeats 1000000
namespace Lk
open PySem PySem.Spec PyProof.Rows L2 Pv
def top (i : Nat) : Stmt := PySem.Challenge.pw_untaughthelm_k00_numbers_of_every_field.main.body.getD i (.Pass ⟨0, 0, 0, 0⟩)
/-- is_whole -/
abbrev s0 : Stmt := top 9
def d0 : He.DefD := ⟨("is_whole", none), "is_whole", "is_whole", defArgs s0, defBody s0, defScope s0, [.non, .non], []⟩
def N0 : List Str := ["thing", "low", "high"]
def b0 : List Sm := [.ite (.or (.not (.bi (.isi (.ty "int")) [(.v 0)])) (.bi (.isi (.ty "bool")) [(.v 0)])) [.ret (.c (.bl false))] [], .ret (.and (.or (.cmp .isN (.v 1) (.c .non)) (.cmp .ge (.v 0) (.v 1))) (.or (.cmp .isN (.v 2) (.c .non)) (.cmp .le (.v 0) (.v 2))))]
def D0 : Df := ⟨3, [.non, .non], 3, false, b0⟩
/-- is_ratio -/
abbrev s1 : Stmt := top 10
def d1 : He.DefD := ⟨("is_ratio", none), "is_ratio", "is_ratio", defArgs s1, defBody s1, defScope s1, [], []⟩
def N1 : List Str := ["thing", "top", "bottom"]
def b1 : List Sm := [.ite (.or (.not (.bi (.isi (.ty "tuple")) [(.v 0)])) (.cmp .ne (.bi .len [(.v 0)]) (.c (.int 2)))) [.ret (.c (.bl false))] [], .set (.t [(.n 1), (.n 2)]) (.v 0), .ret (.and (.call 0 [(.v 1)]) (.and (.call 0 [(.v 2), (.c (.int 1))]) (.cmp .eq (.bi .gcd [(.v 1), (.v 2)]) (.c (.int 1)))))]
def D1 : Df := ⟨1, [], 3, false, b1⟩
/-- make_ratio -/
abbrev s2 : Stmt := top 11
def d2 : He.DefD := ⟨("make_ratio", none), "make_ratio", "make_ratio", defArgs s2, defBody s2, defScope s2, [(.int 1)], []⟩
def N2 : List Str := ["top", "bottom"]
def b2 : List Sm := [.ite (.not (.call 0 [(.v 0)])) [.bad] [], .ite (.or (.not (.call 0 [(.v 1)])) (.cmp .eq (.v 1) (.c (.int 0)))) [.bad] [], .ret (.call 3 [(.v 0), (.v 1)])]
def D2 : Df := ⟨2, [(.int 1)], 2, false, b2⟩
/-- _in_lowest_terms -/
abbrev s3 : Stmt := top 12
def d3 : He.DefD := ⟨("_in_lowest_terms", none), "_in_lowest_terms", "_in_lowest_terms", defArgs s3, defBody s3, defScope s3, [], []⟩
def N3 : List Str := ["top", "bottom", "common"]
def b3 : List Sm := [.set (.n 2) (.bi .gcd [(.v 0), (.v 1)]), .ite (.cmp .lt (.v 1) (.c (.int 0))) [.set (.n 2) (.neg (.v 2))] [], .ret (.tup [(.bin .fdiv (.v 0) (.v 2)), (.bin .fdiv (.v 1) (.v 2))])]
def D3 : Df := ⟨2, [], 3, false, b3⟩
/-- ratio_plus -/
abbrev s4 : Stmt := top 13
def d4 : He.DefD := ⟨("ratio_plus", none), "ratio_plus", "ratio_plus", defArgs s4, defBody s4, defScope s4, [], []⟩
def N4 : List Str := ["one", "other"]
def b4 : List Sm := [.ret (.call 3 [(.bin .add (.bin .mul (.idx (.v 0) (.c (.int 0))) (.idx (.v 1) (.c (.int 1)))) (.bin .mul (.idx (.v 1) (.c (.int 0))) (.idx (.v 0) (.c (.int 1))))), (.bin .mul (.idx (.v 0) (.c (.int 1))) (.idx (.v 1) (.c (.int 1))))])]
def D4 : Df := ⟨2, [], 2, false, b4⟩
/-- ratio_minus -/
abbrev s5 : Stmt := top 14
def d5 : He.DefD := ⟨("ratio_minus", none), "ratio_minus", "ratio_minus", defArgs s5, defBody s5, defScope s5, [], []⟩
def N5 : List Str := ["one", "other"]
def b5 : List Sm := [.ret (.call 3 [(.bin .sub (.bin .mul (.idx (.v 0) (.c (.int 0))) (.idx (.v 1) (.c (.int 1)))) (.bin .mul (.idx (.v 1) (.c (.int 0))) (.idx (.v 0) (.c (.int 1))))), (.bin .mul (.idx (.v 0) (.c (.int 1))) (.idx (.v 1) (.c (.int 1))))])]
def D5 : Df := ⟨2, [], 2, false, b5⟩
/-- ratio_times -/
abbrev s6 : Stmt := top 15
def d6 : He.DefD := ⟨("ratio_times", none), "ratio_times", "ratio_times", defArgs s6, defBody s6, defScope s6, [], []⟩
def N6 : List Str := ["one", "other"]
def b6 : List Sm := [.ret (.call 3 [(.bin .mul (.idx (.v 0) (.c (.int 0))) (.idx (.v 1) (.c (.int 0)))), (.bin .mul (.idx (.v 0) (.c (.int 1))) (.idx (.v 1) (.c (.int 1))))])]
def D6 : Df := ⟨2, [], 2, false, b6⟩
/-- ratio_over -/
abbrev s7 : Stmt := top 16
def d7 : He.DefD := ⟨("ratio_over", none), "ratio_over", "ratio_over", defArgs s7, defBody s7, defScope s7, [], []⟩
def N7 : List Str := ["one", "other"]
def b7 : List Sm := [.ret (.call 3 [(.bin .mul (.idx (.v 0) (.c (.int 0))) (.idx (.v 1) (.c (.int 1)))), (.bin .mul (.idx (.v 0) (.c (.int 1))) (.idx (.v 1) (.c (.int 0))))])]
def D7 : Df := ⟨2, [], 2, false, b7⟩
/-- ratio_negative -/
abbrev s8 : Stmt := top 17
def d8 : He.DefD := ⟨("ratio_negative", none), "ratio_negative", "ratio_negative", defArgs s8, defBody s8, defScope s8, [], []⟩
def N8 : List Str := ["one"]
def b8 : List Sm := [.ret (.tup [(.neg (.idx (.v 0) (.c (.int 0)))), (.idx (.v 0) (.c (.int 1)))])]
def D8 : Df := ⟨1, [], 1, false, b8⟩
/-- ratio_size -/
abbrev s9 : Stmt := top 18
def d9 : He.DefD := ⟨("ratio_size", none), "ratio_size", "ratio_size", defArgs s9, defBody s9, defScope s9, [], []⟩
def N9 : List Str := ["one"]
def b9 : List Sm := [.ret (.tup [(.bi .abs [(.idx (.v 0) (.c (.int 0)))]), (.idx (.v 0) (.c (.int 1)))])]
def D9 : Df := ⟨1, [], 1, false, b9⟩
/-- compare_ratios -/
abbrev s10 : Stmt := top 19
def d10 : He.DefD := ⟨("compare_ratios", none), "compare_ratios", "compare_ratios", defArgs s10, defBody s10, defScope s10, [], []⟩
def N10 : List Str := ["one", "other", "left", "right"]
def b10 : List Sm := [.set (.n 2) (.bin .mul (.idx (.v 0) (.c (.int 0))) (.idx (.v 1) (.c (.int 1)))), .set (.n 3) (.bin .mul (.idx (.v 1) (.c (.int 0))) (.idx (.v 0) (.c (.int 1)))), .ite (.cmp .eq (.v 2) (.v 3)) [.ret (.c (.int 0))] [], .ret (.ite (.cmp .lt (.v 2) (.v 3)) (.neg (.c (.int 1))) (.c (.int 1)))]
def D10 : Df := ⟨2, [], 4, false, b10⟩
/-- least_ratio -/
abbrev s11 : Stmt := top 20
def d11 : He.DefD := ⟨("least_ratio", none), "least_ratio", "least_ratio", defArgs s11, defBody s11, defScope s11, [], []⟩
def N11 : List Str := ["things", "least", "thing"]
def b11 : List Sm := [.set (.n 1) (.idx (.v 0) (.c (.int 0))), .for_ (.n 2) .seq [(.v 0)] [.ite (.cmp .lt (.call 10 [(.v 2), (.v 1)]) (.c (.int 0))) [.set (.n 1) (.v 2)] []], .ret (.v 1)]
def D11 : Df := ⟨1, [], 3, false, b11⟩
/-- greatest_ratio -/
abbrev s12 : Stmt := top 21
def d12 : He.DefD := ⟨("greatest_ratio", none), "greatest_ratio", "greatest_ratio", defArgs s12, defBody s12, defScope s12, [], []⟩
def N12 : List Str := ["things", "greatest", "thing"]
def b12 : List Sm := [.set (.n 1) (.idx (.v 0) (.c (.int 0))), .for_ (.n 2) .seq [(.v 0)] [.ite (.cmp .gt (.call 10 [(.v 2), (.v 1)]) (.c (.int 0))) [.set (.n 1) (.v 2)] []], .ret (.v 1)]
def D12 : Df := ⟨1, [], 3, false, b12⟩
/-- Field.__init__ -/
abbrev s13 : Stmt := inClass (top 25) 0
def d13 : He.DefD := ⟨("Field", some "__init__"), "__init__", "Field.__init__", defArgs s13, defBody s13, defScope s13, [.non], []⟩
def N13 : List Str := ["self", "prime"]
def b13 : List Sm := [.ite (.and (.cmp .notN (.v 1) (.c .non)) (.not (.and (.call 0 [(.v 1)]) (.cmp .mem (.v 1) (.g 2))))) [.bad] [], .setAt (.v 0) "prime" (.v 1), .setAt (.v 0) "_inverses" (.ite (.cmp .isN (.v 1) (.c .non)) (.tup []) (.call 21 [(.v 1)]))]
def D13 : Df := ⟨2, [.non], 2, false, b13⟩
/-- Field.number -/
abbrev s14 : Stmt := inClass (top 25) 2
def d14 : He.DefD := ⟨("Field", some "number"), "number", "Field.number", defArgs s14, defBody s14, defScope s14, [(.int 1)], []⟩
def N14 : List Str := ["self", "top", "bottom"]
def b14 : List Sm := [.ite (.cmp .isN (.attr (.v 0) "prime") (.c .non)) [.ret (.call 2 [(.v 1), (.v 2)])] [], .ite (.not (.call 0 [(.v 1)])) [.bad] [], .ite (.or (.not (.call 0 [(.v 2)])) (.cmp .eq (.bin .mod (.v 2) (.attr (.v 0) "prime")) (.c (.int 0)))) [.bad] [], .ret (.meth (.v 0) "over" [(.tup [(.bin .mod (.v 1) (.attr (.v 0) "prime")), (.c (.int 1))]), (.tup [(.bin .mod (.v 2) (.attr (.v 0) "prime")), (.c (.int 1))])])]
def D14 : Df := ⟨3, [(.int 1)], 3, false, b14⟩
/-- Field.holds -/
abbrev s15 : Stmt := inClass (top 25) 3
def d15 : He.DefD := ⟨("Field", some "holds"), "holds", "Field.holds", defArgs s15, defBody s15, defScope s15, [], []⟩
def N15 : List Str := ["self", "thing"]
def b15 : List Sm := [.ite (.cmp .isN (.attr (.v 0) "prime") (.c .non)) [.ret (.call 1 [(.v 1)])] [], .ite (.or (.not (.bi (.isi (.ty "tuple")) [(.v 1)])) (.cmp .ne (.bi .len [(.v 1)]) (.c (.int 2)))) [.ret (.c (.bl false))] [], .ret (.and (.call 0 [(.idx (.v 1) (.c (.int 0))), (.c (.int 0)), (.bin .sub (.attr (.v 0) "prime") (.c (.int 1)))]) (.call 0 [(.idx (.v 1) (.c (.int 1))), (.c (.int 1)), (.c (.int 1))]))]
def D15 : Df := ⟨2, [], 2, false, b15⟩
/-- Field.plus -/
abbrev s16 : Stmt := inClass (top 25) 5
def d16 : He.DefD := ⟨("Field", some "plus"), "plus", "Field.plus", defArgs s16, defBody s16, defScope s16, [], []⟩
def N16 : List Str := ["self", "one", "other"]
def b16 : List Sm := [.ite (.cmp .isN (.attr (.v 0) "prime") (.c .non)) [.ret (.call 4 [(.v 1), (.v 2)])] [], .ret (.tup [(.bin .mod (.bin .add (.idx (.v 1) (.c (.int 0))) (.idx (.v 2) (.c (.int 0)))) (.attr (.v 0) "prime")), (.c (.int 1))])]
def D16 : Df := ⟨3, [], 3, false, b16⟩
/-- Field.minus -/
abbrev s17 : Stmt := inClass (top 25) 6
def d17 : He.DefD := ⟨("Field", some "minus"), "minus", "Field.minus", defArgs s17, defBody s17, defScope s17, [], []⟩
def N17 : List Str := ["self", "one", "other"]
def b17 : List Sm := [.ite (.cmp .isN (.attr (.v 0) "prime") (.c .non)) [.ret (.call 5 [(.v 1), (.v 2)])] [], .ret (.tup [(.bin .mod (.bin .sub (.idx (.v 1) (.c (.int 0))) (.idx (.v 2) (.c (.int 0)))) (.attr (.v 0) "prime")), (.c (.int 1))])]
def D17 : Df := ⟨3, [], 3, false, b17⟩
/-- Field.times -/
abbrev s18 : Stmt := inClass (top 25) 7
def d18 : He.DefD := ⟨("Field", some "times"), "times", "Field.times", defArgs s18, defBody s18, defScope s18, [], []⟩
def N18 : List Str := ["self", "one", "other"]
def b18 : List Sm := [.ite (.cmp .isN (.attr (.v 0) "prime") (.c .non)) [.ret (.call 6 [(.v 1), (.v 2)])] [], .ret (.tup [(.bin .mod (.bin .mul (.idx (.v 1) (.c (.int 0))) (.idx (.v 2) (.c (.int 0)))) (.attr (.v 0) "prime")), (.c (.int 1))])]
def D18 : Df := ⟨3, [], 3, false, b18⟩
/-- Field.over -/
abbrev s19 : Stmt := inClass (top 25) 8
def d19 : He.DefD := ⟨("Field", some "over"), "over", "Field.over", defArgs s19, defBody s19, defScope s19, [], []⟩
def N19 : List Str := ["self", "one", "other"]
def b19 : List Sm := [.ite (.cmp .isN (.attr (.v 0) "prime") (.c .non)) [.ret (.call 7 [(.v 1), (.v 2)])] [], .ret (.tup [(.bin .mod (.bin .mul (.idx (.v 1) (.c (.int 0))) (.idx (.attr (.v 0) "_inverses") (.idx (.v 2) (.c (.int 0))))) (.attr (.v 0) "prime")), (.c (.int 1))])]
def D19 : Df := ⟨3, [], 3, false, b19⟩
/-- Field.negative -/
abbrev s20 : Stmt := inClass (top 25) 9
def d20 : He.DefD := ⟨("Field", some "negative"), "negative", "Field.negative", defArgs s20, defBody s20, defScope s20, [], []⟩
def N20 : List Str := ["self", "one"]
def b20 : List Sm := [.ite (.cmp .isN (.attr (.v 0) "prime") (.c .non)) [.ret (.call 8 [(.v 1)])] [], .ret (.tup [(.bin .mod (.neg (.idx (.v 1) (.c (.int 0)))) (.attr (.v 0) "prime")), (.c (.int 1))])]
def D20 : Df := ⟨2, [], 2, false, b20⟩
/-- _inverse_rests -/
abbrev s21 : Stmt := top 26
def d21 : He.DefD := ⟨("_inverse_rests", none), "_inverse_rests", "_inverse_rests", defArgs s21, defBody s21, defScope s21, [], []⟩
def N21 : List Str := ["prime", "inverses", "rest"]
def b21 : List Sm := [.set (.n 1) (.lst true [(.c (.int 0)), (.c (.int 1))]), .for_ (.n 2) .rng2 [(.c (.int 2)), (.v 0)] [.app (.v 1) (.bin .mod (.bin .mul (.neg (.bin .fdiv (.v 0) (.v 2))) (.idx (.v 1) (.bin .mod (.v 0) (.v 2)))) (.v 0))], .ret (.bi .tuple [(.v 1)])]
def D21 : Df := ⟨1, [], 3, false, b21⟩
/-- _law_bag -/
abbrev s22 : Stmt := top 28
def d22 : He.DefD := ⟨("_law_bag", none), "_law_bag", "_law_bag", defArgs s22, defBody s22, defScope s22, [], []⟩
def N22 : List Str := ["script", "cells", "cell"]
def b22 : List Sm := [.set (.n 1) (.comp false (.bi .abs [(.v 2)]) (.n 2) .seq [(.slc (.v 0) .nil (.c (.int 63)))] []), .ite (.cmp .eq (.bi .len [(.v 1)]) (.c (.int 0))) [.set (.n 1) (.lst false [(.c (.int 5))])] [], .ret (.lst true [(.v 1), (.c (.int 0)), (.c (.int 0))])]
def D22 : Df := ⟨1, [], 3, true, b22⟩
/-- _law_draw -/
abbrev s23 : Stmt := top 29
def d23 : He.DefD := ⟨("_law_draw", none), "_law_draw", "_law_draw", defArgs s23, defBody s23, defScope s23, [], []⟩
def N23 : List Str := ["bag", "limit", "digit", "turn", "cells", "cell", "mixed"]
def b23 : List Sm := [.ite (.cmp .gt (.idx (.v 0) (.c (.int 2))) (.c (.int 0))) [.set (.n 2) (.bin .mod (.bi .int [(.idx (.v 0) (.c (.int 2)))]) (.v 1)), .setIx (.v 0) (.c (.int 2)) (.bin .fdiv (.idx (.v 0) (.c (.int 2))) (.v 1)), .ret (.v 2)] [], .set (.n 3) (.idx (.v 0) (.c (.int 1))), .setIx (.v 0) (.c (.int 1)) (.bin .add (.v 3) (.c (.int 1))), .set (.n 4) (.idx (.v 0) (.c (.int 0))), .set (.n 5) (.idx (.v 4) (.bin .mod (.bi .int [(.v 3)]) (.bi .len [(.v 4)]))), .ite (.and (.cmp .lt (.v 3) (.bi .len [(.v 4)])) (.cmp .ge (.v 5) (.bin .pow (.c (.int 10)) (.c (.int 18))))) [.setIx (.v 0) (.c (.int 2)) (.bin .fdiv (.v 5) (.v 1)), .ret (.bin .mod (.bi .int [(.v 5)]) (.v 1))] [], .set (.n 6) (.bin .mod (.bi .int [(.bin .add (.bin .add (.bin .mul (.bin .add (.v 5) (.c (.int 17))) (.c (.int 48271))) (.bin .mul (.bin .mul (.v 3) (.v 3)) (.c (.int 7919)))) (.bin .mul (.v 3) (.c (.int 104729))))]) (.c (.int 2147483647))), .set (.n 6) (.bin .mod (.bi .int [(.bin .add (.bin .mul (.v 6) (.c (.int 69621))) (.bin .mul (.bin .add (.v 3) (.c (.int 3))) (.c (.int 40692))))]) (.c (.int 2147483399))), .ret (.bin .mod (.bi .int [(.bin .fdiv (.v 6) (.c (.int 8)))]) (.v 1))]
def D23 : Df := ⟨2, [], 7, false, b23⟩
/-- _law_gcd -/
abbrev s24 : Stmt := top 30
def d24 : He.DefD := ⟨("_law_gcd", none), "_law_gcd", "_law_gcd", defArgs s24, defBody s24, defScope s24, [], []⟩
def N24 : List Str := ["one", "other"]
def b24 : List Sm := [.whl (.cmp .ne (.v 1) (.c (.int 0))) [.par 0 1 (.v 1) (.bin .mod (.bi .int [(.v 0)]) (.v 1))], .ret (.v 0)]
def D24 : Df := ⟨2, [], 2, false, b24⟩
/-- _law_make -/
abbrev s25 : Stmt := top 31
def d25 : He.DefD := ⟨("_law_make", none), "_law_make", "_law_make", defArgs s25, defBody s25, defScope s25, [], []⟩
def N25 : List Str := ["p", "top", "bottom", "found", "k", "common"]
def b25 : List Sm := [.ite (.cmp .gt (.v 0) (.c (.int 0))) [.set (.n 3) (.c (.int 0)), .for_ (.n 4) .rng1 [(.v 0)] [.ite (.cmp .eq (.bin .mod (.bi .int [(.bin .mul (.v 2) (.v 4))]) (.v 0)) (.c (.int 1))) [.set (.n 3) (.v 4)] []], .ret (.tup [(.bin .mod (.bi .int [(.bin .mul (.v 1) (.v 3))]) (.v 0)), (.c (.int 1))])] [], .ite (.cmp .lt (.v 2) (.c (.int 0))) [.par 1 2 (.bin .sub (.c (.int 0)) (.v 1)) (.bin .sub (.c (.int 0)) (.v 2))] [], .set (.n 5) (.call 24 [(.bi .abs [(.v 1)]), (.v 2)]), .ret (.tup [(.bin .fdiv (.v 1) (.v 5)), (.bin .fdiv (.v 2) (.v 5))])]
def D25 : Df := ⟨3, [], 6, false, b25⟩
/-- _law_plus -/
abbrev s26 : Stmt := top 32
def d26 : He.DefD := ⟨("_law_plus", none), "_law_plus", "_law_plus", defArgs s26, defBody s26, defScope s26, [], []⟩
def N26 : List Str := ["p", "one", "other"]
def b26 : List Sm := [.ite (.cmp .gt (.v 0) (.c (.int 0))) [.ret (.tup [(.bin .mod (.bi .int [(.bin .add (.idx (.v 1) (.c (.int 0))) (.idx (.v 2) (.c (.int 0))))]) (.v 0)), (.c (.int 1))])] [], .ret (.call 25 [(.c (.int 0)), (.bin .add (.bin .mul (.idx (.v 1) (.c (.int 0))) (.idx (.v 2) (.c (.int 1)))) (.bin .mul (.idx (.v 2) (.c (.int 0))) (.idx (.v 1) (.c (.int 1))))), (.bin .mul (.idx (.v 1) (.c (.int 1))) (.idx (.v 2) (.c (.int 1))))])]
def D26 : Df := ⟨3, [], 3, false, b26⟩
/-- _law_times -/
abbrev s27 : Stmt := top 33
def d27 : He.DefD := ⟨("_law_times", none), "_law_times", "_law_times", defArgs s27, defBody s27, defScope s27, [], []⟩
def N27 : List Str := ["p", "one", "other"]
def b27 : List Sm := [.ite (.cmp .gt (.v 0) (.c (.int 0))) [.ret (.tup [(.bin .mod (.bi .int [(.bin .mul (.idx (.v 1) (.c (.int 0))) (.idx (.v 2) (.c (.int 0))))]) (.v 0)), (.c (.int 1))])] [], .ret (.call 25 [(.c (.int 0)), (.bin .mul (.idx (.v 1) (.c (.int 0))) (.idx (.v 2) (.c (.int 0)))), (.bin .mul (.idx (.v 1) (.c (.int 1))) (.idx (.v 2) (.c (.int 1))))])]
def D27 : Df := ⟨3, [], 3, false, b27⟩
/-- _law_minus -/
abbrev s28 : Stmt := top 34
def d28 : He.DefD := ⟨("_law_minus", none), "_law_minus", "_law_minus", defArgs s28, defBody s28, defScope s28, [], []⟩
def N28 : List Str := ["p", "one", "other"]
def b28 : List Sm := [.ret (.call 26 [(.v 0), (.v 1), (.call 27 [(.v 0), (.call 25 [(.v 0), (.bin .sub (.c (.int 0)) (.c (.int 1))), (.c (.int 1))]), (.v 2)])])]
def D28 : Df := ⟨3, [], 3, false, b28⟩
/-- _law_over -/
abbrev s29 : Stmt := top 35
def d29 : He.DefD := ⟨("_law_over", none), "_law_over", "_law_over", defArgs s29, defBody s29, defScope s29, [], []⟩
def N29 : List Str := ["p", "one", "other"]
def b29 : List Sm := [.ite (.cmp .gt (.v 0) (.c (.int 0))) [.ret (.call 25 [(.v 0), (.idx (.v 1) (.c (.int 0))), (.idx (.v 2) (.c (.int 0)))])] [], .ret (.call 25 [(.c (.int 0)), (.bin .mul (.idx (.v 1) (.c (.int 0))) (.idx (.v 2) (.c (.int 1)))), (.bin .mul (.idx (.v 1) (.c (.int 1))) (.idx (.v 2) (.c (.int 0))))])]
def D29 : Df := ⟨3, [], 3, false, b29⟩
/-- _law_is_number -/
abbrev s30 : Stmt := top 36
def d30 : He.DefD := ⟨("_law_is_number", none), "_law_is_number", "_law_is_number", defArgs s30, defBody s30, defScope s30, [], []⟩
def N30 : List Str := ["p", "thing", "part"]
def b30 : List Sm := [.ite (.or (.not (.bi (.isi (.ty "tuple")) [(.v 1)])) (.cmp .ne (.bi .len [(.v 1)]) (.c (.int 2)))) [.ret (.c (.bl false))] [], .for_ (.n 2) .seq [(.v 1)] [.ite (.or (.not (.bi (.isi (.ty "int")) [(.v 2)])) (.bi (.isi (.ty "bool")) [(.v 2)])) [.ret (.c (.bl false))] []], .ite (.cmp .gt (.v 0) (.c (.int 0))) [.ret (.and (.chain .le .lt (.c (.int 0)) (.idx (.v 1) (.c (.int 0))) (.v 0)) (.cmp .eq (.idx (.v 1) (.c (.int 1))) (.c (.int 1))))] [], .ret (.and (.cmp .ge (.idx (.v 1) (.c (.int 1))) (.c (.int 1))) (.cmp .eq (.call 24 [(.bi .abs [(.idx (.v 1) (.c (.int 0)))]), (.idx (.v 1) (.c (.int 1)))]) (.c (.int 1))))]
def D30 : Df := ⟨2, [], 3, false, b30⟩
/-- _law_wide -/
abbrev s31 : Stmt := top 37
def d31 : He.DefD := ⟨("_law_wide", none), "_law_wide", "_law_wide", defArgs s31, defBody s31, defScope s31, [], []⟩
def N31 : List Str := ["bag", "kind", "found"]
def b31 : List Sm := [.set (.n 1) (.call 23 [(.v 0), (.c (.int 4))]), .ite (.cmp .eq (.v 1) (.c (.int 0))) [.set (.n 2) (.call 23 [(.v 0), (.bin .pow (.c (.int 10)) (.c (.int 30)))])] [.ite (.cmp .eq (.v 1) (.c (.int 1))) [.set (.n 2) (.call 23 [(.v 0), (.bin .pow (.c (.int 10)) (.c (.int 6)))])] [.set (.n 2) (.call 23 [(.v 0), (.c (.int 12))])]], .ite (.cmp .eq (.call 23 [(.v 0), (.c (.int 2))]) (.c (.int 1))) [.set (.n 2) (.bin .sub (.c (.int 0)) (.v 2))] [], .ret (.v 2)]
def D31 : Df := ⟨1, [], 3, false, b31⟩
/-- _law_order -/
abbrev s32 : Stmt := top 38
def d32 : He.DefD := ⟨("_law_order", none), "_law_order", "_law_order", defArgs s32, defBody s32, defScope s32, [], []⟩
def N32 : List Str := ["one", "other", "left", "right"]
def b32 : List Sm := [.set (.n 2) (.bin .mul (.idx (.v 0) (.c (.int 0))) (.idx (.v 1) (.c (.int 1)))), .set (.n 3) (.bin .mul (.idx (.v 1) (.c (.int 0))) (.idx (.v 0) (.c (.int 1)))), .ret (.ite (.cmp .eq (.v 2) (.v 3)) (.c (.int 0)) (.ite (.cmp .gt (.v 2) (.v 3)) (.c (.int 1)) (.bin .sub (.c (.int 0)) (.c (.int 1)))))]
def D32 : Df := ⟨2, [], 4, false, b32⟩
/-- _law_ratios_right -/
abbrev s33 : Stmt := top 39
def d33 : He.DefD := ⟨("_law_ratios_right", none), "_law_ratios_right", "_law_ratios_right", defArgs s33, defBody s33, defScope s33, [], []⟩
def N33 : List Str := ["numbers", "one", "told", "due", "other", "order", "part", "least", "greatest"]
def b33 : List Sm := [.for_ (.n 1) .seq [(.v 0)] [.set (.n 2) (.lst true [(.call 8 [(.v 1)]), (.call 9 [(.v 1)]), (.call 2 [(.idx (.v 1) (.c (.int 0))), (.idx (.v 1) (.c (.int 1)))])]), .set (.n 3) (.lst true [(.tup [(.bin .sub (.c (.int 0)) (.idx (.v 1) (.c (.int 0)))), (.idx (.v 1) (.c (.int 1)))]), (.tup [(.bi .abs [(.idx (.v 1) (.c (.int 0)))]), (.idx (.v 1) (.c (.int 1)))]), (.v 1)]), .for_ (.n 4) .seq [(.v 0)] [.ext (.v 2) (.lst false [(.call 4 [(.v 1), (.v 4)]), (.call 5 [(.v 1), (.v 4)]), (.call 6 [(.v 1), (.v 4)])]), .ext (.v 3) (.lst false [(.call 26 [(.c (.int 0)), (.v 1), (.v 4)]), (.call 28 [(.c (.int 0)), (.v 1), (.v 4)]), (.call 27 [(.c (.int 0)), (.v 1), (.v 4)])]), .ite (.cmp .ne (.idx (.v 4) (.c (.int 0))) (.c (.int 0))) [.app (.v 2) (.call 7 [(.v 1), (.v 4)]), .app (.v 3) (.call 29 [(.c (.int 0)), (.v 1), (.v 4)])] [], .set (.n 5) (.call 10 [(.v 1), (.v 4)]), .ite (.or (.not (.bi (.isi (.ty "int")) [(.v 5)])) (.or (.bi (.isi (.ty "bool")) [(.v 5)]) (.cmp .ne (.v 5) (.call 32 [(.v 1), (.v 4)])))) [.ret (.c (.bl false))] []], .ite (.or (.not (.bi .all [(.comp false (.call 30 [(.c (.int 0)), (.v 6)]) (.n 6) .seq [(.v 2)] [])])) (.cmp .ne (.v 2) (.v 3))) [.ret (.c (.bl false))] []], .set (.n 7) (.call 11 [(.bi (.list false) [(.v 0)])]), .set (.n 8) (.call 12 [(.bi .tuple [(.v 0)])]), .ite (.or (.not (.call 30 [(.c (.int 0)), (.v 7)])) (.or (.not (.call 30 [(.c (.int 0)), (.v 8)])) (.or (.cmp .notMem (.v 7) (.v 0)) (.cmp .notMem (.v 8) (.v 0))))) [.ret (.c (.bl false))] [], .ret (.not (.comp false (.v 1) (.n 1) .seq [(.v 0)] [(.or (.cmp .lt (.call 32 [(.v 1), (.v 7)]) (.c (.int 0))) (.cmp .gt (.call 32 [(.v 1), (.v 8)]) (.c (.int 0))))]))]
def D33 : Df := ⟨1, [], 9, false, b33⟩
/-- law -/
abbrev s34 : Stmt := top 40
def d34 : He.DefD := ⟨("law", none), "law", "law", defArgs s34, defBody s34, defScope s34, [], []⟩
def N34 : List Str := ["script", "bag", "p", "field", "numbers", "turn", "top", "bottom", "due", "told", "one", "other", "made", "part"]
def b34 : List Sm := [.set (.n 1) (.call 22 [(.v 0)]), .set (.n 2) (.c (.int 0)), .ite (.cmp .gt (.call 23 [(.v 1), (.c (.int 3))]) (.c (.int 0))) [.set (.n 2) (.idx (.lst false [(.c (.int 2)), (.c (.int 3)), (.c (.int 5)), (.c (.int 7)), (.c (.int 11)), (.c (.int 13)), (.c (.int 17)), (.c (.int 19)), (.c (.int 23)), (.c (.int 29)), (.c (.int 31)), (.c (.int 37)), (.c (.int 41)), (.c (.int 43)), (.c (.int 47)), (.c (.int 53)), (.c (.int 59)), (.c (.int 61)), (.c (.int 67)), (.c (.int 71)), (.c (.int 73)), (.c (.int 79)), (.c (.int 83)), (.c (.int 89)), (.c (.int 97))]) (.call 23 [(.v 1), (.c (.int 25))]))] [], .set (.n 3) (.ite (.cmp .eq (.v 2) (.c (.int 0))) (.new 0 false []) (.new 0 false [(.v 2)])), .ite (.or (.cmp .ne (.attr (.v 3) "prime") (.ite (.cmp .eq (.v 2) (.c (.int 0))) (.c .non) (.v 2))) (.or (.cmp .ne (.g 0) (.tup [(.c (.int 0)), (.c (.int 1))])) (.cmp .ne (.g 1) (.tup [(.c (.int 1)), (.c (.int 1))])))) [.ret (.c (.bl false))] [], .set (.n 4) (.lst true []), .for_ (.n 5) .rng1 [(.c (.int 3))] [.set (.n 6) (.call 31 [(.v 1)]), .set (.n 7) (.call 31 [(.v 1)]), .ite (.or (.and (.cmp .eq (.v 2) (.c (.int 0))) (.cmp .eq (.v 7) (.c (.int 0)))) (.and (.cmp .gt (.v 2) (.c (.int 0))) (.cmp .eq (.bin .mod (.bi .int [(.v 7)]) (.v 2)) (.c (.int 0))))) [.set (.n 7) (.c (.int 1))] [], .set (.n 8) (.call 25 [(.v 2), (.v 6), (.v 7)]), .set (.n 9) (.meth (.v 3) "number" [(.v 6), (.v 7)]), .ite (.or (.not (.call 30 [(.v 2), (.v 9)])) (.or (.cmp .ne (.v 9) (.v 8)) (.cmp .notC (.meth (.v 3) "holds" [(.v 9)]) (.c (.bl true))))) [.ret (.c (.bl false))] [], .ite (.and (.cmp .eq (.v 2) (.c (.int 0))) (.or (.cmp .ne (.call 2 [(.v 6), (.v 7)]) (.v 8)) (.cmp .ne (.call 2 [(.v 6)]) (.call 25 [(.c (.int 0)), (.v 6), (.c (.int 1))])))) [.ret (.c (.bl false))] [], .ite (.or (.not (.call 30 [(.v 2), (.meth (.v 3) "number" [(.v 6)])])) (.cmp .ne (.meth (.v 3) "number" [(.v 6)]) (.call 25 [(.v 2), (.v 6), (.c (.int 1))]))) [.ret (.c (.bl false))] [], .app (.v 4) (.v 8)], .for_ (.n 10) .seq [(.v 4)] [.ite (.or (.not (.call 30 [(.v 2), (.meth (.v 3) "negative" [(.v 10)])])) (.cmp .ne (.meth (.v 3) "negative" [(.v 10)]) (.call 28 [(.v 2), (.tup [(.c (.int 0)), (.c (.int 1))]), (.v 10)]))) [.ret (.c (.bl false))] [], .for_ (.n 11) .seq [(.v 4)] [.set (.n 12) (.lst true [(.meth (.v 3) "plus" [(.v 10), (.v 11)]), (.meth (.v 3) "minus" [(.v 10), (.v 11)]), (.meth (.v 3) "times" [(.v 10), (.v 11)])]), .set (.n 8) (.lst true [(.call 26 [(.v 2), (.v 10), (.v 11)]), (.call 28 [(.v 2), (.v 10), (.v 11)]), (.call 27 [(.v 2), (.v 10), (.v 11)])]), .ite (.cmp .ne (.idx (.v 11) (.c (.int 0))) (.c (.int 0))) [.app (.v 12) (.meth (.v 3) "over" [(.v 10), (.v 11)]), .app (.v 8) (.call 29 [(.v 2), (.v 10), (.v 11)])] [], .ite (.or (.cmp .ne (.v 12) (.v 8)) (.comp false (.v 13) (.n 13) .seq [(.v 12)] [(.not (.call 30 [(.v 2), (.v 13)]))])) [.ret (.c (.bl false))] []]], .ret (.or (.cmp .gt (.v 2) (.c (.int 0))) (.call 33 [(.v 4)]))]
def D34 : Df := ⟨1, [], 14, false, b34⟩
def dm : List He.DefD := [d0, d1, d2, d3, d4, d5, d6, d7, d8, d9, d10, d11, d12, d13, d14, d15, d16, d17, d18, d19, d20, d21, d22, d23, d24, d25, d26, d27, d28, d29, d30, d31, d32, d33, d34]
def df : List Df := [D0, D1, D2, D3, D4, D5, D6, D7, D8, D9, D10, D11, D12, D13, D14, D15, D16, D17, D18, D19, D20, D21, D22, D23, D24, D25, D26, D27, D28, D29, D30, D31, D32, D33, D34]
def Ns : List (List Str) := [N0, N1, N2, N3, N4, N5, N6, N7, N8, N9, N10, N11, N12, N13, N14, N15, N16, N17, N18, N19, N20, N21, N22, N23, N24, N25, N26, N27, N28, N29, N30, N31, N32, N33, N34]
def cn : List Str := ["Field"]
def kl : List Kl := [⟨some 13, [("number", 14), ("holds", 15), ("plus", 16), ("minus", 17), ("times", 18), ("over", 19), ("negative", 20)], ["prime", "_inverses"]⟩]
def gl : List PV := [(.tup [(.int 0), (.int 1)]), (.tup [(.int 1), (.int 1)]), (.tup [(.int 2), (.int 3), (.int 5), (.int 7), (.int 11), (.int 13), (.int 17), (.int 19), (.int 23), (.int 29), (.int 31), (.int 37), (.int 41), (.int 43), (.int 47), (.int 53), (.int 59), (.int 61), (.int 67), (.int 71), (.int 73), (.int 79), (.int 83), (.int 89), (.int 97)])]
def isl : List (Cs × Cs × Bool) := []
def PR (W : Nat) : Prog := ⟨df, kl, gl, isl, W⟩
def T : Tab := ⟨[("is_whole", 0), ("is_ratio", 1), ("make_ratio", 2), ("_in_lowest_terms", 3), ("ratio_plus", 4), ("ratio_minus", 5), ("ratio_times", 6), ("ratio_over", 7), ("ratio_negative", 8), ("ratio_size", 9), ("compare_ratios", 10), ("least_ratio", 11), ("greatest_ratio", 12), ("_inverse_rests", 21), ("_law_bag", 22), ("_law_draw", 23), ("_law_gcd", 24), ("_law_make", 25), ("_law_plus", 26), ("_law_times", 27), ("_law_minus", 28), ("_law_over", 29), ("_law_is_number", 30), ("_law_wide", 31), ("_law_order", 32), ("_law_ratios_right", 33), ("law", 34)], [("Field", 0)], [("ZERO", 0), ("ONE", 1), ("_PRIMES", 2)], ["abs", "all", "bool", "int", "isinstance", "len", "list", "range", "tuple"], true⟩
section
variable (W : Nat)
theorem c0 : chkSs (chkS T (PR W) (defScope s0) N0 40 12) D0.body (defBody s0) = true := by kernel_rfl
theorem sc0 : FnScope N0 (N0.take 3) (defScope s0) := ⟨rfl, rfl, rfl, by decide +kernel, rfl, by decide +kernel, by decide +kernel⟩
theorem c1 : chkSs (chkS T (PR W) (defScope s1) N1 40 12) D1.body (defBody s1) = true := by kernel_rfl
theorem sc1 : FnScope N1 (N1.take 1) (defScope s1) := ⟨rfl, rfl, rfl, by decide +kernel, rfl, by decide +kernel, by decide +kernel⟩
theorem c2 : chkSs (chkS T (PR W) (defScope s2) N2 40 12) D2.body (defBody s2) = true := by kernel_rfl
theorem sc2 : FnScope N2 (N2.take 2) (defScope s2) := ⟨rfl, rfl, rfl, by decide +kernel, rfl, by decide +kernel, by decide +kernel⟩
theorem c3 : chkSs (chkS T (PR W) (defScope s3) N3 40 12) D3.body (defBody s3) = true := by kernel_rfl
theorem sc3 : FnScope N3 (N3.take 2) (defScope s3) := ⟨rfl, rfl, rfl, by decide +kernel, rfl, by decide +kernel, by decide +kernel⟩
theorem c4 : chkSs (chkS T (PR W) (defScope s4) N4 40 12) D4.body (defBody s4) = true := by kernel_rfl
theorem sc4 : FnScope N4 (N4.take 2) (defScope s4) := ⟨rfl, rfl, rfl, by decide +kernel, rfl, by decide +kernel, by decide +kernel⟩
theorem c5 : chkSs (chkS T (PR W) (defScope s5) N5 40 12) D5.body (defBody s5) = true := by kernel_rfl
theorem sc5 : FnScope N5 (N5.take 2) (defScope s5) := ⟨rfl, rfl, rfl, by decide +kernel, rfl, by decide +kernel, by decide +kernel⟩
theorem c6 : chkSs (chkS T (PR W) (defScope s6) N6 40 12) D6.body (defBody s6) = true := by kernel_rfl
theorem sc6 : FnScope N6 (N6.take 2) (defScope s6) := ⟨rfl, rfl, rfl, by decide +kernel, rfl, by decide +kernel, by decide +kernel⟩
theorem c7 : chkSs (chkS T (PR W) (defScope s7) N7 40 12) D7.body (defBody s7) = true := by kernel_rfl
theorem sc7 : FnScope N7 (N7.take 2) (defScope s7) := ⟨rfl, rfl, rfl, by decide +kernel, rfl, by decide +kernel, by decide +kernel⟩
theorem c8 : chkSs (chkS T (PR W) (defScope s8) N8 40 12) D8.body (defBody s8) = true := by kernel_rfl
theorem sc8 : FnScope N8 (N8.take 1) (defScope s8) := ⟨rfl, rfl, rfl, by decide +kernel, rfl, by decide +kernel, by decide +kernel⟩
theorem c9 : chkSs (chkS T (PR W) (defScope s9) N9 40 12) D9.body (defBody s9) = true := by kernel_rfl
theorem sc9 : FnScope N9 (N9.take 1) (defScope s9) := ⟨rfl, rfl, rfl, by decide +kernel, rfl, by decide +kernel, by decide +kernel⟩
theorem c10 : chkSs (chkS T (PR W) (defScope s10) N10 40 12) D10.body (defBody s10) = true := by kernel_rfl
theorem sc10 : FnScope N10 (N10.take 2) (defScope s10) := ⟨rfl, rfl, rfl, by decide +kernel, rfl, by decide +kernel, by decide +kernel⟩
theorem c11 : chkSs (chkS T (PR W) (defScope s11) N11 40 12) D11.body (defBody s11) = true := by kernel_rfl
theorem sc11 : FnScope N11 (N11.take 1) (defScope s11) := ⟨rfl, rfl, rfl, by decide +kernel, rfl, by decide +kernel, by decide +kernel⟩
theorem c12 : chkSs (chkS T (PR W) (defScope s12) N12 40 12) D12.body (defBody s12) = true := by kernel_rfl
theorem sc12 : FnScope N12 (N12.take 1) (defScope s12) := ⟨rfl, rfl, rfl, by decide +kernel, rfl, by decide +kernel, by decide +kernel⟩
theorem c13 : chkSs (chkS T (PR W) (defScope s13) N13 40 12) D13.body (defBody s13) = true := by kernel_rfl
theorem sc13 : FnScope N13 (N13.take 2) (defScope s13) := ⟨rfl, rfl, rfl, by decide +kernel, rfl, by decide +kernel, by decide +kernel⟩
theorem c14 : chkSs (chkS T (PR W) (defScope s14) N14 40 12) D14.body (defBody s14) = true := by kernel_rfl
theorem sc14 : FnScope N14 (N14.take 3) (defScope s14) := ⟨rfl, rfl, rfl, by decide +kernel, rfl, by decide +kernel, by decide +kernel⟩
theorem c15 : chkSs (chkS T (PR W) (defScope s15) N15 40 12) D15.body (defBody s15) = true := by kernel_rfl
theorem sc15 : FnScope N15 (N15.take 2) (defScope s15) := ⟨rfl, rfl, rfl, by decide +kernel, rfl, by decide +kernel, by decide +kernel⟩
theorem c16 : chkSs (chkS T (PR W) (defScope s16) N16 40 12) D16.body (defBody s16) = true := by kernel_rfl
theorem sc16 : FnScope N16 (N16.take 3) (defScope s16) := ⟨rfl, rfl, rfl, by decide +kernel, rfl, by decide +kernel, by decide +kernel⟩
theorem c17 : chkSs (chkS T (PR W) (defScope s17) N17 40 12) D17.body (defBody s17) = true := by kernel_rfl
theorem sc17 : FnScope N17 (N17.take 3) (defScope s17) := ⟨rfl, rfl, rfl, by decide +kernel, rfl, by decide +kernel, by decide +kernel⟩
theorem c18 : chkSs (chkS T (PR W) (defScope s18) N18 40 12) D18.body (defBody s18) = true := by kernel_rfl
theorem sc18 : FnScope N18 (N18.take 3) (defScope s18) := ⟨rfl, rfl, rfl, by decide +kernel, rfl, by decide +kernel, by decide +kernel⟩
theorem c19 : chkSs (chkS T (PR W) (defScope s19) N19 40 12) D19.body (defBody s19) = true := by kernel_rfl
theorem sc19 : FnScope N19 (N19.take 3) (defScope s19) := ⟨rfl, rfl, rfl, by decide +kernel, rfl, by decide +kernel, by decide +kernel⟩
theorem c20 : chkSs (chkS T (PR W) (defScope s20) N20 40 12) D20.body (defBody s20) = true := by kernel_rfl
theorem sc20 : FnScope N20 (N20.take 2) (defScope s20) := ⟨rfl, rfl, rfl, by decide +kernel, rfl, by decide +kernel, by decide +kernel⟩
theorem c21 : chkSs (chkS T (PR W) (defScope s21) N21 40 12) D21.body (defBody s21) = true := by kernel_rfl
theorem sc21 : FnScope N21 (N21.take 1) (defScope s21) := ⟨rfl, rfl, rfl, by decide +kernel, rfl, by decide +kernel, by decide +kernel⟩
theorem c22 : chkSs (chkS T (PR W) (defScope s22) N22 40 12) D22.body (defBody s22) = true := by kernel_rfl
theorem sc22 : FnScope N22 (N22.take 1) (defScope s22) := ⟨rfl, rfl, rfl, by decide +kernel, rfl, by decide +kernel, by decide +kernel⟩
theorem c23 : chkSs (chkS T (PR W) (defScope s23) N23 40 12) D23.body (defBody s23) = true := by kernel_rfl
theorem sc23 : FnScope N23 (N23.take 2) (defScope s23) := ⟨rfl, rfl, rfl, by decide +kernel, rfl, by decide +kernel, by decide +kernel⟩
theorem c24 : chkSs (chkS T (PR W) (defScope s24) N24 40 12) D24.body (defBody s24) = true := by kernel_rfl
theorem sc24 : FnScope N24 (N24.take 2) (defScope s24) := ⟨rfl, rfl, rfl, by decide +kernel, rfl, by decide +kernel, by decide +kernel⟩
theorem c25 : chkSs (chkS T (PR W) (defScope s25) N25 40 12) D25.body (defBody s25) = true := by kernel_rfl
theorem sc25 : FnScope N25 (N25.take 3) (defScope s25) := ⟨rfl, rfl, rfl, by decide +kernel, rfl, by decide +kernel, by decide +kernel⟩
theorem c26 : chkSs (chkS T (PR W) (defScope s26) N26 40 12) D26.body (defBody s26) = true := by kernel_rfl
theorem sc26 : FnScope N26 (N26.take 3) (defScope s26) := ⟨rfl, rfl, rfl, by decide +kernel, rfl, by decide +kernel, by decide +kernel⟩
theorem c27 : chkSs (chkS T (PR W) (defScope s27) N27 40 12) D27.body (defBody s27) = true := by kernel_rfl
theorem sc27 : FnScope N27 (N27.take 3) (defScope s27) := ⟨rfl, rfl, rfl, by decide +kernel, rfl, by decide +kernel, by decide +kernel⟩
theorem c28 : chkSs (chkS T (PR W) (defScope s28) N28 40 12) D28.body (defBody s28) = true := by kernel_rfl
theorem sc28 : FnScope N28 (N28.take 3) (defScope s28) := ⟨rfl, rfl, rfl, by decide +kernel, rfl, by decide +kernel, by decide +kernel⟩
theorem c29 : chkSs (chkS T (PR W) (defScope s29) N29 40 12) D29.body (defBody s29) = true := by kernel_rfl
theorem sc29 : FnScope N29 (N29.take 3) (defScope s29) := ⟨rfl, rfl, rfl, by decide +kernel, rfl, by decide +kernel, by decide +kernel⟩
theorem c30 : chkSs (chkS T (PR W) (defScope s30) N30 40 12) D30.body (defBody s30) = true := by kernel_rfl
theorem sc30 : FnScope N30 (N30.take 2) (defScope s30) := ⟨rfl, rfl, rfl, by decide +kernel, rfl, by decide +kernel, by decide +kernel⟩
theorem c31 : chkSs (chkS T (PR W) (defScope s31) N31 40 12) D31.body (defBody s31) = true := by kernel_rfl
theorem sc31 : FnScope N31 (N31.take 1) (defScope s31) := ⟨rfl, rfl, rfl, by decide +kernel, rfl, by decide +kernel, by decide +kernel⟩
theorem c32 : chkSs (chkS T (PR W) (defScope s32) N32 40 12) D32.body (defBody s32) = true := by kernel_rfl
theorem sc32 : FnScope N32 (N32.take 2) (defScope s32) := ⟨rfl, rfl, rfl, by decide +kernel, rfl, by decide +kernel, by decide +kernel⟩
theorem c33 : chkSs (chkS T (PR W) (defScope s33) N33 40 12) D33.body (defBody s33) = true := by kernel_rfl
theorem sc33 : FnScope N33 (N33.take 1) (defScope s33) := ⟨rfl, rfl, rfl, by decide +kernel, rfl, by decide +kernel, by decide +kernel⟩
theorem c34 : chkSs (chkS T (PR W) (defScope s34) N34 40 12) D34.body (defBody s34) = true := by kernel_rfl
theorem sc34 : FnScope N34 (N34.take 1) (defScope s34) := ⟨rfl, rfl, rfl, by decide +kernel, rfl, by decide +kernel, by decide +kernel⟩
end
theorem bd0 {K : W.Frag} {f : Addr} {fd : FuncData} (F : FunD K d0.name d0.qual d0.params d0.body d0.scope (d0.dvs K) (d0.kws K) f fd) (cl : Nat → Addr) : ∀ n, n ≤ 3 → 3 - n ≤ 2 → ∃ ds dvs, Binds K fd (N0.take 3) ds ∧ Vals dvs ds ∧ ∀ H m, RpL K cl H m (D0.dv.drop (2 - (3 - n))) dvs := by
  intro n h1 h2
  by_cases e1 : n = 1
  · subst e1
    obtain ⟨ds, r, b⟩ := FunD.binds1 (ps := N0.take 3) F 1 0 (List.cons_ne_nil _ _) rfl (fun _ _ _ _ _ _ _ us its h1 h2 => match us, its, h1, h2 with | [_], [_, _], _, _ => ⟨_, rfl, rfl⟩)
    exact ⟨ds, _, b, r, fun H m => ⟨_, _, rfl, rfl, ⟨_, _, rfl, rfl, rfl⟩⟩⟩
  by_cases e2 : n = 2
  · subst e2
    obtain ⟨ds, r, b⟩ := FunD.binds1 (ps := N0.take 3) F 2 1 (List.cons_ne_nil _ _) rfl (fun _ _ _ _ _ _ _ us its h1 h2 => match us, its, h1, h2 with | [_, _], [_, _], _, _ => ⟨_, rfl, rfl⟩)
    exact ⟨ds, _, b, r, fun H m => ⟨_, _, rfl, rfl, rfl⟩⟩
  · obtain rfl : n = 3 := by omega
    obtain ⟨ds, r, b⟩ := FunD.binds1 (ps := N0.take 3) F 3 2 (List.cons_ne_nil _ _) rfl (fun _ _ _ _ _ _ _ us its h1 h2 => match us, its, h1, h2 with | [_, _, _], [_, _], _, _ => ⟨_, rfl, rfl⟩)
    exact ⟨ds, _, b, r, fun H m => rfl⟩
theorem bd1 {K : W.Frag} {f : Addr} {fd : FuncData} (F : FunD K d1.name d1.qual d1.params d1.body d1.scope (d1.dvs K) (d1.kws K) f fd) (cl : Nat → Addr) : ∀ n, n ≤ 1 → 1 - n ≤ 0 → ∃ ds dvs, Binds K fd (N1.take 1) ds ∧ Vals dvs ds ∧ ∀ H m, RpL K cl H m (D1.dv.drop (0 - (1 - n))) dvs := by
  intro n h1 h2
  obtain rfl : n = 1 := by omega
  exact ⟨[], [], FunD.bindsN (ps := N1.take 1) F (fun _ _ _ _ _ _ us hl => match us, hl with | [_], _ => rfl), .nil, fun H m => rfl⟩
theorem bd2 {K : W.Frag} {f : Addr} {fd : FuncData} (F : FunD K d2.name d2.qual d2.params d2.body d2.scope (d2.dvs K) (d2.kws K) f fd) (cl : Nat → Addr) : ∀ n, n ≤ 2 → 2 - n ≤ 1 → ∃ ds dvs, Binds K fd (N2.take 2) ds ∧ Vals dvs ds ∧ ∀ H m, RpL K cl H m (D2.dv.drop (1 - (2 - n))) dvs := by
  intro n h1 h2
  by_cases e1 : n = 1
  · subst e1
    obtain ⟨ds, r, b⟩ := FunD.binds1 (ps := N2.take 2) F 1 0 (List.cons_ne_nil _ _) rfl (fun _ _ _ _ _ _ _ us its h1 h2 => match us, its, h1, h2 with | [_], [_], _, _ => ⟨_, rfl, rfl⟩)
    exact ⟨ds, _, b, r, fun H m => ⟨_, _, rfl, rfl, rfl⟩⟩
  · obtain rfl : n = 2 := by omega
    obtain ⟨ds, r, b⟩ := FunD.binds1 (ps := N2.take 2) F 2 1 (List.cons_ne_nil _ _) rfl (fun _ _ _ _ _ _ _ us its h1 h2 => match us, its, h1, h2 with | [_, _], [_], _, _ => ⟨_, rfl, rfl⟩)
    exact ⟨ds, _, b, r, fun H m => rfl⟩
theorem bd3 {K : W.Frag} {f : Addr} {fd : FuncData} (F : FunD K d3.name d3.qual d3.params d3.body d3.scope (d3.dvs K) (d3.kws K) f fd) (cl : Nat → Addr) : ∀ n, n ≤ 2 → 2 - n ≤ 0 → ∃ ds dvs, Binds K fd (N3.take 2) ds ∧ Vals dvs ds ∧ ∀ H m, RpL K cl H m (D3.dv.drop (0 - (2 - n))) dvs := by
  intro n h1 h2
  obtain rfl : n = 2 := by omega
  exact ⟨[], [], FunD.bindsN (ps := N3.take 2) F (fun _ _ _ _ _ _ us hl => match us, hl with | [_, _], _ => rfl), .nil, fun H m => rfl⟩
theorem bd4 {K : W.Frag} {f : Addr} {fd : FuncData} (F : FunD K d4.name d4.qual d4.params d4.body d4.scope (d4.dvs K) (d4.kws K) f fd) (cl : Nat → Addr) : ∀ n, n ≤ 2 → 2 - n ≤ 0 → ∃ ds dvs, Binds K fd (N4.take 2) ds ∧ Vals dvs ds ∧ ∀ H m, RpL K cl H m (D4.dv.drop (0 - (2 - n))) dvs := by
  intro n h1 h2
  obtain rfl : n = 2 := by omega
  exact ⟨[], [], FunD.bindsN (ps := N4.take 2) F (fun _ _ _ _ _ _ us hl => match us, hl with | [_, _], _ => rfl), .nil, fun H m => rfl⟩
theorem bd5 {K : W.Frag} {f : Addr} {fd : FuncData} (F : FunD K d5.name d5.qual d5.params d5.body d5.scope (d5.dvs K) (d5.kws K) f fd) (cl : Nat → Addr) : ∀ n, n ≤ 2 → 2 - n ≤ 0 → ∃ ds dvs, Binds K fd (N5.take 2) ds ∧ Vals dvs ds ∧ ∀ H m, RpL K cl H m (D5.dv.drop (0 - (2 - n))) dvs := by
  intro n h1 h2
  obtain rfl : n = 2 := by omega
  exact ⟨[], [], FunD.bindsN (ps := N5.take 2) F (fun _ _ _ _ _ _ us hl => match us, hl with | [_, _], _ => rfl), .nil, fun H m => rfl⟩
theorem bd6 {K : W.Frag} {f : Addr} {fd : FuncData} (F : FunD K d6.name d6.qual d6.params d6.body d6.scope (d6.dvs K) (d6.kws K) f fd) (cl : Nat → Addr) : ∀ n, n ≤ 2 → 2 - n ≤ 0 → ∃ ds dvs, Binds K fd (N6.take 2) ds ∧ Vals dvs ds ∧ ∀ H m, RpL K cl H m (D6.dv.drop (0 - (2 - n))) dvs := by
  intro n h1 h2
  obtain rfl : n = 2 := by omega
  exact ⟨[], [], FunD.bindsN (ps := N6.take 2) F (fun _ _ _ _ _ _ us hl => match us, hl with | [_, _], _ => rfl), .nil, fun H m => rfl⟩
theorem bd7 {K : W.Frag} {f : Addr} {fd : FuncData} (F : FunD K d7.name d7.qual d7.params d7.body d7.scope (d7.dvs K) (d7.kws K) f fd) (cl : Nat → Addr) : ∀ n, n ≤ 2 → 2 - n ≤ 0 → ∃ ds dvs, Binds K fd (N7.take 2) ds ∧ Vals dvs ds ∧ ∀ H m, RpL K cl H m (D7.dv.drop (0 - (2 - n))) dvs := by
  intro n h1 h2
  obtain rfl : n = 2 := by omega
  exact ⟨[], [], FunD.bindsN (ps := N7.take 2) F (fun _ _ _ _ _ _ us hl => match us, hl with | [_, _], _ => rfl), .nil, fun H m => rfl⟩
theorem bd8 {K : W.Frag} {f : Addr} {fd : FuncData} (F : FunD K d8.name d8.qual d8.params d8.body d8.scope (d8.dvs K) (d8.kws K) f fd) (cl : Nat → Addr) : ∀ n, n ≤ 1 → 1 - n ≤ 0 → ∃ ds dvs, Binds K fd (N8.take 1) ds ∧ Vals dvs ds ∧ ∀ H m, RpL K cl H m (D8.dv.drop (0 - (1 - n))) dvs := by
  intro n h1 h2
  obtain rfl : n = 1 := by omega
  exact ⟨[], [], FunD.bindsN (ps := N8.take 1) F (fun _ _ _ _ _ _ us hl => match us, hl with | [_], _ => rfl), .nil, fun H m => rfl⟩
theorem bd9 {K : W.Frag} {f : Addr} {fd : FuncData} (F : FunD K d9.name d9.qual d9.params d9.body d9.scope (d9.dvs K) (d9.kws K) f fd) (cl : Nat → Addr) : ∀ n, n ≤ 1 → 1 - n ≤ 0 → ∃ ds dvs, Binds K fd (N9.take 1) ds ∧ Vals dvs ds ∧ ∀ H m, RpL K cl H m (D9.dv.drop (0 - (1 - n))) dvs := by
  intro n h1 h2
  obtain rfl : n = 1 := by omega
  exact ⟨[], [], FunD.bindsN (ps := N9.take 1) F (fun _ _ _ _ _ _ us hl => match us, hl with | [_], _ => rfl), .nil, fun H m => rfl⟩
theorem bd10 {K : W.Frag} {f : Addr} {fd : FuncData} (F : FunD K d10.name d10.qual d10.params d10.body d10.scope (d10.dvs K) (d10.kws K) f fd) (cl : Nat → Addr) : ∀ n, n ≤ 2 → 2 - n ≤ 0 → ∃ ds dvs, Binds K fd (N10.take 2) ds ∧ Vals dvs ds ∧ ∀ H m, RpL K cl H m (D10.dv.drop (0 - (2 - n))) dvs := by
  intro n h1 h2
  obtain rfl : n = 2 := by omega
  exact ⟨[], [], FunD.bindsN (ps := N10.take 2) F (fun _ _ _ _ _ _ us hl => match us, hl with | [_, _], _ => rfl), .nil, fun H m => rfl⟩
theorem bd11 {K : W.Frag} {f : Addr} {fd : FuncData} (F : FunD K d11.name d11.qual d11.params d11.body d11.scope (d11.dvs K) (d11.kws K) f fd) (cl : Nat → Addr) : ∀ n, n ≤ 1 → 1 - n ≤ 0 → ∃ ds dvs, Binds K fd (N11.take 1) ds ∧ Vals dvs ds ∧ ∀ H m, RpL K cl H m (D11.dv.drop (0 - (1 - n))) dvs := by
  intro n h1 h2
  obtain rfl : n = 1 := by omega
  exact ⟨[], [], FunD.bindsN (ps := N11.take 1) F (fun _ _ _ _ _ _ us hl => match us, hl with | [_], _ => rfl), .nil, fun H m => rfl⟩
theorem bd12 {K : W.Frag} {f : Addr} {fd : FuncData} (F : FunD K d12.name d12.qual d12.params d12.body d12.scope (d12.dvs K) (d12.kws K) f fd) (cl : Nat → Addr) : ∀ n, n ≤ 1 → 1 - n ≤ 0 → ∃ ds dvs, Binds K fd (N12.take 1) ds ∧ Vals dvs ds ∧ ∀ H m, RpL K cl H m (D12.dv.drop (0 - (1 - n))) dvs := by
  intro n h1 h2
  obtain rfl : n = 1 := by omega
  exact ⟨[], [], FunD.bindsN (ps := N12.take 1) F (fun _ _ _ _ _ _ us hl => match us, hl with | [_], _ => rfl), .nil, fun H m => rfl⟩
theorem bd13 {K : W.Frag} {f : Addr} {fd : FuncData} (F : FunD K d13.name d13.qual d13.params d13.body d13.scope (d13.dvs K) (d13.kws K) f fd) (cl : Nat → Addr) : ∀ n, n ≤ 2 → 2 - n ≤ 1 → ∃ ds dvs, Binds K fd (N13.take 2) ds ∧ Vals dvs ds ∧ ∀ H m, RpL K cl H m (D13.dv.drop (1 - (2 - n))) dvs := by
  intro n h1 h2
  by_cases e1 : n = 1
  · subst e1
    obtain ⟨ds, r, b⟩ := FunD.binds1 (ps := N13.take 2) F 1 0 (List.cons_ne_nil _ _) rfl (fun _ _ _ _ _ _ _ us its h1 h2 => match us, its, h1, h2 with | [_], [_], _, _ => ⟨_, rfl, rfl⟩)
    exact ⟨ds, _, b, r, fun H m => ⟨_, _, rfl, rfl, rfl⟩⟩
  · obtain rfl : n = 2 := by omega
    obtain ⟨ds, r, b⟩ := FunD.binds1 (ps := N13.take 2) F 2 1 (List.cons_ne_nil _ _) rfl (fun _ _ _ _ _ _ _ us its h1 h2 => match us, its, h1, h2 with | [_, _], [_], _, _ => ⟨_, rfl, rfl⟩)
    exact ⟨ds, _, b, r, fun H m => rfl⟩
theorem bd14 {K : W.Frag} {f : Addr} {fd : FuncData} (F : FunD K d14.name d14.qual d14.params d14.body d14.scope (d14.dvs K) (d14.kws K) f fd) (cl : Nat → Addr) : ∀ n, n ≤ 3 → 3 - n ≤ 1 → ∃ ds dvs, Binds K fd (N14.take 3) ds ∧ Vals dvs ds ∧ ∀ H m, RpL K cl H m (D14.dv.drop (1 - (3 - n))) dvs := by
  intro n h1 h2
  by_cases e2 : n = 2
  · subst e2
    obtain ⟨ds, r, b⟩ := FunD.binds1 (ps := N14.take 3) F 2 0 (List.cons_ne_nil _ _) rfl (fun _ _ _ _ _ _ _ us its h1 h2 => match us, its, h1, h2 with | [_, _], [_], _, _ => ⟨_, rfl, rfl⟩)
    exact ⟨ds, _, b, r, fun H m => ⟨_, _, rfl, rfl, rfl⟩⟩
  · obtain rfl : n = 3 := by omega
    obtain ⟨ds, r, b⟩ := FunD.binds1 (ps := N14.take 3) F 3 1 (List.cons_ne_nil _ _) rfl (fun _ _ _ _ _ _ _ us its h1 h2 => match us, its, h1, h2 with | [_, _, _], [_], _, _ => ⟨_, rfl, rfl⟩)
    exact ⟨ds, _, b, r, fun H m => rfl⟩
theorem bd15 {K : W.Frag} {f : Addr} {fd : FuncData} (F : FunD K d15.name d15.qual d15.params d15.body d15.scope (d15.dvs K) (d15.kws K) f fd) (cl : Nat → Addr) : ∀ n, n ≤ 2 → 2 - n ≤ 0 → ∃ ds dvs, Binds K fd (N15.take 2) ds ∧ Vals dvs ds ∧ ∀ H m, RpL K cl H m (D15.dv.drop (0 - (2 - n))) dvs := by
  intro n h1 h2
  obtain rfl : n = 2 := by omega
  exact ⟨[], [], FunD.bindsN (ps := N15.take 2) F (fun _ _ _ _ _ _ us hl => match us, hl with | [_, _], _ => rfl), .nil, fun H m => rfl⟩
theorem bd16 {K : W.Frag} {f : Addr} {fd : FuncData} (F : FunD K d16.name d16.qual d16.params d16.body d16.scope (d16.dvs K) (d16.kws K) f fd) (cl : Nat → Addr) : ∀ n, n ≤ 3 → 3 - n ≤ 0 → ∃ ds dvs, Binds K fd (N16.take 3) ds ∧ Vals dvs ds ∧ ∀ H m, RpL K cl H m (D16.dv.drop (0 - (3 - n))) dvs := by
  intro n h1 h2
  obtain rfl : n = 3 := by omega
  exact ⟨[], [], FunD.bindsN (ps := N16.take 3) F (fun _ _ _ _ _ _ us hl => match us, hl with | [_, _, _], _ => rfl), .nil, fun H m => rfl⟩
theorem bd17 {K : W.Frag} {f : Addr} {fd : FuncData} (F : FunD K d17.name d17.qual d17.params d17.body d17.scope (d17.dvs K) (d17.kws K) f fd) (cl : Nat → Addr) : ∀ n, n ≤ 3 → 3 - n ≤ 0 → ∃ ds dvs, Binds K fd (N17.take 3) ds ∧ Vals dvs ds ∧ ∀ H m, RpL K cl H m (D17.dv.drop (0 - (3 - n))) dvs := by
  intro n h1 h2
  obtain rfl : n = 3 := by omega
  exact ⟨[], [], FunD.bindsN (ps := N17.take 3) F (fun _ _ _ _ _ _ us hl => match us, hl with | [_, _, _], _ => rfl), .nil, fun H m => rfl⟩
theorem bd18 {K : W.Frag} {f : Addr} {fd : FuncData} (F : FunD K d18.name d18.qual d18.params d18.body d18.scope (d18.dvs K) (d18.kws K) f fd) (cl : Nat → Addr) : ∀ n, n ≤ 3 → 3 - n ≤ 0 → ∃ ds dvs, Binds K fd (N18.take 3) ds ∧ Vals dvs ds ∧ ∀ H m, RpL K cl H m (D18.dv.drop (0 - (3 - n))) dvs := by
  intro n h1 h2
  obtain rfl : n = 3 := by omega
  exact ⟨[], [], FunD.bindsN (ps := N18.take 3) F (fun _ _ _ _ _ _ us hl => match us, hl with | [_, _, _], _ => rfl), .nil, fun H m => rfl⟩
theorem bd19 {K : W.Frag} {f : Addr} {fd : FuncData} (F : FunD K d19.name d19.qual d19.params d19.body d19.scope (d19.dvs K) (d19.kws K) f fd) (cl : Nat → Addr) : ∀ n, n ≤ 3 → 3 - n ≤ 0 → ∃ ds dvs, Binds K fd (N19.take 3) ds ∧ Vals dvs ds ∧ ∀ H m, RpL K cl H m (D19.dv.drop (0 - (3 - n))) dvs := by
  intro n h1 h2
  obtain rfl : n = 3 := by omega
  exact ⟨[], [], FunD.bindsN (ps := N19.take 3) F (fun _ _ _ _ _ _ us hl => match us, hl with | [_, _, _], _ => rfl), .nil, fun H m => rfl⟩
theorem bd20 {K : W.Frag} {f : Addr} {fd : FuncData} (F : FunD K d20.name d20.qual d20.params d20.body d20.scope (d20.dvs K) (d20.kws K) f fd) (cl : Nat → Addr) : ∀ n, n ≤ 2 → 2 - n ≤ 0 → ∃ ds dvs, Binds K fd (N20.take 2) ds ∧ Vals dvs ds ∧ ∀ H m, RpL K cl H m (D20.dv.drop (0 - (2 - n))) dvs := by
  intro n h1 h2
  obtain rfl : n = 2 := by omega
  exact ⟨[], [], FunD.bindsN (ps := N20.take 2) F (fun _ _ _ _ _ _ us hl => match us, hl with | [_, _], _ => rfl), .nil, fun H m => rfl⟩
theorem bd21 {K : W.Frag} {f : Addr} {fd : FuncData} (F : FunD K d21.name d21.qual d21.params d21.body d21.scope (d21.dvs K) (d21.kws K) f fd) (cl : Nat → Addr) : ∀ n, n ≤ 1 → 1 - n ≤ 0 → ∃ ds dvs, Binds K fd (N21.take 1) ds ∧ Vals dvs ds ∧ ∀ H m, RpL K cl H m (D21.dv.drop (0 - (1 - n))) dvs := by
  intro n h1 h2
  obtain rfl : n = 1 := by omega
  exact ⟨[], [], FunD.bindsN (ps := N21.take 1) F (fun _ _ _ _ _ _ us hl => match us, hl with | [_], _ => rfl), .nil, fun H m => rfl⟩
theorem bd22 {K : W.Frag} {f : Addr} {fd : FuncData} (F : FunD K d22.name d22.qual d22.params d22.body d22.scope (d22.dvs K) (d22.kws K) f fd) (cl : Nat → Addr) : ∀ n, n ≤ 1 → 1 - n ≤ 0 → ∃ ds dvs, Binds K fd (N22.take 1) ds ∧ Vals dvs ds ∧ ∀ H m, RpL K cl H m (D22.dv.drop (0 - (1 - n))) dvs := by
  intro n h1 h2
  obtain rfl : n = 1 := by omega
  exact ⟨[], [], FunD.bindsN (ps := N22.take 1) F (fun _ _ _ _ _ _ us hl => match us, hl with | [_], _ => rfl), .nil, fun H m => rfl⟩
theorem bd23 {K : W.Frag} {f : Addr} {fd : FuncData} (F : FunD K d23.name d23.qual d23.params d23.body d23.scope (d23.dvs K) (d23.kws K) f fd) (cl : Nat → Addr) : ∀ n, n ≤ 2 → 2 - n ≤ 0 → ∃ ds dvs, Binds K fd (N23.take 2) ds ∧ Vals dvs ds ∧ ∀ H m, RpL K cl H m (D23.dv.drop (0 - (2 - n))) dvs := by
  intro n h1 h2
  obtain rfl : n = 2 := by omega
  exact ⟨[], [], FunD.bindsN (ps := N23.take 2) F (fun _ _ _ _ _ _ us hl => match us, hl with | [_, _], _ => rfl), .nil, fun H m => rfl⟩
theorem bd24 {K : W.Frag} {f : Addr} {fd : FuncData} (F : FunD K d24.name d24.qual d24.params d24.body d24.scope (d24.dvs K) (d24.kws K) f fd) (cl : Nat → Addr) : ∀ n, n ≤ 2 → 2 - n ≤ 0 → ∃ ds dvs, Binds K fd (N24.take 2) ds ∧ Vals dvs ds ∧ ∀ H m, RpL K cl H m (D24.dv.drop (0 - (2 - n))) dvs := by
  intro n h1 h2
  obtain rfl : n = 2 := by omega
  exact ⟨[], [], FunD.bindsN (ps := N24.take 2) F (fun _ _ _ _ _ _ us hl => match us, hl with | [_, _], _ => rfl), .nil, fun H m => rfl⟩
theorem bd25 {K : W.Frag} {f : Addr} {fd : FuncData} (F : FunD K d25.name d25.qual d25.params d25.body d25.scope (d25.dvs K) (d25.kws K) f fd) (cl : Nat → Addr) : ∀ n, n ≤ 3 → 3 - n ≤ 0 → ∃ ds dvs, Binds K fd (N25.take 3) ds ∧ Vals dvs ds ∧ ∀ H m, RpL K cl H m (D25.dv.drop (0 - (3 - n))) dvs := by
  intro n h1 h2
  obtain rfl : n = 3 := by omega
  exact ⟨[], [], FunD.bindsN (ps := N25.take 3) F (fun _ _ _ _ _ _ us hl => match us, hl with | [_, _, _], _ => rfl), .nil, fun H m => rfl⟩
theorem bd26 {K : W.Frag} {f : Addr} {fd : FuncData} (F : FunD K d26.name d26.qual d26.params d26.body d26.scope (d26.dvs K) (d26.kws K) f fd) (cl : Nat → Addr) : ∀ n, n ≤ 3 → 3 - n ≤ 0 → ∃ ds dvs, Binds K fd (N26.take 3) ds ∧ Vals dvs ds ∧ ∀ H m, RpL K cl H m (D26.dv.drop (0 - (3 - n))) dvs := by
  intro n h1 h2
  obtain rfl : n = 3 := by omega
  exact ⟨[], [], FunD.bindsN (ps := N26.take 3) F (fun _ _ _ _ _ _ us hl => match us, hl with | [_, _, _], _ => rfl), .nil, fun H m => rfl⟩
theorem bd27 {K : W.Frag} {f : Addr} {fd : FuncData} (F : FunD K d27.name d27.qual d27.params d27.body d27.scope (d27.dvs K) (d27.kws K) f fd) (cl : Nat → Addr) : ∀ n, n ≤ 3 → 3 - n ≤ 0 → ∃ ds dvs, Binds K fd (N27.take 3) ds ∧ Vals dvs ds ∧ ∀ H m, RpL K cl H m (D27.dv.drop (0 - (3 - n))) dvs := by
  intro n h1 h2
  obtain rfl : n = 3 := by omega
  exact ⟨[], [], FunD.bindsN (ps := N27.take 3) F (fun _ _ _ _ _ _ us hl => match us, hl with | [_, _, _], _ => rfl), .nil, fun H m => rfl⟩
theorem bd28 {K : W.Frag} {f : Addr} {fd : FuncData} (F : FunD K d28.name d28.qual d28.params d28.body d28.scope (d28.dvs K) (d28.kws K) f fd) (cl : Nat → Addr) : ∀ n, n ≤ 3 → 3 - n ≤ 0 → ∃ ds dvs, Binds K fd (N28.take 3) ds ∧ Vals dvs ds ∧ ∀ H m, RpL K cl H m (D28.dv.drop (0 - (3 - n))) dvs := by
  intro n h1 h2
  obtain rfl : n = 3 := by omega
  exact ⟨[], [], FunD.bindsN (ps := N28.take 3) F (fun _ _ _ _ _ _ us hl => match us, hl with | [_, _, _], _ => rfl), .nil, fun H m => rfl⟩
theorem bd29 {K : W.Frag} {f : Addr} {fd : FuncData} (F : FunD K d29.name d29.qual d29.params d29.body d29.scope (d29.dvs K) (d29.kws K) f fd) (cl : Nat → Addr) : ∀ n, n ≤ 3 → 3 - n ≤ 0 → ∃ ds dvs, Binds K fd (N29.take 3) ds ∧ Vals dvs ds ∧ ∀ H m, RpL K cl H m (D29.dv.drop (0 - (3 - n))) dvs := by
  intro n h1 h2
  obtain rfl : n = 3 := by omega
  exact ⟨[], [], FunD.bindsN (ps := N29.take 3) F (fun _ _ _ _ _ _ us hl => match us, hl with | [_, _, _], _ => rfl), .nil, fun H m => rfl⟩
theorem bd30 {K : W.Frag} {f : Addr} {fd : FuncData} (F : FunD K d30.name d30.qual d30.params d30.body d30.scope (d30.dvs K) (d30.kws K) f fd) (cl : Nat → Addr) : ∀ n, n ≤ 2 → 2 - n ≤ 0 → ∃ ds dvs, Binds K fd (N30.take 2) ds ∧ Vals dvs ds ∧ ∀ H m, RpL K cl H m (D30.dv.drop (0 - (2 - n))) dvs := by
  intro n h1 h2
  obtain rfl : n = 2 := by omega
  exact ⟨[], [], FunD.bindsN (ps := N30.take 2) F (fun _ _ _ _ _ _ us hl => match us, hl with | [_, _], _ => rfl), .nil, fun H m => rfl⟩
theorem bd31 {K : W.Frag} {f : Addr} {fd : FuncData} (F : FunD K d31.name d31.qual d31.params d31.body d31.scope (d31.dvs K) (d31.kws K) f fd) (cl : Nat → Addr) : ∀ n, n ≤ 1 → 1 - n ≤ 0 → ∃ ds dvs, Binds K fd (N31.take 1) ds ∧ Vals dvs ds ∧ ∀ H m, RpL K cl H m (D31.dv.drop (0 - (1 - n))) dvs := by
  intro n h1 h2
  obtain rfl : n = 1 := by omega
  exact ⟨[], [], FunD.bindsN (ps := N31.take 1) F (fun _ _ _ _ _ _ us hl => match us, hl with | [_], _ => rfl), .nil, fun H m => rfl⟩
theorem bd32 {K : W.Frag} {f : Addr} {fd : FuncData} (F : FunD K d32.name d32.qual d32.params d32.body d32.scope (d32.dvs K) (d32.kws K) f fd) (cl : Nat → Addr) : ∀ n, n ≤ 2 → 2 - n ≤ 0 → ∃ ds dvs, Binds K fd (N32.take 2) ds ∧ Vals dvs ds ∧ ∀ H m, RpL K cl H m (D32.dv.drop (0 - (2 - n))) dvs := by
  intro n h1 h2
  obtain rfl : n = 2 := by omega
  exact ⟨[], [], FunD.bindsN (ps := N32.take 2) F (fun _ _ _ _ _ _ us hl => match us, hl with | [_, _], _ => rfl), .nil, fun H m => rfl⟩
theorem bd33 {K : W.Frag} {f : Addr} {fd : FuncData} (F : FunD K d33.name d33.qual d33.params d33.body d33.scope (d33.dvs K) (d33.kws K) f fd) (cl : Nat → Addr) : ∀ n, n ≤ 1 → 1 - n ≤ 0 → ∃ ds dvs, Binds K fd (N33.take 1) ds ∧ Vals dvs ds ∧ ∀ H m, RpL K cl H m (D33.dv.drop (0 - (1 - n))) dvs := by
  intro n h1 h2
  obtain rfl : n = 1 := by omega
  exact ⟨[], [], FunD.bindsN (ps := N33.take 1) F (fun _ _ _ _ _ _ us hl => match us, hl with | [_], _ => rfl), .nil, fun H m => rfl⟩
theorem bd34 {K : W.Frag} {f : Addr} {fd : FuncData} (F : FunD K d34.name d34.qual d34.params d34.body d34.scope (d34.dvs K) (d34.kws K) f fd) (cl : Nat → Addr) : ∀ n, n ≤ 1 → 1 - n ≤ 0 → ∃ ds dvs, Binds K fd (N34.take 1) ds ∧ Vals dvs ds ∧ ∀ H m, RpL K cl H m (D34.dv.drop (0 - (1 - n))) dvs := by
  intro n h1 h2
  obtain rfl : n = 1 := by omega
  exact ⟨[], [], FunD.bindsN (ps := N34.take 1) F (fun _ _ _ _ _ _ us hl => match us, hl with | [_], _ => rfl), .nil, fun H m => rfl⟩
end Lk

set_option Elab.async false
set_option linter.all false
set_option maxRecDepth 100000
set_option maxHeartbeats 0
namespace Lk
open PySem PySem.Spec PyProof.Rows L2 Pv PySem.W PySem.Calls
abbrev R : W.OpenRow := W.OpenLaw.row PySem.Challenge.rw_untaughthelm_k00_numbers_of_every_field
abbrev qv : Program := W.view R.prog [0, 40]
def ex (K : W.Frag) : Bool := okB dm cn T kl gl isl K
abbrev hk : W.Hook := hookP 5 dm ex
def ob (s : W.SharedT) : AlP := obsPG 5 dm ex (HandSHeadRun.getT s)
theorem ob_eq (s : W.SharedT) : ob s = hk.obs s.abs := obsPG_eq (HandSHeadRun.getT_eq s)
def loose0 : List PySem.Str := ["_wall", "HelmError", "BadField", "BadNumber", "ZERO", "ONE", "is_whole", "is_ratio", "make_ratio", "_in_lowest_terms", "ratio_plus", "ratio_minus", "ratio_times", "ratio_over", "ratio_negative", "ratio_size", "compare_ratios", "least_ratio", "greatest_ratio", "ratio_text", "_PRIMES", "Field", "_inverse_rests", "_law_bag", "_law_draw", "_law_gcd", "_law_make", "_law_plus", "_law_times", "_law_minus"]
def loose1 : List PySem.Str := ["_law_over", "_law_is_number", "_law_wide", "_law_order", "_law_ratios_right"]
def loose : List PySem.Str := loose0 ++ loose1
theorem run (w : World) : HandSHeadRun.RunEqI R qv hk ob 6000 loose w := by unfold HandSHeadRun.RunEqI; kernel_rfl
def psf (f : Nat) : List Str := match Ns[f]?, df[f]? with
  | some N, some d => N.take d.np
  | _, _ => []
section
variable {K : W.Frag} {fd : Nat → FuncData}
theorem ents (W : Nat) (F : ∀ (i : Nat) (d : He.DefD), dm[i]? = some d → FunD K d.name d.qual d.params d.body d.scope (d.dvs K) (d.kws K) (He.fAd K d.at_) (fd i)) : ∀ f d, (PR W).df[f]? = some d → Ent T (PR W) K (faOf dm K f) (fd f) (psf f) d := by
  intro f d h
  match f, h with
  | 0, h => obtain rfl : D0 = d := Option.some.inj h; exact ⟨_, _, _, _, _, _, _, N0, 40, 12, F 0 d0 rfl, sc0, rfl, c0 W⟩
  | 1, h => obtain rfl : D1 = d := Option.some.inj h; exact ⟨_, _, _, _, _, _, _, N1, 40, 12, F 1 d1 rfl, sc1, rfl, c1 W⟩
  | 2, h => obtain rfl : D2 = d := Option.some.inj h; exact ⟨_, _, _, _, _, _, _, N2, 40, 12, F 2 d2 rfl, sc2, rfl, c2 W⟩
  | 3, h => obtain rfl : D3 = d := Option.some.inj h; exact ⟨_, _, _, _, _, _, _, N3, 40, 12, F 3 d3 rfl, sc3, rfl, c3 W⟩
  | 4, h => obtain rfl : D4 = d := Option.some.inj h; exact ⟨_, _, _, _, _, _, _, N4, 40, 12, F 4 d4 rfl, sc4, rfl, c4 W⟩
  | 5, h => obtain rfl : D5 = d := Option.some.inj h; exact ⟨_, _, _, _, _, _, _, N5, 40, 12, F 5 d5 rfl, sc5, rfl, c5 W⟩
  | 6, h => obtain rfl : D6 = d := Option.some.inj h; exact ⟨_, _, _, _, _, _, _, N6, 40, 12, F 6 d6 rfl, sc6, rfl, c6 W⟩
  | 7, h => obtain rfl : D7 = d := Option.some.inj h; exact ⟨_, _, _, _, _, _, _, N7, 40, 12, F 7 d7 rfl, sc7, rfl, c7 W⟩
  | 8, h => obtain rfl : D8 = d := Option.some.inj h; exact ⟨_, _, _, _, _, _, _, N8, 40, 12, F 8 d8 rfl, sc8, rfl, c8 W⟩
  | 9, h => obtain rfl : D9 = d := Option.some.inj h; exact ⟨_, _, _, _, _, _, _, N9, 40, 12, F 9 d9 rfl, sc9, rfl, c9 W⟩
  | 10, h => obtain rfl : D10 = d := Option.some.inj h; exact ⟨_, _, _, _, _, _, _, N10, 40, 12, F 10 d10 rfl, sc10, rfl, c10 W⟩
  | 11, h => obtain rfl : D11 = d := Option.some.inj h; exact ⟨_, _, _, _, _, _, _, N11, 40, 12, F 11 d11 rfl, sc11, rfl, c11 W⟩
  | 12, h => obtain rfl : D12 = d := Option.some.inj h; exact ⟨_, _, _, _, _, _, _, N12, 40, 12, F 12 d12 rfl, sc12, rfl, c12 W⟩
  | 13, h => obtain rfl : D13 = d := Option.some.inj h; exact ⟨_, _, _, _, _, _, _, N13, 40, 12, F 13 d13 rfl, sc13, rfl, c13 W⟩
  | 14, h => obtain rfl : D14 = d := Option.some.inj h; exact ⟨_, _, _, _, _, _, _, N14, 40, 12, F 14 d14 rfl, sc14, rfl, c14 W⟩
  | 15, h => obtain rfl : D15 = d := Option.some.inj h; exact ⟨_, _, _, _, _, _, _, N15, 40, 12, F 15 d15 rfl, sc15, rfl, c15 W⟩
  | 16, h => obtain rfl : D16 = d := Option.some.inj h; exact ⟨_, _, _, _, _, _, _, N16, 40, 12, F 16 d16 rfl, sc16, rfl, c16 W⟩
  | 17, h => obtain rfl : D17 = d := Option.some.inj h; exact ⟨_, _, _, _, _, _, _, N17, 40, 12, F 17 d17 rfl, sc17, rfl, c17 W⟩
  | 18, h => obtain rfl : D18 = d := Option.some.inj h; exact ⟨_, _, _, _, _, _, _, N18, 40, 12, F 18 d18 rfl, sc18, rfl, c18 W⟩
  | 19, h => obtain rfl : D19 = d := Option.some.inj h; exact ⟨_, _, _, _, _, _, _, N19, 40, 12, F 19 d19 rfl, sc19, rfl, c19 W⟩
  | 20, h => obtain rfl : D20 = d := Option.some.inj h; exact ⟨_, _, _, _, _, _, _, N20, 40, 12, F 20 d20 rfl, sc20, rfl, c20 W⟩
  | 21, h => obtain rfl : D21 = d := Option.some.inj h; exact ⟨_, _, _, _, _, _, _, N21, 40, 12, F 21 d21 rfl, sc21, rfl, c21 W⟩
  | 22, h => obtain rfl : D22 = d := Option.some.inj h; exact ⟨_, _, _, _, _, _, _, N22, 40, 12, F 22 d22 rfl, sc22, rfl, c22 W⟩
  | 23, h => obtain rfl : D23 = d := Option.some.inj h; exact ⟨_, _, _, _, _, _, _, N23, 40, 12, F 23 d23 rfl, sc23, rfl, c23 W⟩
  | 24, h => obtain rfl : D24 = d := Option.some.inj h; exact ⟨_, _, _, _, _, _, _, N24, 40, 12, F 24 d24 rfl, sc24, rfl, c24 W⟩
  | 25, h => obtain rfl : D25 = d := Option.some.inj h; exact ⟨_, _, _, _, _, _, _, N25, 40, 12, F 25 d25 rfl, sc25, rfl, c25 W⟩
  | 26, h => obtain rfl : D26 = d := Option.some.inj h; exact ⟨_, _, _, _, _, _, _, N26, 40, 12, F 26 d26 rfl, sc26, rfl, c26 W⟩
  | 27, h => obtain rfl : D27 = d := Option.some.inj h; exact ⟨_, _, _, _, _, _, _, N27, 40, 12, F 27 d27 rfl, sc27, rfl, c27 W⟩
  | 28, h => obtain rfl : D28 = d := Option.some.inj h; exact ⟨_, _, _, _, _, _, _, N28, 40, 12, F 28 d28 rfl, sc28, rfl, c28 W⟩
  | 29, h => obtain rfl : D29 = d := Option.some.inj h; exact ⟨_, _, _, _, _, _, _, N29, 40, 12, F 29 d29 rfl, sc29, rfl, c29 W⟩
  | 30, h => obtain rfl : D30 = d := Option.some.inj h; exact ⟨_, _, _, _, _, _, _, N30, 40, 12, F 30 d30 rfl, sc30, rfl, c30 W⟩
  | 31, h => obtain rfl : D31 = d := Option.some.inj h; exact ⟨_, _, _, _, _, _, _, N31, 40, 12, F 31 d31 rfl, sc31, rfl, c31 W⟩
  | 32, h => obtain rfl : D32 = d := Option.some.inj h; exact ⟨_, _, _, _, _, _, _, N32, 40, 12, F 32 d32 rfl, sc32, rfl, c32 W⟩
  | 33, h => obtain rfl : D33 = d := Option.some.inj h; exact ⟨_, _, _, _, _, _, _, N33, 40, 12, F 33 d33 rfl, sc33, rfl, c33 W⟩
  | 34, h => obtain rfl : D34 = d := Option.some.inj h; exact ⟨_, _, _, _, _, _, _, N34, 40, 12, F 34 d34 rfl, sc34, rfl, c34 W⟩
  | f + 35, h => cases h
theorem pls (W : Nat) : ∀ f d, (PR W).df[f]? = some d → (psf f).length = d.np := by
  intro f d h
  match f, h with
  | 0, h => obtain rfl : D0 = d := Option.some.inj h; rfl
  | 1, h => obtain rfl : D1 = d := Option.some.inj h; rfl
  | 2, h => obtain rfl : D2 = d := Option.some.inj h; rfl
  | 3, h => obtain rfl : D3 = d := Option.some.inj h; rfl
  | 4, h => obtain rfl : D4 = d := Option.some.inj h; rfl
  | 5, h => obtain rfl : D5 = d := Option.some.inj h; rfl
  | 6, h => obtain rfl : D6 = d := Option.some.inj h; rfl
  | 7, h => obtain rfl : D7 = d := Option.some.inj h; rfl
  | 8, h => obtain rfl : D8 = d := Option.some.inj h; rfl
  | 9, h => obtain rfl : D9 = d := Option.some.inj h; rfl
  | 10, h => obtain rfl : D10 = d := Option.some.inj h; rfl
  | 11, h => obtain rfl : D11 = d := Option.some.inj h; rfl
  | 12, h => obtain rfl : D12 = d := Option.some.inj h; rfl
  | 13, h => obtain rfl : D13 = d := Option.some.inj h; rfl
  | 14, h => obtain rfl : D14 = d := Option.some.inj h; rfl
  | 15, h => obtain rfl : D15 = d := Option.some.inj h; rfl
  | 16, h => obtain rfl : D16 = d := Option.some.inj h; rfl
  | 17, h => obtain rfl : D17 = d := Option.some.inj h; rfl
  | 18, h => obtain rfl : D18 = d := Option.some.inj h; rfl
  | 19, h => obtain rfl : D19 = d := Option.some.inj h; rfl
  | 20, h => obtain rfl : D20 = d := Option.some.inj h; rfl
  | 21, h => obtain rfl : D21 = d := Option.some.inj h; rfl
  | 22, h => obtain rfl : D22 = d := Option.some.inj h; rfl
  | 23, h => obtain rfl : D23 = d := Option.some.inj h; rfl
  | 24, h => obtain rfl : D24 = d := Option.some.inj h; rfl
  | 25, h => obtain rfl : D25 = d := Option.some.inj h; rfl
  | 26, h => obtain rfl : D26 = d := Option.some.inj h; rfl
  | 27, h => obtain rfl : D27 = d := Option.some.inj h; rfl
  | 28, h => obtain rfl : D28 = d := Option.some.inj h; rfl
  | 29, h => obtain rfl : D29 = d := Option.some.inj h; rfl
  | 30, h => obtain rfl : D30 = d := Option.some.inj h; rfl
  | 31, h => obtain rfl : D31 = d := Option.some.inj h; rfl
  | 32, h => obtain rfl : D32 = d := Option.some.inj h; rfl
  | 33, h => obtain rfl : D33 = d := Option.some.inj h; rfl
  | 34, h => obtain rfl : D34 = d := Option.some.inj h; rfl
  | f + 35, h => cases h
theorem bds (W : Nat) (F : ∀ (i : Nat) (d : He.DefD), dm[i]? = some d → FunD K d.name d.qual d.params d.body d.scope (d.dvs K) (d.kws K) (He.fAd K d.at_) (fd i)) : ∀ f d n, (PR W).df[f]? = some d → n ≤ d.np → d.np - n ≤ d.dv.length → ∃ ds dvs, Binds K (fd f) (psf f) ds ∧ Vals dvs ds ∧ ∀ H m, RpL K (clOf cn K) H m (d.dv.drop (d.dv.length - (d.np - n))) dvs := by
  intro f d n h
  match f, h with
  | 0, h => obtain rfl : D0 = d := Option.some.inj h; exact bd0 (F 0 d0 rfl) (clOf cn K) n
  | 1, h => obtain rfl : D1 = d := Option.some.inj h; exact bd1 (F 1 d1 rfl) (clOf cn K) n
  | 2, h => obtain rfl : D2 = d := Option.some.inj h; exact bd2 (F 2 d2 rfl) (clOf cn K) n
  | 3, h => obtain rfl : D3 = d := Option.some.inj h; exact bd3 (F 3 d3 rfl) (clOf cn K) n
  | 4, h => obtain rfl : D4 = d := Option.some.inj h; exact bd4 (F 4 d4 rfl) (clOf cn K) n
  | 5, h => obtain rfl : D5 = d := Option.some.inj h; exact bd5 (F 5 d5 rfl) (clOf cn K) n
  | 6, h => obtain rfl : D6 = d := Option.some.inj h; exact bd6 (F 6 d6 rfl) (clOf cn K) n
  | 7, h => obtain rfl : D7 = d := Option.some.inj h; exact bd7 (F 7 d7 rfl) (clOf cn K) n
  | 8, h => obtain rfl : D8 = d := Option.some.inj h; exact bd8 (F 8 d8 rfl) (clOf cn K) n
  | 9, h => obtain rfl : D9 = d := Option.some.inj h; exact bd9 (F 9 d9 rfl) (clOf cn K) n
  | 10, h => obtain rfl : D10 = d := Option.some.inj h; exact bd10 (F 10 d10 rfl) (clOf cn K) n
  | 11, h => obtain rfl : D11 = d := Option.some.inj h; exact bd11 (F 11 d11 rfl) (clOf cn K) n
  | 12, h => obtain rfl : D12 = d := Option.some.inj h; exact bd12 (F 12 d12 rfl) (clOf cn K) n
  | 13, h => obtain rfl : D13 = d := Option.some.inj h; exact bd13 (F 13 d13 rfl) (clOf cn K) n
  | 14, h => obtain rfl : D14 = d := Option.some.inj h; exact bd14 (F 14 d14 rfl) (clOf cn K) n
  | 15, h => obtain rfl : D15 = d := Option.some.inj h; exact bd15 (F 15 d15 rfl) (clOf cn K) n
  | 16, h => obtain rfl : D16 = d := Option.some.inj h; exact bd16 (F 16 d16 rfl) (clOf cn K) n
  | 17, h => obtain rfl : D17 = d := Option.some.inj h; exact bd17 (F 17 d17 rfl) (clOf cn K) n
  | 18, h => obtain rfl : D18 = d := Option.some.inj h; exact bd18 (F 18 d18 rfl) (clOf cn K) n
  | 19, h => obtain rfl : D19 = d := Option.some.inj h; exact bd19 (F 19 d19 rfl) (clOf cn K) n
  | 20, h => obtain rfl : D20 = d := Option.some.inj h; exact bd20 (F 20 d20 rfl) (clOf cn K) n
  | 21, h => obtain rfl : D21 = d := Option.some.inj h; exact bd21 (F 21 d21 rfl) (clOf cn K) n
  | 22, h => obtain rfl : D22 = d := Option.some.inj h; exact bd22 (F 22 d22 rfl) (clOf cn K) n
  | 23, h => obtain rfl : D23 = d := Option.some.inj h; exact bd23 (F 23 d23 rfl) (clOf cn K) n
  | 24, h => obtain rfl : D24 = d := Option.some.inj h; exact bd24 (F 24 d24 rfl) (clOf cn K) n
  | 25, h => obtain rfl : D25 = d := Option.some.inj h; exact bd25 (F 25 d25 rfl) (clOf cn K) n
  | 26, h => obtain rfl : D26 = d := Option.some.inj h; exact bd26 (F 26 d26 rfl) (clOf cn K) n
  | 27, h => obtain rfl : D27 = d := Option.some.inj h; exact bd27 (F 27 d27 rfl) (clOf cn K) n
  | 28, h => obtain rfl : D28 = d := Option.some.inj h; exact bd28 (F 28 d28 rfl) (clOf cn K) n
  | 29, h => obtain rfl : D29 = d := Option.some.inj h; exact bd29 (F 29 d29 rfl) (clOf cn K) n
  | 30, h => obtain rfl : D30 = d := Option.some.inj h; exact bd30 (F 30 d30 rfl) (clOf cn K) n
  | 31, h => obtain rfl : D31 = d := Option.some.inj h; exact bd31 (F 31 d31 rfl) (clOf cn K) n
  | 32, h => obtain rfl : D32 = d := Option.some.inj h; exact bd32 (F 32 d32 rfl) (clOf cn K) n
  | 33, h => obtain rfl : D33 = d := Option.some.inj h; exact bd33 (F 33 d33 rfl) (clOf cn K) n
  | 34, h => obtain rfl : D34 = d := Option.some.inj h; exact bd34 (F 34 d34 rfl) (clOf cn K) n
  | f + 35, h => cases h
end
theorem facts {P : Program} {w : World} {K : W.Frag} {h : Heap} {mg : Str → Option Value} {f : Addr} (X : K.In h) (G : h.Ns mainGlobals mg) (hfa : mg ("law" : Str) = some (.ref f)) (c : obsP dm ex K = valP dm) :
    ∃ fd : FuncData, (∀ (s : Shared) (v : Value), BindsTo s fd ⟨[v], []⟩ [("script", v)]) ∧ ∀ base : Heap, K.In base → base.Ns mainGlobals mg → FnOk P w K mg base CX0 200 f fd ["script"] (spLaw PR 34 200 (clOf cn K) K) := by
  obtain ⟨c1, c2⟩ := says_p c
  have key : ∀ i : Nat, ∃ fd : FuncData, ∀ d : He.DefD, dm[i]? = some d → FunD K d.name d.qual d.params d.body d.scope (d.dvs K) (d.kws K) (He.fAd K d.at_) fd := fun i => by
    cases e : dm[i]? with
    | none => exact ⟨default, fun d z => by cases z⟩
    | some d =>
      obtain ⟨fd, F⟩ := c1.def_ i e
      exact ⟨fd, fun d' z => by cases z; exact F⟩
  obtain ⟨fd, hfd⟩ := Classical.axiomOfChoice key
  have wf : ∀ W, Wf T (PR W) (clOf cn K) (faOf dm K) fd psf K mg := fun W => wf_of X G c2 (fun i d e => (hfd i d e).kp) (pls W) (bds W hfd)
  have e := hfa.symm.trans ((wf 0).fn "law" 34 rfl).1
  cases e
  exact ⟨fd 34, fun s v => FunD.bindsA (ps := ["script"]) (hfd 34 d34 rfl) (fun _ _ _ _ _ _ us hl => match us, hl with | [_], _ => rfl) s [v] rfl, fun base _ _ => spLaw_ok (D := fun _ => D34) (fun _ => rfl) fun W => fn_ok (wf W) (ents W hfd) 200 34 D34 rfl⟩
theorem holds_of (hl : ∀ ns : List Int, ns.length ≤ 63 → (∀ z ∈ ns, Builtin.Int.intBits z ≤ 1048576) → LawSays PR 34 200 ns) : PySem.Challenge.rw_untaughthelm_k00_numbers_of_every_field.Holds := by
  w_on; o_law
  refine HandSHeadRun.head_imp (r := R) (q := qv) (H := hk) (ob := ob) (M := 6000) (loose := loose) (d := HandSHeadRun.topDef R.prog 40) (kwd := []) ob_eq run (by kernel_rfl) (by kernel_rfl) (by kernel_rfl) (by rfl) (by first | assumption | decide +kernel) (by decide +kernel) ⟨rfl, rfl, rfl, rfl, rfl, by decide +kernel⟩ ?hw ?hc
  case hw => w_witness2
  case hc =>
    refine walk_P (l := PySem.Challenge.rw_untaughthelm_k00_numbers_of_every_field) (n := 63) (k := 200) (x := "script") (CX := L2.CX0) rfl (by decide) (by kernel_rfl) ⟨rfl, by decide, by decide⟩ ?F (fun _ _ _ _ z => z)
    intro w mg fa h Y G hmg0
    obtain ⟨K, KX, c⟩ := Y
    have hmg : mg ("law" : PySem.Str) = some (.ref fa) := by
      have e : (HandSHeadRun.topDef R.prog 40).name = ("law" : PySem.Str) := by kernel_rfl
      rw [← e]
      exact hmg0
    obtain ⟨fd, hb, hF⟩ := facts (P := PySem.Challenge.rw_untaughthelm_k00_numbers_of_every_field.prog) (w := w) KX G hmg c
    exact ⟨K, fd, _, KX, hb, fun H a ns hlen hbits _ hS => spLaw_in (hl ns hlen hbits) hS, hF⟩
end Lk

set_option Elab.async false
set_option linter.all false
set_option maxRecDepth 100000
set_option maxHeartbeats 1000000
namespace Lk
open PySem PySem.Spec PyProof.Rows L2 Pv
/-! ### sizes -/
def Sm (e : Nat) (i : Int) : Prop := i.natAbs < 2 ^ e
theorem Sm.mono {a b : Nat} {i : Int} (h : Sm a i) (l : a ≤ b) : Sm b i := Nat.lt_of_lt_of_le h (Nat.pow_le_pow_right (by decide) l)
theorem Sm.mul {a b : Nat} {i j : Int} (h : Sm a i) (g : Sm b j) : Sm (a + b) (i * j) := by
  unfold Sm at *
  rw [Int.natAbs_mul, Nat.pow_add]
  exact Nat.mul_lt_mul'' h g
theorem Sm.add {a : Nat} {i j : Int} (h : Sm a i) (g : Sm a j) : Sm (a + 1) (i + j) := by
  unfold Sm at *
  have := Int.natAbs_add_le i j
  rw [Nat.pow_succ]
  omega
theorem Sm.neg {a : Nat} {i : Int} (h : Sm a i) : Sm a (-i) := by
  unfold Sm at *
  rw [Int.natAbs_neg]
  exact h
theorem Sm.sub {a : Nat} {i j : Int} (h : Sm a i) (g : Sm a j) : Sm (a + 1) (i - j) := by
  rw [Int.sub_eq_add_neg]
  exact h.add g.neg
theorem sm1 : Sm 1 1 := by unfold Sm; decide
theorem smm1 : Sm 1 (-1) := by unfold Sm; decide
theorem log2_lt {n e : Nat} (he : 0 < e) (h : n < 2 ^ e) : n.log2 < e := by
  by_cases h0 : n = 0
  · subst h0
    rw [Nat.log2_zero]
    exact he
  · exact (Nat.log2_lt h0).mpr h
theorem log2_le {n e : Nat} (h : n < 2 ^ e) : n.log2 ≤ e := Nat.le_of_lt_succ (log2_lt (Nat.succ_pos e) (Nat.lt_of_lt_of_le h (Nat.pow_le_pow_right (by decide) (Nat.le_succ e))))
theorem Sm.mulok {a b : Nat} {i j : Int} (h : Sm a i) (g : Sm b j) (l : a + b < 100000000) : Pv.MulOk i j := by
  unfold Pv.MulOk
  have := log2_le h
  have := log2_le g
  omega
theorem Sm.divok {a : Nat} {i j : Int} (h : Sm a j) (h0 : j ≠ 0) (l : a < 9000) : Pv.DivOk i j := ⟨h0, Nat.lt_of_le_of_lt (log2_le h) l⟩
/-! ### ratios -/
def num (x : Int × Int) : PV := .tup [.int x.1, .int x.2]
def gc (a b : Int) : Int := ((Nat.gcd a.natAbs b.natAbs : Nat) : Int)
def rdc (a b : Int) : Int × Int := if b < 0 then (-a / gc a b, -b / gc a b) else (a / gc a b, b / gc a b)
theorem gc_pos {a b : Int} (h : b ≠ 0) : 0 < gc a b := by
  unfold gc
  have : 0 < Nat.gcd a.natAbs b.natAbs := Nat.gcd_pos_of_pos_right _ (by omega)
  omega
theorem gc_le {a b : Int} (h : b ≠ 0) : (gc a b).natAbs ≤ b.natAbs := by
  unfold gc
  rw [Int.natAbs_natCast]
  exact Nat.gcd_le_right _ (by omega)
theorem gc_dvd_l (a b : Int) : gc a b ∣ a := Int.ofNat_dvd_left.mpr (Nat.gcd_dvd_left _ _)
theorem gc_dvd_r (a b : Int) : gc a b ∣ b := Int.ofNat_dvd_left.mpr (Nat.gcd_dvd_right _ _)
theorem fdiv_neg_r (a g : Int) (hg : 0 < g) : a.fdiv (-g) = (-a) / g := by
  have : a.fdiv (-g) = (-a).fdiv g := by
    have := Int.neg_fdiv_neg (-a) g
    rw [Int.neg_neg] at this
    exact this
  rw [this, Int.fdiv_eq_ediv_of_nonneg _ (Int.le_of_lt hg)]
/-- a number in lowest terms -/
def Low (x : Int × Int) : Prop := 1 ≤ x.2 ∧ gc x.1 x.2 = 1
theorem natAbs_div_le {a g : Int} (hg : 0 < g) : (a / g).natAbs ≤ a.natAbs := by
  exact Int.natAbs_ediv_le_natAbs a g
theorem gc_neg_l (a b : Int) : gc (-a) b = gc a b := by unfold gc; rw [Int.natAbs_neg]
theorem gc_neg_r (a b : Int) : gc a (-b) = gc a b := by unfold gc; rw [Int.natAbs_neg]
theorem gc_div {a b g : Int} (hg : 0 < g) (ha : g ∣ a) (hb : g ∣ b) : gc (a / g) (b / g) = gc a b / g := by
  unfold gc
  obtain ⟨c, rfl⟩ := ha
  obtain ⟨d, rfl⟩ := hb
  rw [Int.mul_ediv_cancel_left _ (by omega), Int.mul_ediv_cancel_left _ (by omega), Int.natAbs_mul, Int.natAbs_mul, Nat.gcd_mul_left]
  have e : (g.natAbs : Int) = g := by omega
  rw [Int.natCast_mul, e, Int.mul_ediv_cancel_left _ (by omega)]
theorem rdc_low {a b : Int} (h : b ≠ 0) : Low (rdc a b) := by
  have hg := gc_pos (a := a) h
  have h1 := gc_dvd_l a b
  have h2 := gc_dvd_r a b
  have le1 : ∀ {c : Int}, 0 < c → gc a b ∣ c → 1 ≤ c / gc a b := fun {c} hc hd => by
    have := Int.le_of_dvd hc hd
    exact (Int.le_ediv_iff_mul_le hg).mpr (by omega)
  unfold rdc Low
  split
  · rename_i hb
    refine ⟨le1 (by omega) (Int.dvd_neg.mpr h2), ?_⟩
    dsimp only
    rw [gc_div hg (Int.dvd_neg.mpr h1) (Int.dvd_neg.mpr h2), gc_neg_l, gc_neg_r, Int.ediv_self (by omega)]
  · rename_i hb
    refine ⟨le1 (by omega) h2, ?_⟩
    dsimp only
    rw [gc_div hg h1 h2, Int.ediv_self (by omega)]
theorem rdc_sm {a b : Int} {e : Nat} (h : b ≠ 0) (ha : Sm e a) (hb : Sm e b) : Sm e (rdc a b).1 ∧ Sm e (rdc a b).2 := by
  have hg := gc_pos (a := a) h
  unfold rdc
  split
  · exact ⟨Nat.lt_of_le_of_lt (natAbs_div_le hg) ha.neg, Nat.lt_of_le_of_lt (natAbs_div_le hg) hb.neg⟩
  · exact ⟨Nat.lt_of_le_of_lt (natAbs_div_le hg) ha, Nat.lt_of_le_of_lt (natAbs_div_le hg) hb⟩
theorem rdc_self {a b : Int} (h : Low (a, b)) : rdc a b = (a, b) := by
  obtain ⟨h1, h2⟩ := h
  dsimp only at h1 h2
  unfold rdc
  rw [if_neg (by omega), h2, Int.ediv_one, Int.ediv_one]
theorem rdc_neg (a b : Int) : rdc (-a) b = (-(rdc a b).1, (rdc a b).2) := by
  unfold rdc
  rw [gc_neg_l]
  have e : ∀ c : Int, gc a b ∣ c → -c / gc a b = -(c / gc a b) := fun c hc => Int.neg_ediv_of_dvd hc
  split
  · dsimp only
    rw [e (-a) (Int.dvd_neg.mpr (gc_dvd_l a b))]
  · dsimp only
    rw [e a (gc_dvd_l a b)]
end Lk

set_option Elab.async false
set_option linter.all false
set_option maxRecDepth 100000
set_option maxHeartbeats 1000000
namespace Lk
open PySem PySem.Spec PyProof.Rows L2 Pv
@[simp] theorem kit_ii : L2.kitB "int" "int" = some true := by decide +kernel
@[simp] theorem kit_ib : L2.kitB "int" "bool" = some false := by decide +kernel
@[simp] theorem kit_tt : L2.kitB "tuple" "tuple" = some true := by decide +kernel
@[simp] theorem ln1 : (1 : Nat) ≤ sizeLine := by decide
@[simp] theorem ln2 : (2 : Nat) ≤ sizeLine := by decide
@[simp] theorem ln3 : (3 : Nat) ≤ sizeLine := by decide
@[simp] theorem atI0 {α : Type} (x : α) (xs : List α) : atI (x :: xs) 0 = some x := atI_nat (j := 0) rfl
@[simp] theorem atI1 {α : Type} (x y : α) (xs : List α) : atI (x :: y :: xs) 1 = some y := atI_nat (j := 1) rfl
theorem bi_gcd' (l : List (Cs × Cs × Bool)) (n : Nat) (i j : Int) (st : Store) : biF l n .gcd [.int i, .int j] st = .ok (.int (gc i j)) st := rfl
section
variable {W k : Nat} {st : Store}
theorem df0 : (PR W).df[0]? = some D0 := rfl
theorem df1 : (PR W).df[1]? = some D1 := rfl
theorem df2 : (PR W).df[2]? = some D2 := rfl
theorem df3 : (PR W).df[3]? = some D3 := rfl
theorem df4 : (PR W).df[4]? = some D4 := rfl
theorem df5 : (PR W).df[5]? = some D5 := rfl
theorem df6 : (PR W).df[6]? = some D6 := rfl
theorem df7 : (PR W).df[7]? = some D7 := rfl
theorem df8 : (PR W).df[8]? = some D8 := rfl
theorem df9 : (PR W).df[9]? = some D9 := rfl
theorem df10 : (PR W).df[10]? = some D10 := rfl
theorem c_whole (i : Int) : (ev (PR W) (k + 12)).call 0 [.int i, .non, .non] st = .ok (.bl true) st := by
  simp [C_call, stepC, df0, D0, b0]
theorem c_whole1 (i lo : Int) : (ev (PR W) (k + 12)).call 0 [.int i, .int lo, .non] st = .ok (.bl (decide (lo ≤ i))) st := by
  by_cases h : lo ≤ i <;> simp [C_call, stepC, df0, D0, b0, h]
theorem c_whole2 (i lo hi : Int) : (ev (PR W) (k + 12)).call 0 [.int i, .int lo, .int hi] st = .ok (.bl (decide (lo ≤ i) && decide (i ≤ hi))) st := by
  by_cases h : lo ≤ i <;> simp [C_call, stepC, df0, D0, b0, h]
theorem c_low {a b : Int} (h : b ≠ 0) (hb : Sm 8000 b) : (ev (PR W) (k + 12)).call 3 [.int a, .int b] st = .ok (num (rdc a b)) st := by
  have hg := gc_pos (a := a) h
  have sg : Sm 8000 (gc a b) := Nat.lt_of_le_of_lt (gc_le h) hb
  have g0 : gc a b ≠ 0 := by omega
  by_cases hn : b < 0
  · have f1 : ∀ (i : Int) (st : Store), bin2 .fdiv (.int i) (.int (-(gc a b))) st = .ok (.int (-i / gc a b)) st := fun i st => by
      rw [bin_fdiv (Sm.divok sg.neg (by omega) (by decide)), fdiv_neg_r _ _ hg]
    simp [-bi_gcd, bi_gcd', C_call, stepC, df3, D3, b3, hn, asg, f1, num, rdc]
  · have f1 : ∀ (i : Int) (st : Store), bin2 .fdiv (.int i) (.int (gc a b)) st = .ok (.int (i / gc a b)) st := fun i st => by
      rw [bin_fdiv (Sm.divok sg g0 (by decide)), Int.fdiv_eq_ediv_of_nonneg _ (Int.le_of_lt hg)]
    simp [-bi_gcd, bi_gcd', C_call, stepC, df3, D3, b3, hn, asg, f1, num, rdc]
end
end Lk

set_option Elab.async false
set_option linter.all false
set_option maxRecDepth 100000
set_option maxHeartbeats 1000000
namespace Lk
open PySem PySem.Spec PyProof.Rows L2 Pv
section
variable {W k : Nat} {st : Store}
@[simp] theorem pad0_1 (x : PV) : pad D0 [x] = [x, .non, .non] := rfl
@[simp] theorem pad0_2 (x y : PV) : pad D0 [x, y] = [x, y, .non] := rfl
@[simp] theorem pad0_3 (x y z : PV) : pad D0 [x, y, z] = [x, y, z] := rfl
@[simp] theorem pad1 (x : PV) : pad D1 [x] = [x] := rfl
@[simp] theorem pad2_1 (x : PV) : pad D2 [x] = [x, .int 1] := rfl
@[simp] theorem pad2_2 (x y : PV) : pad D2 [x, y] = [x, y] := rfl
@[simp] theorem pad3 (x y : PV) : pad D3 [x, y] = [x, y] := rfl
@[simp] theorem pad4 (x y : PV) : pad D4 [x, y] = [x, y] := rfl
@[simp] theorem pad5 (x y : PV) : pad D5 [x, y] = [x, y] := rfl
@[simp] theorem pad6 (x y : PV) : pad D6 [x, y] = [x, y] := rfl
@[simp] theorem pad7 (x y : PV) : pad D7 [x, y] = [x, y] := rfl
@[simp] theorem pad8 (x : PV) : pad D8 [x] = [x] := rfl
@[simp] theorem pad9 (x : PV) : pad D9 [x] = [x] := rfl
@[simp] theorem pad10 (x y : PV) : pad D10 [x, y] = [x, y] := rfl
theorem c_make {a b : Int} (h : b ≠ 0) (hb : Sm 8000 b) : (ev (PR W) (k + 20)).call 2 [.int a, .int b] st = .ok (num (rdc a b)) st := by
  rw [C_call]
  simp [stepC, df0, df2, df3, D2, b2, c_whole, c_low h hb, h]
theorem c_isratio {a b : Int} : (ev (PR W) (k + 20)).call 1 [num (a, b)] st = .ok (.bl (decide (1 ≤ b) && decide (gc a b = 1))) st := by
  by_cases h : 1 ≤ b <;> rw [C_call] <;> simp [-bi_gcd, bi_gcd', stepC, df0, df1, D1, b1, c_whole, c_whole1, num, asg, asgs, h]
/-- the sums' sizes -/
theorem c_plus {a b c d : Int} (ha : Sm 1000 a) (hb : Sm 1000 b) (hc : Sm 1000 c) (hd : Sm 1000 d) (h1 : b ≠ 0) (h2 : d ≠ 0) : (ev (PR W) (k + 20)).call 4 [num (a, b), num (c, d)] st = .ok (num (rdc (a * d + c * b) (b * d))) st := by
  have m1 := bin_mul (st := st) (ha.mulok hd (by decide))
  have m2 := bin_mul (st := st) (hc.mulok hb (by decide))
  have m3 := bin_mul (st := st) (hb.mulok hd (by decide))
  have q := fun k a => c_low (W := W) (k := k) (st := st) (a := a) (Int.mul_ne_zero h1 h2) ((hb.mul hd).mono (by decide))
  rw [C_call]
  simp [stepC, df4, df3, D4, b4, num, m1, m2, m3, q]
theorem c_minus {a b c d : Int} (ha : Sm 1000 a) (hb : Sm 1000 b) (hc : Sm 1000 c) (hd : Sm 1000 d) (h1 : b ≠ 0) (h2 : d ≠ 0) : (ev (PR W) (k + 20)).call 5 [num (a, b), num (c, d)] st = .ok (num (rdc (a * d - c * b) (b * d))) st := by
  have m1 := bin_mul (st := st) (ha.mulok hd (by decide))
  have m2 := bin_mul (st := st) (hc.mulok hb (by decide))
  have m3 := bin_mul (st := st) (hb.mulok hd (by decide))
  have q := fun k a => c_low (W := W) (k := k) (st := st) (a := a) (Int.mul_ne_zero h1 h2) ((hb.mul hd).mono (by decide))
  rw [C_call]
  simp [stepC, df5, df3, D5, b5, num, m1, m2, m3, q]
theorem c_times {a b c d : Int} (ha : Sm 1000 a) (hb : Sm 1000 b) (hc : Sm 1000 c) (hd : Sm 1000 d) (h1 : b ≠ 0) (h2 : d ≠ 0) : (ev (PR W) (k + 20)).call 6 [num (a, b), num (c, d)] st = .ok (num (rdc (a * c) (b * d))) st := by
  have m1 := bin_mul (st := st) (ha.mulok hc (by decide))
  have m3 := bin_mul (st := st) (hb.mulok hd (by decide))
  have q := fun k a => c_low (W := W) (k := k) (st := st) (a := a) (Int.mul_ne_zero h1 h2) ((hb.mul hd).mono (by decide))
  rw [C_call]
  simp [stepC, df6, df3, D6, b6, num, m1, m3, q]
theorem c_over {a b c d : Int} (ha : Sm 1000 a) (hb : Sm 1000 b) (hc : Sm 1000 c) (hd : Sm 1000 d) (h1 : b ≠ 0) (h2 : c ≠ 0) : (ev (PR W) (k + 20)).call 7 [num (a, b), num (c, d)] st = .ok (num (rdc (a * d) (b * c))) st := by
  have m1 := bin_mul (st := st) (ha.mulok hd (by decide))
  have m3 := bin_mul (st := st) (hb.mulok hc (by decide))
  have q := fun k a => c_low (W := W) (k := k) (st := st) (a := a) (Int.mul_ne_zero h1 h2) ((hb.mul hc).mono (by decide))
  rw [C_call]
  simp [stepC, df7, df3, D7, b7, num, m1, m3, q]
theorem c_neg {a b : Int} : (ev (PR W) (k + 20)).call 8 [num (a, b)] st = .ok (num (-a, b)) st := by
  rw [C_call]
  simp [stepC, df8, D8, b8, num]
theorem c_size {a b : Int} : (ev (PR W) (k + 20)).call 9 [num (a, b)] st = .ok (num (ab a, b)) st := by
  rw [C_call]
  simp [stepC, df9, D9, b9, num]
def cmpr (x y : Int × Int) : Int := if x.1 * y.2 = y.1 * x.2 then 0 else if x.1 * y.2 < y.1 * x.2 then -1 else 1
theorem c_cmp {a b c d : Int} (ha : Sm 1000 a) (hb : Sm 1000 b) (hc : Sm 1000 c) (hd : Sm 1000 d) : (ev (PR W) (k + 20)).call 10 [num (a, b), num (c, d)] st = .ok (.int (cmpr (a, b) (c, d))) st := by
  have m1 := bin_mul (st := st) (ha.mulok hd (by decide))
  have m2 := bin_mul (st := st) (hc.mulok hb (by decide))
  rw [C_call]
  by_cases e1 : a * d = c * b
  · simp [stepC, df10, D10, b10, num, m1, m2, asg, e1, cmpr]
  · by_cases e2 : a * d < c * b <;> simp [stepC, df10, D10, b10, num, m1, m2, asg, e1, e2, cmpr]
end
end Lk

set_option Elab.async false
set_option linter.all false
set_option maxRecDepth 100000
set_option maxHeartbeats 1000000
namespace Lk
open PySem PySem.Spec PyProof.Rows L2 Pv
section
variable {W k : Nat} {st : Store}
theorem df24 : (PR W).df[24]? = some D24 := rfl
theorem df25 : (PR W).df[25]? = some D25 := rfl
theorem df26 : (PR W).df[26]? = some D26 := rfl
theorem df27 : (PR W).df[27]? = some D27 := rfl
theorem df28 : (PR W).df[28]? = some D28 := rfl
theorem df29 : (PR W).df[29]? = some D29 := rfl
theorem df30 : (PR W).df[30]? = some D30 := rfl
theorem df32 : (PR W).df[32]? = some D32 := rfl
@[simp] theorem pad24 (x y : PV) : pad D24 [x, y] = [x, y] := rfl
@[simp] theorem pad25 (x y z : PV) : pad D25 [x, y, z] = [x, y, z] := rfl
@[simp] theorem pad26 (x y z : PV) : pad D26 [x, y, z] = [x, y, z] := rfl
@[simp] theorem pad27 (x y z : PV) : pad D27 [x, y, z] = [x, y, z] := rfl
@[simp] theorem pad28 (x y z : PV) : pad D28 [x, y, z] = [x, y, z] := rfl
@[simp] theorem pad29 (x y z : PV) : pad D29 [x, y, z] = [x, y, z] := rfl
@[simp] theorem pad30 (x y : PV) : pad D30 [x, y] = [x, y] := rfl
@[simp] theorem pad32 (x y : PV) : pad D32 [x, y] = [x, y] := rfl
theorem fmod_pos {a b : Int} (hb : 0 < b) : a.fmod b = a % b := Int.fmod_eq_emod_of_nonneg a (Int.le_of_lt hb)
theorem gc_rec {a b : Int} (ha : 0 ≤ a) (hb : 0 < b) : gc a b = gc b (a % b) := by
  unfold gc
  obtain ⟨x, rfl⟩ := Int.eq_ofNat_of_zero_le ha
  obtain ⟨y, rfl⟩ := Int.eq_ofNat_of_zero_le (Int.le_of_lt hb)
  rw [← Int.natCast_emod]
  simp only [Int.natAbs_natCast]
  rw [Nat.gcd_comm x y, Nat.gcd_rec y x, Nat.gcd_comm]
theorem lgcd_loop : ∀ (n : Nat) (a b : Int), 0 ≤ a → 0 ≤ b → b.natAbs < n →
    whileN (ev (PR W) (k + 6)) (.cmp .ne (.v 1) (.c (.int 0))) [.par 0 1 (.v 1) (.bin .mod (.bi .int [(.v 0)]) (.v 1))] n [some (.int a), some (.int b)] st = .ok (.nx, [some (.int (gc a b)), some (.int 0)]) st
  | 0, a, b, ha, hb, hn => by omega
  | n + 1, a, b, ha, hb, hn => by
    unfold whileN
    by_cases h : b = 0
    · subst h
      have : gc a 0 = a := by unfold gc; simp; omega
      simp [this]
    · have hb' : 0 < b := by omega
      have m := bin_mod (i := a) (st := st) h
      rw [fmod_pos hb'] at m
      have l1 := Int.emod_nonneg a h
      have l2 := Int.emod_lt_of_pos a hb'
      have ih := lgcd_loop n b (a % b) hb l1 (by omega)
      simp [h, m, ih, gc_rec ha hb']
theorem c_lgcd {a b : Int} (ha : 0 ≤ a) (hb : 0 ≤ b) (hW : b.natAbs < W) : (ev (PR W) (k + 10)).call 24 [.int a, .int b] st = .ok (.int (gc a b)) st := by
  rw [C_call]
  have := lgcd_loop (W := W) (k := k + 2) (st := st) W a b ha hb hW
  simp [stepC, df24, D24, b24, S_whl]
  rw [show (PR W).wf = W from rfl, this]
  simp
theorem gc_abs {a b : Int} : gc (ab a) b = gc a b := by
  unfold ab
  split
  · exact gc_neg_l a b
  · rfl
theorem c_lmake0 {a b : Int} (h : b ≠ 0) (hb : Sm 8000 b) (hW : 2 ^ 8000 ≤ W) : (ev (PR W) (k + 20)).call 25 [.int 0, .int a, .int b] st = .ok (num (rdc a b)) st := by
  have hg := gc_pos (a := a) h
  have sg : Sm 8000 (gc a b) := Nat.lt_of_le_of_lt (gc_le h) hb
  have g0 : gc a b ≠ 0 := by omega
  have f1 : ∀ (i : Int) (st : Store), bin2 .fdiv (.int i) (.int (gc a b)) st = .ok (.int (i / gc a b)) st := fun i st => by
    rw [bin_fdiv (Sm.divok sg g0 (by decide)), Int.fdiv_eq_ediv_of_nonneg _ (Int.le_of_lt hg)]
  have hbw : b.natAbs < W := Nat.lt_of_lt_of_le hb hW
  rw [C_call]
  by_cases hn : b < 0
  · have q := fun k => c_lgcd (W := W) (k := k) (st := st) (a := ab (0 - a)) (b := 0 - b) (ab_nonneg _) (by omega) (by omega)
    simp only [gc_abs, Int.zero_sub, gc_neg_l, gc_neg_r] at q
    simp [stepC, df25, df24, D25, b25, hn, asg, f1, num, rdc, q]
  · have q := fun k => c_lgcd (W := W) (k := k) (st := st) (a := ab a) (b := b) (ab_nonneg _) (by omega) hbw
    simp only [gc_abs] at q
    simp [stepC, df25, df24, D25, b25, hn, asg, f1, num, rdc, q]
theorem c_lplus0 {a b c d : Int} (ha : Sm 1000 a) (hb : Sm 1000 b) (hc : Sm 1000 c) (hd : Sm 1000 d) (h1 : b ≠ 0) (h2 : d ≠ 0) (hW : 2 ^ 8000 ≤ W) : (ev (PR W) (k + 30)).call 26 [.int 0, num (a, b), num (c, d)] st = .ok (num (rdc (a * d + c * b) (b * d))) st := by
  have m1 := bin_mul (st := st) (ha.mulok hd (by decide))
  have m2 := bin_mul (st := st) (hc.mulok hb (by decide))
  have m3 := bin_mul (st := st) (hb.mulok hd (by decide))
  have q := fun k a => c_lmake0 (W := W) (k := k) (st := st) (a := a) (Int.mul_ne_zero h1 h2) ((hb.mul hd).mono (by decide)) hW
  rw [C_call]
  simp [stepC, df26, df25, D26, b26, num, m1, m2, m3, q]
theorem c_ltimes0 {a b c d : Int} (ha : Sm 1000 a) (hb : Sm 1000 b) (hc : Sm 1000 c) (hd : Sm 1000 d) (h1 : b ≠ 0) (h2 : d ≠ 0) (hW : 2 ^ 8000 ≤ W) : (ev (PR W) (k + 30)).call 27 [.int 0, num (a, b), num (c, d)] st = .ok (num (rdc (a * c) (b * d))) st := by
  have m1 := bin_mul (st := st) (ha.mulok hc (by decide))
  have m3 := bin_mul (st := st) (hb.mulok hd (by decide))
  have q := fun k a => c_lmake0 (W := W) (k := k) (st := st) (a := a) (Int.mul_ne_zero h1 h2) ((hb.mul hd).mono (by decide)) hW
  rw [C_call]
  simp [stepC, df27, df25, D27, b27, num, m1, m3, q]
theorem low_m1 : rdc (-1) 1 = (-1, 1) := by decide +kernel
theorem rdc_m1 {c d : Int} (h : Low (c, d)) : rdc (-c) d = (-c, d) := by
  rw [rdc_neg, rdc_self h]
theorem c_lminus0 {a b c d : Int} (ha : Sm 900 a) (hb : Sm 900 b) (hc : Sm 900 c) (hd : Sm 900 d) (h1 : b ≠ 0) (l : Low (c, d)) (hW : 2 ^ 8000 ≤ W) : (ev (PR W) (k + 40)).call 28 [.int 0, num (a, b), num (c, d)] st = .ok (num (rdc (a * d - c * b) (b * d))) st := by
  have h2 : d ≠ 0 := by have := l.1; dsimp only at this; omega
  have q1 := fun k => c_lmake0 (W := W) (k := k) (st := st) (a := -1) (b := 1) (by decide) (sm1.mono (by decide)) hW
  have q2 := fun k => c_ltimes0 (W := W) (k := k) (st := st) (a := -1) (b := 1) (c := c) (d := d) (smm1.mono (by decide)) (sm1.mono (by decide)) (hc.mono (by decide)) (hd.mono (by decide)) (by decide) h2 hW
  have q3 := fun k => c_lplus0 (W := W) (k := k) (st := st) (a := a) (b := b) (c := -c) (d := d) (ha.mono (by decide)) (hb.mono (by decide)) (hc.neg.mono (by decide)) (hd.mono (by decide)) h1 h2 hW
  rw [low_m1] at q1
  rw [Int.one_mul, show (-1 : Int) * c = -c by omega, rdc_m1 l] at q2
  rw [Int.neg_mul, ← Int.sub_eq_add_neg] at q3
  rw [C_call]
  simp [stepC, df28, df26, df27, df25, D28, b28, q1, q2, q3]
theorem c_lover0 {a b c d : Int} (ha : Sm 1000 a) (hb : Sm 1000 b) (hc : Sm 1000 c) (hd : Sm 1000 d) (h1 : b ≠ 0) (h2 : c ≠ 0) (hW : 2 ^ 8000 ≤ W) : (ev (PR W) (k + 30)).call 29 [.int 0, num (a, b), num (c, d)] st = .ok (num (rdc (a * d) (b * c))) st := by
  have m1 := bin_mul (st := st) (ha.mulok hd (by decide))
  have m3 := bin_mul (st := st) (hb.mulok hc (by decide))
  have q := fun k a => c_lmake0 (W := W) (k := k) (st := st) (a := a) (Int.mul_ne_zero h1 h2) ((hb.mul hc).mono (by decide)) hW
  rw [C_call]
  simp [stepC, df29, df25, D29, b29, num, m1, m3, q]
def lord (x y : Int × Int) : Int := if x.1 * y.2 = y.1 * x.2 then 0 else if y.1 * x.2 < x.1 * y.2 then 1 else -1
theorem c_lord {a b c d : Int} (ha : Sm 1000 a) (hb : Sm 1000 b) (hc : Sm 1000 c) (hd : Sm 1000 d) : (ev (PR W) (k + 20)).call 32 [num (a, b), num (c, d)] st = .ok (.int (lord (a, b) (c, d))) st := by
  have m1 := bin_mul (st := st) (ha.mulok hd (by decide))
  have m2 := bin_mul (st := st) (hc.mulok hb (by decide))
  rw [C_call]
  by_cases e1 : a * d = c * b
  · simp [stepC, df32, D32, b32, num, m1, m2, asg, e1, lord]
  · by_cases e2 : c * b < a * d <;> simp [stepC, df32, D32, b32, num, m1, m2, asg, e1, e2, lord]
end
end Lk

set_option Elab.async false
set_option linter.all false
set_option maxRecDepth 100000
set_option maxHeartbeats 1000000
namespace Lk
open PySem PySem.Spec PyProof.Rows L2 Pv
section
variable {W k : Nat} {st : Store}
theorem c_isnum0 {a b : Int} (l : Low (a, b)) (hb : Sm 8000 b) (hW : 2 ^ 8000 ≤ W) : (ev (PR W) (k + 30)).call 30 [.int 0, num (a, b)] st = .ok (.bl true) st := by
  have h1 : 1 ≤ b := l.1
  have h2 : gc a b = 1 := l.2
  have q := fun k => c_lgcd (W := W) (k := k) (st := st) (a := ab a) (b := b) (ab_nonneg _) (by omega) (Nat.lt_of_lt_of_le hb hW)
  simp only [gc_abs, h2] at q
  rw [C_call]
  simp [stepC, df30, df24, D30, b30, num, S_for, forL_consS, forL_nilS, asg, q, h1]
theorem c_isnumP {p a b : Int} (hp : 0 < p) : (ev (PR W) (k + 30)).call 30 [.int p, num (a, b)] st = .ok (.bl ((decide (0 ≤ a) && decide (a < p)) && decide (b = 1))) st := by
  rw [C_call]
  by_cases h1 : 0 ≤ a
  · by_cases h2 : a < p <;> simp [stepC, df30, df24, D30, b30, num, S_for, forL_consS, forL_nilS, asg, hp, h1, h2]
  · simp [stepC, df30, df24, D30, b30, num, S_for, forL_consS, forL_nilS, asg, hp, h1]
end
end Lk

set_option Elab.async false
set_option linter.all false
set_option maxRecDepth 100000
set_option maxHeartbeats 1000000
namespace Lk
open PySem PySem.Spec PyProof.Rows L2 Pv
/-! ### a Field -/
def flds (v i : PV) : List (Str × PV) := [("prime", v), ("_inverses", i)]
def fld (v i : PV) : PV := .ins 0 (flds v i)
def K0 : Kl := ⟨some 13, [("number", 14), ("holds", 15), ("plus", 16), ("minus", 17), ("times", 18), ("over", 19), ("negative", 20)], ["prime", "_inverses"]⟩
section
variable {W k : Nat} {st : Store} {v i : PV}
@[simp] theorem klK0 : (PR W).kl[0]? = some K0 := rfl
@[simp] theorem insOf_fld : insOf st (fld v i) = some (0, flds v i) := rfl
@[simp] theorem mem_prime : (("prime" : Str) ∈ K0.ats) = True := eq_true (by decide +kernel)
@[simp] theorem mem_inv : (("_inverses" : Str) ∈ K0.ats) = True := eq_true (by decide +kernel)
@[simp] theorem look_prime : (flds v i).lookup ("prime" : Str) = some v := by kernel_rfl
@[simp] theorem look_inv : (flds v i).lookup ("_inverses" : Str) = some i := by kernel_rfl
@[simp] theorem look_number : (flds v i).lookup ("number" : Str) = none := by kernel_rfl
@[simp] theorem look_holds : (flds v i).lookup ("holds" : Str) = none := by kernel_rfl
@[simp] theorem look_plus : (flds v i).lookup ("plus" : Str) = none := by kernel_rfl
@[simp] theorem look_minus : (flds v i).lookup ("minus" : Str) = none := by kernel_rfl
@[simp] theorem look_times : (flds v i).lookup ("times" : Str) = none := by kernel_rfl
@[simp] theorem look_over : (flds v i).lookup ("over" : Str) = none := by kernel_rfl
@[simp] theorem look_negative : (flds v i).lookup ("negative" : Str) = none := by kernel_rfl
@[simp] theorem ms_number : K0.ms.lookup ("number" : Str) = some 14 := by kernel_rfl
@[simp] theorem ms_holds : K0.ms.lookup ("holds" : Str) = some 15 := by kernel_rfl
@[simp] theorem ms_plus : K0.ms.lookup ("plus" : Str) = some 16 := by kernel_rfl
@[simp] theorem ms_minus : K0.ms.lookup ("minus" : Str) = some 17 := by kernel_rfl
@[simp] theorem ms_times : K0.ms.lookup ("times" : Str) = some 18 := by kernel_rfl
@[simp] theorem ms_over : K0.ms.lookup ("over" : Str) = some 19 := by kernel_rfl
@[simp] theorem ms_negative : K0.ms.lookup ("negative" : Str) = some 20 := by kernel_rfl
theorem df13 : (PR W).df[13]? = some D13 := rfl
theorem df14 : (PR W).df[14]? = some D14 := rfl
theorem df15 : (PR W).df[15]? = some D15 := rfl
theorem df16 : (PR W).df[16]? = some D16 := rfl
theorem df17 : (PR W).df[17]? = some D17 := rfl
theorem df18 : (PR W).df[18]? = some D18 := rfl
theorem df19 : (PR W).df[19]? = some D19 := rfl
theorem df20 : (PR W).df[20]? = some D20 := rfl
theorem df21 : (PR W).df[21]? = some D21 := rfl
@[simp] theorem pad14_1 (x : PV) : pad { D14 with np := D14.np - 1 } [x] = [x, .int 1] := rfl
@[simp] theorem pad14_2 (x y : PV) : pad { D14 with np := D14.np - 1 } [x, y] = [x, y] := rfl
@[simp] theorem pad15 (x : PV) : pad { D15 with np := D15.np - 1 } [x] = [x] := rfl
@[simp] theorem pad16 (x y : PV) : pad { D16 with np := D16.np - 1 } [x, y] = [x, y] := rfl
@[simp] theorem pad17 (x y : PV) : pad { D17 with np := D17.np - 1 } [x, y] = [x, y] := rfl
@[simp] theorem pad18 (x y : PV) : pad { D18 with np := D18.np - 1 } [x, y] = [x, y] := rfl
@[simp] theorem pad19 (x y : PV) : pad { D19 with np := D19.np - 1 } [x, y] = [x, y] := rfl
@[simp] theorem pad20 (x : PV) : pad { D20 with np := D20.np - 1 } [x] = [x] := rfl
/-! ### by no prime -/
theorem f_number {a b : Int} (h : b ≠ 0) (hb : Sm 8000 b) : (ev (PR W) (k + 30)).call 14 [fld .non i, .int a, .int b] st = .ok (num (rdc a b)) st := by
  have q := fun k => c_make (W := W) (k := k) (st := st) (a := a) h hb
  rw [C_call]
  simp [stepC, df14, df2, D14, b14, q]
theorem f_holds {a b : Int} (l : Low (a, b)) : (ev (PR W) (k + 30)).call 15 [fld .non i, num (a, b)] st = .ok (.bl true) st := by
  have h1 : 1 ≤ b := l.1
  have h2 : gc a b = 1 := l.2
  have q := fun k => c_isratio (W := W) (k := k) (st := st) (a := a) (b := b)
  rw [C_call]
  simp [stepC, df15, df1, D15, b15, q, h1, h2]
theorem f_plus {a b c d : Int} (ha : Sm 1000 a) (hb : Sm 1000 b) (hc : Sm 1000 c) (hd : Sm 1000 d) (h1 : b ≠ 0) (h2 : d ≠ 0) : (ev (PR W) (k + 30)).call 16 [fld .non i, num (a, b), num (c, d)] st = .ok (num (rdc (a * d + c * b) (b * d))) st := by
  have q := fun k => c_plus (W := W) (k := k) (st := st) ha hb hc hd h1 h2
  rw [C_call]
  simp [stepC, df16, df4, D16, b16, q]
theorem f_minus {a b c d : Int} (ha : Sm 1000 a) (hb : Sm 1000 b) (hc : Sm 1000 c) (hd : Sm 1000 d) (h1 : b ≠ 0) (h2 : d ≠ 0) : (ev (PR W) (k + 30)).call 17 [fld .non i, num (a, b), num (c, d)] st = .ok (num (rdc (a * d - c * b) (b * d))) st := by
  have q := fun k => c_minus (W := W) (k := k) (st := st) ha hb hc hd h1 h2
  rw [C_call]
  simp [stepC, df17, df5, D17, b17, q]
theorem f_times {a b c d : Int} (ha : Sm 1000 a) (hb : Sm 1000 b) (hc : Sm 1000 c) (hd : Sm 1000 d) (h1 : b ≠ 0) (h2 : d ≠ 0) : (ev (PR W) (k + 30)).call 18 [fld .non i, num (a, b), num (c, d)] st = .ok (num (rdc (a * c) (b * d))) st := by
  have q := fun k => c_times (W := W) (k := k) (st := st) ha hb hc hd h1 h2
  rw [C_call]
  simp [stepC, df18, df6, D18, b18, q]
theorem f_over {a b c d : Int} (ha : Sm 1000 a) (hb : Sm 1000 b) (hc : Sm 1000 c) (hd : Sm 1000 d) (h1 : b ≠ 0) (h2 : c ≠ 0) : (ev (PR W) (k + 30)).call 19 [fld .non i, num (a, b), num (c, d)] st = .ok (num (rdc (a * d) (b * c))) st := by
  have q := fun k => c_over (W := W) (k := k) (st := st) ha hb hc hd h1 h2
  rw [C_call]
  simp [stepC, df19, df7, D19, b19, q]
theorem f_negative {a b : Int} : (ev (PR W) (k + 30)).call 20 [fld .non i, num (a, b)] st = .ok (num (-a, b)) st := by
  have q := fun k => c_neg (W := W) (k := k) (st := st) (a := a) (b := b)
  rw [C_call]
  simp [stepC, df20, df8, D20, b20, q]
end
end Lk

set_option Elab.async false
set_option linter.all false
set_option maxRecDepth 100000
set_option maxHeartbeats 1000000
namespace Lk
open PySem PySem.Spec PyProof.Rows L2 Pv
section
variable {W k : Nat} {st : Store} {i : PV} {p : Int}
theorem bmod {a p : Int} {st : Store} (hp : 0 < p) : bin2 .mod (.int a) (.int p) st = .ok (.int (a % p)) st := by
  rw [bin_mod (by omega), fmod_pos hp]
theorem emod_sm {a p : Int} (hp : 0 < p) (h : p < 100) : Sm 7 (a % p) := by
  have h1 := Int.emod_nonneg a (show p ≠ 0 by omega)
  have h2 := Int.emod_lt_of_pos a hp
  unfold Sm
  omega
/-! ### a Field by a prime -/
theorem g_plus {a b c d : Int} (hp : 0 < p) : (ev (PR W) (k + 30)).call 16 [fld (.int p) i, num (a, b), num (c, d)] st = .ok (num ((a + c) % p, 1)) st := by
  have q := fun a st => bmod (a := a) (st := st) hp
  rw [C_call]
  simp [stepC, df16, D16, b16, num, q]
theorem g_minus {a b c d : Int} (hp : 0 < p) : (ev (PR W) (k + 30)).call 17 [fld (.int p) i, num (a, b), num (c, d)] st = .ok (num ((a - c) % p, 1)) st := by
  have q := fun a st => bmod (a := a) (st := st) hp
  rw [C_call]
  simp [stepC, df17, D17, b17, num, q]
theorem g_times {a b c d : Int} (hp : 0 < p) (ha : Sm 1000 a) (hc : Sm 1000 c) : (ev (PR W) (k + 30)).call 18 [fld (.int p) i, num (a, b), num (c, d)] st = .ok (num ((a * c) % p, 1)) st := by
  have q := fun a st => bmod (a := a) (st := st) hp
  have m := bin_mul (st := st) (ha.mulok hc (by decide))
  rw [C_call]
  simp [stepC, df18, D18, b18, num, q, m]
theorem g_over {a b c d x : Int} {is : List PV} (hp : 0 < p) (ha : Sm 1000 a) (hx : Sm 1000 x) (h : atI is c = some (.int x)) : (ev (PR W) (k + 30)).call 19 [fld (.int p) (.tup is), num (a, b), num (c, d)] st = .ok (num ((a * x) % p, 1)) st := by
  have q := fun a st => bmod (a := a) (st := st) hp
  have m := bin_mul (st := st) (ha.mulok hx (by decide))
  rw [C_call]
  simp [stepC, df19, D19, b19, num, q, m, h]
theorem g_negative {a b : Int} (hp : 0 < p) : (ev (PR W) (k + 30)).call 20 [fld (.int p) i, num (a, b)] st = .ok (num ((-a) % p, 1)) st := by
  have q := fun a st => bmod (a := a) (st := st) hp
  rw [C_call]
  simp [stepC, df20, D20, b20, num, q]
theorem g_number {a b x : Int} {is : List PV} (hp : 0 < p) (hp' : p < 100) (h0 : b % p ≠ 0) (hx : Sm 1000 x) (h : atI is (b % p) = some (.int x)) : (ev (PR W) (k + 50)).call 14 [fld (.int p) (.tup is), .int a, .int b] st = .ok (num ((a % p * x) % p, 1)) st := by
  have q := fun a st => bmod (a := a) (st := st) hp
  have q2 := fun k => g_over (W := W) (k := k) (st := st) (a := a % p) (b := 1) (c := b % p) (d := 1) hp ((emod_sm hp hp').mono (by decide)) hx h
  simp only [num] at q2
  rw [C_call]
  simp [stepC, df14, df19, df0, D14, b14, num, q, q2, c_whole, h0]
theorem g_holds {a : Int} (h1 : 0 ≤ a) (h2 : a < p) : (ev (PR W) (k + 30)).call 15 [fld (.int p) i, num (a, 1)] st = .ok (.bl true) st := by
  have h3 : a ≤ p - 1 := by omega
  rw [C_call]
  simp [stepC, df15, df0, D15, b15, num, c_whole2, h1, h3]
/-! ### the law's own sums by a prime -/
/-- the last of 0 .. n - 1 whose product with b has the rest 1; 0 if there is none -/
def fnd (p b : Int) : Nat → Int
  | 0 => 0
  | j + 1 => if b * j % p = 1 then j else fnd p b j
theorem fnd_lt (p b : Int) : ∀ n : Nat, 0 ≤ fnd p b n ∧ (fnd p b n < n ∨ fnd p b n = 0)
  | 0 => ⟨Int.le_refl 0, .inr rfl⟩
  | j + 1 => by
    have ih := fnd_lt p b j
    unfold fnd
    split
    · omega
    · omega
theorem fnd_sm {p b : Int} (hp' : p < 100) (n : Nat) (h : (n : Int) ≤ p) : Sm 7 (fnd p b n) := by
  have := fnd_lt p b n
  unfold Sm
  omega
theorem c_lmakeP {a b : Int} (hp : 0 < p) (hp' : p < 100) (ha : Sm 1000 a) (hb : Sm 1000 b) : (ev (PR W) (k + 30)).call 25 [.int p, .int a, .int b] st = .ok (num ((a * fnd p b p.toNat) % p, 1)) st := by
  have q := fun a st => bmod (a := a) (st := st) hp
  obtain ⟨env', st', e, hj⟩ := for_inv (r := ev (PR W) (k + 27)) (tg := .n 4) (b := [.ite (.cmp .eq (.bin .mod (.bi .int [(.bin .mul (.v 2) (.v 4))]) (.v 0)) (.c (.int 1))) [.set (.n 3) (.v 4)] []]) (g := fun _ => True) (xs := (List.range p.toNat).map fun (j : Nat) => PV.int j)
    (env := [some (.int p), some (.int a), some (.int b), some (.int 0), none, none]) (st := st) (fun j env s => s = st ∧ ∃ z, env = [some (.int p), some (.int a), some (.int b), some (.int (fnd p b j)), z, none])
    ⟨rfl, none, rfl⟩ (fun _ _ _ _ _ => trivial) (fun j x env s hx ⟨hs, z, he⟩ => by
      subst hs he
      have hj : j < p.toNat := by
        have := (List.getElem?_eq_some_iff.mp hx).1
        simpa using this
      rw [List.getElem?_map, List.getElem?_range hj] at hx
      cases hx
      refine ⟨_, rfl, ?_⟩
      have m := bin_mul (st := s) (hb.mulok (show Sm 7 (j : Int) by unfold Sm; omega) (by decide))
      refine ⟨[some (.int p), some (.int a), some (.int b), some (.int (fnd p b (j + 1))), some (.int j), none], s, .inl ?_, rfl, _, rfl⟩
      by_cases h1 : b * j % p = 1 <;> simp [asg, q, m, h1, fnd])
  obtain ⟨rfl, z, rfl⟩ := hj
  rw [List.length_map, List.length_range] at e
  have m := bin_mul (st := st') (ha.mulok (fnd_sm (b := b) hp' p.toNat (by omega)) (by decide))
  rw [C_call]
  simp [stepC, df25, D25, b25, num, S_for, walk_rng1 (Int.le_of_lt hp) (by omega : p < 2 ^ 62), hp, asg, e, q, m]
theorem c_lplusP {a b c d : Int} (hp : 0 < p) : (ev (PR W) (k + 30)).call 26 [.int p, num (a, b), num (c, d)] st = .ok (num ((a + c) % p, 1)) st := by
  have q := fun a st => bmod (a := a) (st := st) hp
  rw [C_call]
  simp [stepC, df26, D26, b26, num, q, hp]
theorem c_ltimesP {a b c d : Int} (hp : 0 < p) (ha : Sm 1000 a) (hc : Sm 1000 c) : (ev (PR W) (k + 30)).call 27 [.int p, num (a, b), num (c, d)] st = .ok (num ((a * c) % p, 1)) st := by
  have q := fun a st => bmod (a := a) (st := st) hp
  have m := bin_mul (st := st) (ha.mulok hc (by decide))
  rw [C_call]
  simp [stepC, df27, D27, b27, num, q, m, hp]
theorem c_loverP {a b c d : Int} (hp : 0 < p) (hp' : p < 100) (ha : Sm 1000 a) (hc : Sm 1000 c) : (ev (PR W) (k + 50)).call 29 [.int p, num (a, b), num (c, d)] st = .ok (num ((a * fnd p c p.toNat) % p, 1)) st := by
  have q := fun k => c_lmakeP (W := W) (k := k) (st := st) hp hp' ha hc
  rw [C_call]
  simp [stepC, df29, df25, D29, b29, num, hp]
  simp only [num] at q
  simp [q]
end
end Lk

set_option Elab.async false
set_option linter.all false
set_option maxRecDepth 100000
set_option maxHeartbeats 1000000
namespace Lk
open PySem PySem.Spec PyProof.Rows L2 Pv
/-! ### the inverses -/
def invL (p : Int) : Nat → List Int
  | 0 => [0, 1]
  | n + 1 => invL p n ++ [(-(p / ((n : Int) + 2)) * (invL p n).getD (p % ((n : Int) + 2)).toNat 0) % p]
theorem invL_len (p : Int) : ∀ n, (invL p n).length = n + 2
  | 0 => rfl
  | n + 1 => by simp [invL, invL_len p n]
theorem invL_in {p : Int} (hp : 2 ≤ p) : ∀ n, ∀ x ∈ invL p n, 0 ≤ x ∧ x < p
  | 0, x, h => by simp [invL] at h; omega
  | n + 1, x, h => by
    unfold invL at h
    rcases List.mem_append.mp h with h | h
    · exact invL_in hp n x h
    · rw [List.mem_singleton] at h
      subst h
      exact ⟨Int.emod_nonneg _ (by omega), Int.emod_lt_of_pos _ (by omega)⟩
theorem inv_step (p : Int) (j : Nat) : (invL p j).map PV.int ++ [PV.int ((-(p / (2 + (j : Int))) * (invL p j).getD (p % (2 + (j : Int))).toNat 0) % p)] = (invL p (j + 1)).map PV.int := by
  rw [invL, Int.add_comm (j : Int) 2, List.map_append, List.map_singleton]
theorem frzL_ints (f : Nat → Option PV) : ∀ l : List Int, frzL f (l.map PV.int) = some (l.map PV.int)
  | [] => rfl
  | x :: l => by
    rw [List.map_cons]
    unfold frzL
    rw [frzL_ints f l]
    rfl
theorem frz_ints (f : Nat → Option PV) (l : List Int) : frz f (.tup (l.map PV.int)) = some (.tup (l.map PV.int)) := by
  unfold frz
  rw [frzL_ints f l]
theorem getD_in {l : List Int} {j : Nat} (h : j < l.length) : l.getD j 0 ∈ l := by
  rw [List.getD_eq_getElem?_getD, List.getElem?_eq_getElem h]
  exact List.getElem_mem h
theorem atI_ints {l : List Int} {j : Int} (h0 : 0 ≤ j) (h : j.toNat < l.length) : atI (l.map PV.int) j = some (.int (l.getD j.toNat 0)) := by
  obtain ⟨n, rfl⟩ := Int.eq_ofNat_of_zero_le h0
  rw [Int.toNat_natCast] at h ⊢
  refine atI_nat (j := n) ?_
  rw [List.getElem?_map, List.getElem?_eq_getElem h, List.getD_eq_getElem?_getD, List.getElem?_eq_getElem h]
  rfl
section
variable {W k : Nat} {st : Store} {p : Int}
@[simp] theorem pad21 (x : PV) : pad D21 [x] = [x] := rfl
theorem at_new {st : Store} {o : SO} : (st ++ [o])[st.length]? = some o := by
  rw [List.getElem?_append_right (Nat.le_refl _)]
  simp
theorem c_inv (hp : 2 ≤ p) (hp' : p < 100) : (ev (PR W) (k + 30)).call 21 [.int p] st = .ok (.tup ((invL p (p - 2).toNat).map .int)) st := by
  obtain ⟨env', st', e, hj⟩ := for_inv (r := ev (PR W) (k + 28)) (tg := .n 2) (b := [.app (.v 1) (.bin .mod (.bin .mul (.neg (.bin .fdiv (.v 0) (.v 2))) (.idx (.v 1) (.bin .mod (.v 0) (.v 2)))) (.v 0))]) (g := fun _ => True) (xs := (List.range (p - 2).toNat).map fun (j : Nat) => PV.int (2 + j))
    (env := [some (.int p), some (.ref st.length), none]) (st := st ++ [.lst [.int 0, .int 1]]) (fun j env s => s = st ++ [.lst ((invL p j).map .int)] ∧ ∃ z, env = [some (.int p), some (.ref st.length), z])
    ⟨rfl, none, rfl⟩ (fun _ _ _ _ _ => trivial) (fun j x env s hx ⟨hs, z, he⟩ => by
      subst hs he
      have hj : j < (p - 2).toNat := by
        have := (List.getElem?_eq_some_iff.mp hx).1
        simpa using this
      rw [List.getElem?_map, List.getElem?_range hj] at hx
      cases hx
      have hr : (0 : Int) < 2 + (j : Int) := by omega
      have l1 := Int.emod_nonneg p (show (2 + (j : Int)) ≠ 0 by omega)
      have l2 := Int.emod_lt_of_pos p hr
      have hlt : (p % (2 + (j : Int))).toNat < (invL p j).length := by rw [invL_len]; omega
      have hin := invL_in hp j _ (getD_in hlt)
      have d1 : ∀ st : Store, bin2 .fdiv (.int p) (.int (2 + (j : Int))) st = .ok (.int (p / (2 + (j : Int)))) st := fun st => by
        rw [bin_fdiv (Sm.divok (show Sm 7 (2 + (j : Int)) by unfold Sm; omega) (by omega) (by decide)), Int.fdiv_eq_ediv_of_nonneg _ (Int.le_of_lt hr)]
      have sd : Sm 7 (p / (2 + (j : Int))) := by
        have := natAbs_div_le (a := p) hr
        unfold Sm
        omega
      have m1 := fun st : Store => bin_mul (st := st) (sd.neg.mulok (show Sm 7 ((invL p j).getD (p % (2 + (j : Int))).toNat 0) by unfold Sm; omega) (by decide))
      have q := fun a (st : Store) => bmod (a := a) (st := st) (show 0 < p by omega)
      have q2 := fun a (st : Store) => bmod (a := a) (st := st) hr
      have a1 := atI_ints l1 hlt
      refine ⟨_, rfl, [some (.int p), some (.ref st.length), some (.int (2 + j))], st ++ [.lst ((invL p (j + 1)).map .int)], .inl ?_, rfl, _, rfl⟩
      have pu := push_at (st0 := st) (acc := (invL p j).map .int) (y := .int ((-(p / (2 + (j : Int))) * (invL p j).getD (p % (2 + (j : Int))).toNat 0) % p)) rfl (by rw [List.length_map, invL_len]; exact Nat.lt_of_lt_of_le (show j + 2 < 1000 by omega) (by decide))
      rw [inv_step] at pu
      have sq : seqOf (st ++ [.lst ((invL p j).map .int)]) (.ref st.length) = some (false, (invL p j).map .int) := seqOf_ref at_new
      simp only [blk_cons, blk_nil, S_app, E_v, E_bin, E_neg, E_idx, Res.ok_bind, List.getElem?_cons_zero, List.getElem?_cons_succ, at_new, d1, q2, sq, a1, tl_some, m1, q, pu, List.set_cons_succ, List.set_cons_zero])
  obtain ⟨rfl, z, rfl⟩ := hj
  rw [List.length_map, List.length_range] at e
  have sq : seqOf (st ++ [.lst ((invL p (p - 2).toNat).map .int)]) (.ref st.length) = some (false, (invL p (p - 2).toNat).map .int) := seqOf_ref at_new
  have dn : done st false (.tup ((invL p (p - 2).toNat).map .int)) (st ++ [.lst ((invL p (p - 2).toNat).map .int)]) = .ok (.tup ((invL p (p - 2).toNat).map .int)) st := by
    rw [done_new (by simp) (oldOk_app _) (.inl rfl) (frz_ints _ _), List.take_left']
    rfl
  rw [C_call]
  simp [stepC, df21, D21, b21, S_for, asg, walk_rng2 (show (0 : Int) ≤ 2 by decide) (show 0 ≤ p by omega) (by decide) (show p < 2 ^ 62 by omega), e, sq, dn]
end
end Lk

set_option Elab.async false
set_option linter.all false
set_option maxRecDepth 100000
set_option maxHeartbeats 1000000
namespace Lk
open PySem PySem.Spec PyProof.Rows L2 Pv
/-! ### the inverses are inverses -/
def primes : List Int := [2, 3, 5, 7, 11, 13, 17, 19, 23, 29, 31, 37, 41, 43, 47, 53, 59, 61, 67, 71, 73, 79, 83, 89, 97]
/-- a prime of the table -/
structure Pr (p : Int) : Prop where
  lo : 2 ≤ p
  hi : p < 100
  no : ∀ r : Int, 2 ≤ r → r < p → p % r ≠ 0
theorem pr_all : (primes.all fun p => decide (2 ≤ p) && (decide (p < 100) && (List.range p.toNat).all fun r => decide (r < 2) || decide (p % (r : Int) ≠ 0))) = true := by decide +kernel
theorem pr_of {p : Int} (h : p ∈ primes) : Pr p := by
  have z := List.all_eq_true.mp pr_all p h
  simp only [Bool.and_eq_true, decide_eq_true_eq] at z
  refine ⟨z.1, z.2.1, fun r h1 h2 => ?_⟩
  have z2 := List.all_eq_true.mp z.2.2 r.toNat (List.mem_range.mpr (by omega))
  simp only [Bool.or_eq_true, decide_eq_true_eq] at z2
  rcases z2 with z2 | z2
  · omega
  · rwa [Int.toNat_of_nonneg (by omega)] at z2
def iv (p b : Int) : Int := (invL p (p - 2).toNat).getD b.toNat 0
theorem inv_ok {p : Int} (h : Pr p) : ∀ n : Nat, (n : Int) ≤ p - 2 → ∀ b : Nat, 1 ≤ b → b < n + 2 → ((b : Int) * (invL p n).getD b 0) % p = 1
  | 0, hn, b, h1, h2 => by
    obtain rfl : b = 1 := by omega
    have := h.lo
    show (1 * 1 : Int) % p = 1
    rw [Int.one_mul]
    exact Int.emod_eq_of_lt (by decide) (by omega)
  | n + 1, hn, b, h1, h2 => by
    have hp := h.lo
    have hl := invL_len p n
    have hn' : (n : Int) + 1 ≤ p - 2 := by simpa using hn
    rw [invL, List.getD_eq_getElem?_getD]
    by_cases e : b = n + 2
    · subst e
      rw [List.getElem?_append_right (by omega), hl, Nat.sub_self]
      simp only [List.getElem?_cons_zero, Option.getD_some]
      have hr : (0 : Int) < (n : Int) + 2 := by omega
      have l1 := Int.emod_nonneg p (show ((n : Int) + 2) ≠ 0 by omega)
      have l2 := Int.emod_lt_of_pos p hr
      have l3 := h.no ((n : Int) + 2) (by omega) (by omega)
      have ih := inv_ok h n (by omega) (p % ((n : Int) + 2)).toNat (by omega) (by omega)
      rw [Int.toNat_of_nonneg l1] at ih
      generalize (invL p n).getD (p % ((n : Int) + 2)).toNat 0 = x at ih ⊢
      rw [Int.mul_emod, Int.emod_emod_of_dvd _ (Int.dvd_refl p), ← Int.mul_emod]
      have dv := Int.mul_ediv_add_emod p ((n : Int) + 2)
      have c : ((n + 2 : Nat) : Int) = (n : Int) + 2 := by omega
      rw [c]
      have e2 : ((n : Int) + 2) * (-(p / ((n : Int) + 2)) * x) = (p % ((n : Int) + 2)) * x - p * x := by
        have e3 : ((n : Int) + 2) * (p / ((n : Int) + 2)) = p - p % ((n : Int) + 2) := by omega
        rw [Int.neg_mul, Int.mul_neg, ← Int.mul_assoc, e3, Int.sub_mul]
        omega
      rw [e2, Int.sub_mul_emod_self_left]
      exact ih
    · rw [List.getElem?_append_left (by omega), ← List.getD_eq_getElem?_getD]
      exact inv_ok h n (by omega) b h1 (by omega)
theorem iv_ok {p b : Int} (h : Pr p) (h1 : 1 ≤ b) (h2 : b < p) : (b * iv p b) % p = 1 := by
  have := inv_ok h (p - 2).toNat (by have := h.lo; omega) b.toNat (by omega) (by have := h.lo; omega)
  rwa [Int.toNat_of_nonneg (by omega)] at this
theorem iv_in {p b : Int} (h : Pr p) (h1 : 0 ≤ b) (h2 : b < p) : 0 ≤ iv p b ∧ iv p b < p := invL_in h.lo _ _ (getD_in (by rw [invL_len]; have := h.lo; omega))
theorem iv_sm {p b : Int} (h : Pr p) (h1 : 0 ≤ b) (h2 : b < p) : Sm 7 (iv p b) := by
  have := iv_in h h1 h2
  have := h.hi
  unfold Sm
  omega
theorem iv_at {p b : Int} (h : Pr p) (h1 : 0 ≤ b) (h2 : b < p) : atI ((invL p (p - 2).toNat).map PV.int) b = some (.int (iv p b)) := atI_ints h1 (by rw [invL_len]; have := h.lo; omega)
theorem inv_uniq {p b j x : Int} (hj : 0 ≤ j) (hj' : j < p) (hx : 0 ≤ x) (hx' : x < p) (h1 : b * j % p = 1) (h2 : b * x % p = 1) : j = x := by
  have e1 : (j * (b * x)) % p = j := by
    rw [Int.mul_emod, h2, Int.mul_one, Int.emod_emod_of_dvd _ (Int.dvd_refl p), Int.emod_eq_of_lt hj hj']
  have e2 : ((b * j) * x) % p = x := by
    rw [Int.mul_emod, h1, Int.one_mul, Int.emod_emod_of_dvd _ (Int.dvd_refl p), Int.emod_eq_of_lt hx hx']
  have e3 : j * (b * x) = (b * j) * x := by rw [← Int.mul_assoc, Int.mul_comm j b]
  rw [e3, e2] at e1
  exact e1.symm
theorem fnd_of {p b x : Int} (hx : 0 ≤ x) (h : b * x % p = 1) : ∀ n : Nat, (n : Int) ≤ p → x < n → fnd p b n = x
  | 0, hn, h2 => by omega
  | j + 1, hn, h2 => by
    unfold fnd
    by_cases e : b * j % p = 1
    · rw [if_pos e]
      exact inv_uniq (by omega) (by omega) hx (by omega) e h
    · rw [if_neg e]
      have ne : x ≠ j := fun z => e (by rw [← z]; exact h)
      exact fnd_of hx h j (by omega) (by omega)
theorem fnd_iv {p b : Int} (h : Pr p) (hb : b % p ≠ 0) : fnd p b p.toNat = iv p (b % p) := by
  have hp := h.lo
  have l1 := Int.emod_nonneg b (show p ≠ 0 by omega)
  have l2 := Int.emod_lt_of_pos b (show 0 < p by omega)
  have z := iv_in h l1 l2
  refine fnd_of z.1 ?_ p.toNat (by omega) (by omega)
  have := iv_ok h (b := b % p) (by omega) l2
  rw [Int.mul_emod, Int.emod_emod_of_dvd _ (Int.dvd_refl p), ← Int.mul_emod] at this
  exact this
end Lk

set_option Elab.async false
set_option linter.all false
set_option maxRecDepth 100000
set_option maxHeartbeats 1000000
namespace Lk
open PySem PySem.Spec PyProof.Rows L2 Pv
section
variable {W k : Nat} {st : Store} {p : Int}
/-! ### a Field is made -/
theorem gl2 : (PR W).gl[2]? = some (.tup (primes.map PV.int)) := rfl
theorem intsOf_map : ∀ l : List Int, intsOf (l.map PV.int) = some l
  | [] => rfl
  | x :: l => by
    rw [List.map_cons, intsOf, intsOf_map l]
theorem mem_pr (h : p ∈ primes) : cmpR .mem (.int p) (.tup (primes.map PV.int)) st = some true := by
  show mem2 st (.int p) (.tup (primes.map PV.int)) = some true
  unfold mem2
  dsimp only
  rw [intsOf_map]
  dsimp only
  rw [List.any_eq_true.mpr ⟨p, h, by simp⟩]
theorem put1 (v : PV) : putP ("prime" : Str) v [] = [(("prime" : Str), v)] := rfl
theorem put2 (v i : PV) : putP ("_inverses" : Str) i [(("prime" : Str), v)] = flds v i := by kernel_rfl
theorem set_new {st : Store} {o o' : SO} : (st ++ [o]).set st.length o' = st ++ [o'] := by
  rw [List.set_append_right _ _ (Nat.le_refl _)]
  simp
theorem c_init (h : p ∈ primes) : (ev (PR W) (k + 50)).call 13 [.ref st.length, .int p] (st ++ [.ins 0 []]) = .ok .non (st ++ [.ins 0 (flds (.int p) (.tup ((invL p (p - 2).toNat).map .int)))]) := by
  have hp := pr_of h
  have q := fun k (st : Store) => c_inv (W := W) (k := k) (st := st) hp.lo hp.hi
  have m := fun st : Store => mem_pr (st := st) h
  have q0 := fun k (st : Store) => c_whole (W := W) (k := k) (st := st) p
  rw [C_call]
  have g2 := gl2 (W := W)
  have l1 : ([] : List (Str × PV)).length < 1000 := by decide
  simp [stepC, df13, df0, df21, D13, b13, q, q0, m, g2, put1, put2, set_new, done_len]
theorem c_init0 : (ev (PR W) (k + 50)).call 13 [.ref st.length, .non] (st ++ [.ins 0 []]) = .ok .non (st ++ [.ins 0 (flds .non (.tup []))]) := by
  rw [C_call]
  simp [stepC, df13, D13, b13, put1, put2, set_new, done_len]
theorem frz_fld {f : Nat → Option PV} {v : PV} {l : List Int} (hv : frz f v = some v) : frzF f (flds v (.tup (l.map .int))) = some (flds v (.tup (l.map .int))) := by
  unfold flds frzF
  rw [hv]
  unfold frzF
  rw [frz_ints]
  unfold frzF
  rfl
theorem onRef_new {st : Store} {v : PV} {l : List Int} {x : Nat} (hx : x = st.length + 1) (hv : ∀ f, frz f v = some v) : onRef (st ++ [.ins 0 (flds v (.tup (l.map .int)))]) st.length x 3 st.length = some (fld v (.tup (l.map .int))) := by
  unfold onRef
  rw [if_neg (Nat.lt_irrefl _), if_neg (by omega), at_new]
  dsimp only
  rw [frz_fld (hv _)]
  rfl
theorem newI_by {v : PV} {l : List Int} (hv : ∀ f, frz f v = some v) (hc : (ev (PR W) k).call 13 [.ref st.length, v] (st ++ [.ins 0 []]) = .ok .non (st ++ [.ins 0 (flds v (.tup (l.map .int)))])) : newI (ev (PR W) k) 0 13 false [v] st = .ok (fld v (.tup (l.map .int))) st := by
  unfold newI
  rw [hc]
  simp only [Res.ok_bind, Bool.false_eq_true, if_false]
  have : frz (onRef (st ++ [.ins 0 (flds v (.tup (l.map .int)))]) st.length (st ++ [SO.ins 0 (flds v (.tup (l.map .int)))]).length 3) (.ref st.length) = some (fld v (.tup (l.map .int))) := by
    unfold frz
    exact onRef_new (by simp) hv
  rw [done_new (by simp) (oldOk_app _) (.inl rfl) this, List.take_left']
  rfl
theorem f_new {e : Ex} {env : En} (h : p ∈ primes) (he : (ev (PR W) (k + 59)).E e env st = .ok (.int p) st) : (ev (PR W) (k + 60)).E (.new 0 false [e]) env st = .ok (fld (.int p) (.tup ((invL p (p - 2).toNat).map .int))) st := by
  rw [E_new]
  simp only [evL_cons, evL_nil, he, Res.ok_bind, klK0]
  exact newI_by (fun _ => rfl) (c_init h)
theorem f_new0 {env : En} : (ev (PR W) (k + 60)).E (.new 0 false []) env st = .ok (fld .non (.tup [])) st := by
  rw [E_new]
  simp only [evL_nil, Res.ok_bind, klK0]
  exact newI_by (l := []) (fun _ => rfl) c_init0
end
end Lk

set_option Elab.async false
set_option linter.all false
set_option maxRecDepth 100000
set_option maxHeartbeats 1000000
namespace Lk
open PySem PySem.Spec PyProof.Rows L2 Pv
/-! ### the bag -/
def bagO (cells : List Int) (t r : Int) : SO := .lst [.lst (cells.map .int), .int t, .int r]
def cellsOf (ns : List Int) : List Int := if ns = [] then [5] else ns.map ab
section
variable {W k : Nat} {st : Store} {p : Int}
theorem df22 : (PR W).df[22]? = some D22 := rfl
theorem df23 : (PR W).df[23]? = some D23 := rfl
@[simp] theorem pad22 (x : PV) : pad D22 [x] = [x] := rfl
@[simp] theorem pad23 (x y : PV) : pad D23 [x, y] = [x, y] := rfl
@[simp] theorem atI2 {α : Type} (x y z : α) (xs : List α) : atI (x :: y :: z :: xs) 2 = some z := atI_nat (j := 2) rfl
theorem cut63 {xs : List PV} (h : xs.length ≤ 63) : cutP xs none (some 63) = xs := by
  unfold cutP
  rw [HT.sIx_none, show HT.sIx xs.length xs.length (some 63) = min 63 xs.length from HT.sIx_nat xs.length xs.length 63]
  rw [Nat.min_eq_right h]
  simp
def abV : PV → PV
  | .int i => .int (ab i)
  | x => x
theorem frz_lstI (f : Nat → Option PV) (l : List Int) : frz f (.lst (l.map PV.int)) = some (.lst (l.map PV.int)) := by
  unfold frz
  rw [frzL_ints f l]
theorem frzL_bag (f : Nat → Option PV) (l : List Int) (t r : Int) : frzL f [.lst (l.map .int), .int t, .int r] = some [.lst (l.map .int), .int t, .int r] := by
  unfold frzL
  rw [frz_lstI]
  rfl
theorem bag_comp {ns : List Int} (h : ns.length ≤ 63) {env : En} (he : env = [some (.scr ns), none, none]) : (ev (PR W) (k + 10)).E (.comp false (.bi .abs [(.v 2)]) (.n 2) .seq [(.slc (.v 0) .nil (.c (.int 63)))] []) env [] = .ok (.lst ((ns.map ab).map .int)) [] := by
  subst he
  have c := compL_map (r := ev (PR W) (k + 9)) (e := .bi .abs [(.v 2)]) (tg := .n 2) (g := fun st' => seqOf st' (.lst (ns.map PV.int)) = some (false, ns.map PV.int)) (d := 0) (env := [some (.scr ns), none, none]) abV (st0 := []) rfl (fun _ => rfl) (ns.map PV.int) []
    (fun x hx => by
      obtain ⟨i, _, rfl⟩ := List.mem_map.mp hx
      exact ⟨_, rfl, fun acc => by simp [abV]⟩) (by simp; exact Nat.le_trans h (by decide))
  have e1 : (ns.map PV.int).map abV = (ns.map ab).map PV.int := by
    rw [List.map_map, List.map_map]
    rfl
  rw [List.nil_append, List.nil_append, List.nil_append, e1] at c
  have dn : done [] false (.ref 0) [.lst ((ns.map ab).map .int)] = .ok (.lst ((ns.map ab).map .int)) [] := by
    refine (done_new (st := []) (by simp) (oldOk_app (st := []) _) (.inl rfl) (w := .lst ((ns.map ab).map .int)) ?_)
    unfold frz
    show onRef _ 0 1 3 0 = _
    unfold onRef
    simp only [Nat.lt_irrefl, if_false, List.getElem?_cons_zero]
    rw [if_neg (by decide), frzL_ints]
  rw [E_comp]
  unfold comp
  simp only [evL_cons, evL_nil, E_slc, E_v, E_c, partOf, Res.ok_bind, List.getElem?_cons_zero]
  rw [cut63 (by simpa using h)]
  dsimp only [walk_lst]
  show ((compL (ev (PR W) (k + 9)) (.bi .abs [(.v 2)]) (.n 2) [] (fun st' => seqOf st' (.lst (ns.map PV.int)) = some (false, ns.map PV.int)) 0 [some (.scr ns), none, none] (ns.map PV.int) [.lst []]).bind fun _ st' => if false = true then _ else done [] false (.ref 0) st') = _
  rw [c]
  exact dn
theorem c_bag {ns : List Int} (h : ns.length ≤ 63) : (ev (PR W) (k + 20)).call 22 [.scr ns] [] = .ok (.ref 0) [bagO (cellsOf ns) 0 0] := by
  have q := fun k => bag_comp (W := W) (k := k) h rfl
  have dn : ∀ l : List Int, done [] true (.ref 0) [bagO l 0 0] = .ok (.ref 0) [bagO l 0 0] := fun l => by
    unfold done
    rw [if_neg (by simp), if_pos (show OldOk [] [bagO l 0 0] from oldOk_app (st := []) [bagO l 0 0])]
    simp [bagO, frzL_bag]
  rw [C_call]
  by_cases hn : ns = []
  · subst hn
    simp [stepC, df22, D22, b22, q, asg, cellsOf]
    exact dn [5]
  · have hl : ¬ (ns.length = 0) := fun z => hn (List.length_eq_zero_iff.mp z)
    have := dn (ns.map ab)
    simp only [bagO, List.map_map] at this
    simp [stepC, df22, D22, b22, q, asg, cellsOf, hn, bagO, this]
end
end Lk

set_option Elab.async false
set_option linter.all false
set_option maxRecDepth 100000
set_option maxHeartbeats 1000000
namespace Lk
open PySem PySem.Spec PyProof.Rows L2 Pv
/-! ### draws -/
def mix1 (c t : Int) : Int := ((c + 17) * 48271 + t * t * 7919 + t * 104729) % 2147483647
def mix (c t : Int) : Int := (mix1 c t * 69621 + (t + 3) * 40692) % 2147483399
/-- the bag at n: t draws from the cells at most, the rest r -/
structure Bag (cells : List Int) (n : Nat) (T : Nat) (st : Store) : Prop where
  at_ : ∃ t r, st[n]? = some (bagO cells t r) ∧ 0 ≤ t ∧ t ≤ T ∧ 0 ≤ r
/-- only the bag has changed -/
def Upd (n : Nat) (st st' : Store) : Prop := ∃ o, st' = st.set n o
theorem Upd.refl' {n : Nat} {st : Store} {o : SO} (h : st[n]? = some o) : Upd n st st := ⟨o, by
  have := (List.getElem?_eq_some_iff.mp h).2
  rw [← this]
  exact (List.set_getElem_self _).symm⟩
theorem Upd.trans {n : Nat} {a b c : Store} (x : Upd n a b) (y : Upd n b c) : Upd n a c := by
  obtain ⟨o, rfl⟩ := x
  obtain ⟨o', rfl⟩ := y
  exact ⟨o', by rw [List.set_set]⟩
theorem Upd.len {n : Nat} {a b : Store} (x : Upd n a b) : b.length = a.length := by
  obtain ⟨o, rfl⟩ := x
  simp
theorem Upd.other {n m : Nat} {a b : Store} (x : Upd n a b) (h : m ≠ n) : b[m]? = a[m]? := by
  obtain ⟨o, rfl⟩ := x
  rw [List.getElem?_set_ne (Ne.symm h)]
structure CellsOk (cells : List Int) : Prop where
  ne : cells ≠ []
  nn : ∀ c ∈ cells, 0 ≤ c ∧ Sm 1048600 c
  ln : cells.length ≤ 100
theorem pow18 {st : Store} : bin2 .pow (.int 10) (.int 18) st = .ok (.int 1000000000000000000) st := by
  rw [bin_pow (show Pv.PowOk 10 18 by decide)]
  rfl
theorem pow30 {st : Store} : bin2 .pow (.int 10) (.int 30) st = .ok (.int 1000000000000000000000000000000) st := by
  rw [bin_pow (show Pv.PowOk 10 30 by decide)]
  rfl
theorem pow6 {st : Store} : bin2 .pow (.int 10) (.int 6) st = .ok (.int 1000000) st := by
  rw [bin_pow (show Pv.PowOk 10 6 by decide)]
  rfl
theorem set_get {st : Store} {n : Nat} {o o' : SO} (h : st[n]? = some o) : (st.set n o')[n]? = some o' := by
  rw [List.getElem?_set_self (List.getElem?_eq_some_iff.mp h).1]
section
variable {W k : Nat} {st : Store} {p : Int}
theorem ix2 : ixN 3 2 = some 2 := by decide +kernel
theorem ix1 : ixN 3 1 = some 1 := by decide +kernel
theorem c_draw {cells : List Int} {n T : Nat} {L : Int} (hc : CellsOk cells) (hb : Bag cells n T st) (hT : T ≤ 1000) (h0 : 0 < L) (hL : Sm 200 L) :
    ∃ d st', (∀ k, (ev (PR W) (k + 20)).call 23 [.ref n, .int L] st = .ok (.int d) st') ∧ 0 ≤ d ∧ d < L ∧ Bag cells n (T + 1) st' ∧ Upd n st st' := by
  obtain ⟨t, r, e, t0, tT, r0⟩ := hb.at_
  have qm := fun a (st : Store) => bmod (a := a) (st := st) h0
  have qd : ∀ a (st : Store), bin2 .fdiv (.int a) (.int L) st = .ok (.int (a / L)) st := fun a st => by
    rw [bin_fdiv (Sm.divok hL (by omega) (by decide)), Int.fdiv_eq_ediv_of_nonneg _ (Int.le_of_lt h0)]
  have dl : ∀ a : Int, 0 ≤ a % L ∧ a % L < L := fun a => ⟨Int.emod_nonneg a (by omega), Int.emod_lt_of_pos a h0⟩
  have sq : seqOf st (.ref n) = some (false, [.lst (cells.map .int), .int t, .int r]) := seqOf_ref e
  have e' : st[n]? = some (.lst [.lst (cells.map .int), .int t, .int r]) := e
  by_cases hr : 0 < r
  · refine ⟨r % L, st.set n (bagO cells t (r / L)), ?_, (dl r).1, (dl r).2, ⟨t, r / L, set_get e, t0, by omega, Int.ediv_nonneg r0 (by omega)⟩, ⟨_, rfl⟩⟩
    intro k
    rw [C_call]
    simp [stepC, df23, D23, b23, sq, hr, qm, qd, e', ix2, asg, bagO, done_len]
  · obtain rfl : r = 0 := by omega
    have e2 : (st.set n (bagO cells (t + 1) 0))[n]? = some (bagO cells (t + 1) 0) := set_get e
    have e2' : (st.set n (.lst [.lst (cells.map .int), .int (t + 1), .int 0]))[n]? = some (.lst [.lst (cells.map .int), .int (t + 1), .int 0]) := e2
    have sq2 : seqOf (st.set n (.lst [.lst (cells.map .int), .int (t + 1), .int 0])) (.ref n) = some (false, [.lst (cells.map .int), .int (t + 1), .int 0]) := seqOf_ref e2
    have ln0 : (0 : Int) < cells.length := by
      have := List.length_pos_iff.mpr hc.ne
      omega
    have ql := fun a (st : Store) => bmod (a := a) (st := st) ln0
    have l1 := Int.emod_nonneg t (show (cells.length : Int) ≠ 0 by omega)
    have l2 := Int.emod_lt_of_pos t ln0
    have hlt : (t % (cells.length : Int)).toNat < cells.length := by omega
    have ai := atI_ints l1 hlt
    have hin := hc.nn _ (getD_in hlt)
    generalize hcell : cells.getD (t % (cells.length : Int)).toNat 0 = c at ai hin
    by_cases big : t < (cells.length : Int) ∧ 1000000000000000000 ≤ c
    · refine ⟨c % L, (st.set n (bagO cells (t + 1) 0)).set n (bagO cells (t + 1) (c / L)), ?_, (dl c).1, (dl c).2, ⟨t + 1, c / L, set_get e2, by omega, by omega, Int.ediv_nonneg hin.1 (by omega)⟩, ⟨_, by rw [List.set_set]⟩⟩
      intro k
      rw [C_call]
      simp [stepC, df23, D23, b23, sq, sq2, qm, qd, ql, e', e2', ix1, ix2, asg, bagO, done_len, ai, big.1, big.2, pow18]
    · have st1 : Sm 10 t := by unfold Sm; omega
      have sc := hin.2
      have m1 := fun st : Store => bin_mul (st := st) ((Sm.add sc (show Sm 1048600 17 from Nat.lt_of_lt_of_le (show 17 < 2 ^ 5 by decide) (Nat.pow_le_pow_right (by decide) (by decide)))).mulok (show Sm 16 48271 by unfold Sm; decide) (by decide))
      have m2 := fun st : Store => bin_mul (st := st) (st1.mulok st1 (by decide))
      have m3 := fun st : Store => bin_mul (st := st) ((st1.mul st1).mulok (show Sm 13 7919 by unfold Sm; decide) (by decide))
      have m4 := fun st : Store => bin_mul (st := st) (st1.mulok (show Sm 17 104729 by unfold Sm; decide) (by decide))
      have q1 := fun a (st : Store) => bmod (a := a) (st := st) (show (0 : Int) < 2147483647 by decide)
      have q2 := fun a (st : Store) => bmod (a := a) (st := st) (show (0 : Int) < 2147483399 by decide)
      have b1 : Sm 31 (mix1 c t) := by
        have h1 := Int.emod_nonneg ((c + 17) * 48271 + t * t * 7919 + t * 104729) (show (2147483647 : Int) ≠ 0 by decide)
        have h2 := Int.emod_lt_of_pos ((c + 17) * 48271 + t * t * 7919 + t * 104729) (show (0 : Int) < 2147483647 by decide)
        unfold Sm mix1
        omega
      have m5 := fun st : Store => bin_mul (st := st) (b1.mulok (show Sm 17 69621 by unfold Sm; decide) (by decide))
      have m6 := fun st : Store => bin_mul (st := st) ((show Sm 11 (t + 3) by unfold Sm; omega).mulok (show Sm 16 40692 by unfold Sm; decide) (by decide))
      have d8 : ∀ a (st : Store), bin2 .fdiv (.int a) (.int 8) st = .ok (.int (a / 8)) st := fun a st => by
        rw [bin_fdiv (show Pv.DivOk a 8 from ⟨by decide, by decide⟩), Int.fdiv_eq_ediv_of_nonneg _ (by decide)]
      refine ⟨(mix c t / 8) % L, st.set n (bagO cells (t + 1) 0), ?_, (dl _).1, (dl _).2, ⟨t + 1, 0, e2, by omega, by omega, Int.le_refl 0⟩, ⟨_, rfl⟩⟩
      have nb : (t < (cells.length : Int)) → ¬ (1000000000000000000 ≤ c) := fun h1 h2 => big ⟨h1, h2⟩
      unfold mix1 at m5
      intro k
      rw [C_call]
      by_cases hl : t < (cells.length : Int)
      · simp [stepC, df23, D23, b23, sq, sq2, qm, qd, ql, e', e2', ix1, ix2, asg, bagO, done_len, ai, hl, nb hl, pow18, m1, m2, m3, m4, m5, m6, q1, q2, d8, mix, mix1]
      · simp [stepC, df23, D23, b23, sq, sq2, qm, qd, ql, e', e2', ix1, ix2, asg, bagO, done_len, ai, hl, pow18, m1, m2, m3, m4, m5, m6, q1, q2, d8, mix, mix1]
end
end Lk

set_option Elab.async false
set_option linter.all false
set_option maxRecDepth 100000
set_option maxHeartbeats 1000000
namespace Lk
open PySem PySem.Spec PyProof.Rows L2 Pv
section
variable {W k : Nat} {st : Store} {p : Int}
theorem df31 : (PR W).df[31]? = some D31 := rfl
@[simp] theorem pad31 (x : PV) : pad D31 [x] = [x] := rfl
theorem c_wide {cells : List Int} {n T : Nat} (hc : CellsOk cells) (hb : Bag cells n T st) (hT : T ≤ 900) :
    ∃ x st', (∀ k, (ev (PR W) (k + 40)).call 31 [.ref n] st = .ok (.int x) st') ∧ Sm 100 x ∧ Bag cells n (T + 3) st' ∧ Upd n st st' := by
  obtain ⟨d1, s1, e1, a1, a2, b1, u1⟩ := c_draw (W := W) (L := 4) hc hb (by omega) (by decide) (show Sm 200 4 from (show Sm 3 4 by unfold Sm; decide).mono (by decide))
  -- the number
  have mid : ∃ x s2, (∀ k, (ev (PR W) (k + 38)).S (.ite (.cmp .eq (.v 1) (.c (.int 0))) [.set (.n 2) (.call 23 [(.v 0), (.bin .pow (.c (.int 10)) (.c (.int 30)))])] [.ite (.cmp .eq (.v 1) (.c (.int 1))) [.set (.n 2) (.call 23 [(.v 0), (.bin .pow (.c (.int 10)) (.c (.int 6)))])] [.set (.n 2) (.call 23 [(.v 0), (.c (.int 12))])]]) [some (.ref n), some (.int d1), none] s1 = .ok (.nx, [some (.ref n), some (.int d1), some (.int x)]) s2) ∧ Sm 100 x ∧ Bag cells n (T + 2) s2 ∧ Upd n s1 s2 := by
    by_cases h0 : d1 = 0
    · obtain ⟨d2, s2, e2, c1, c2, b2, u2⟩ := c_draw (W := W) (L := 1000000000000000000000000000000) hc b1 (by omega) (by decide) (show Sm 200 _ from (show Sm 100 1000000000000000000000000000000 by unfold Sm; decide).mono (by decide))
      exact ⟨d2, s2, fun k => by simp [h0, pow30, df23, e2, asg], by unfold Sm; omega, b2, u2⟩
    · by_cases h1 : d1 = 1
      · obtain ⟨d2, s2, e2, c1, c2, b2, u2⟩ := c_draw (W := W) (L := 1000000) hc b1 (by omega) (by decide) (show Sm 200 _ from (show Sm 20 1000000 by unfold Sm; decide).mono (by decide))
        exact ⟨d2, s2, fun k => by simp [h0, h1, pow6, df23, e2, asg], by unfold Sm; omega, b2, u2⟩
      · obtain ⟨d2, s2, e2, c1, c2, b2, u2⟩ := c_draw (W := W) (L := 12) hc b1 (by omega) (by decide) (show Sm 200 _ from (show Sm 4 12 by unfold Sm; decide).mono (by decide))
        exact ⟨d2, s2, fun k => by simp [h0, h1, df23, e2, asg], by unfold Sm; omega, b2, u2⟩
  obtain ⟨x, s2, e2, sx, b2, u2⟩ := mid
  obtain ⟨d3, s3, e3, c1, c2, b3, u3⟩ := c_draw (W := W) (L := 2) hc b2 (by omega) (by decide) (show Sm 200 2 from (show Sm 3 2 by unfold Sm; decide).mono (by decide))
  have ul : s3.length = st.length := by rw [u3.len, u2.len, u1.len]
  refine ⟨if d3 = 1 then 0 - x else x, s3, ?_, ?_, b3, (u1.trans u2).trans u3⟩
  · intro k
    rw [C_call]
    simp [-S_ite, stepC, df31, df23, D31, b31, e1, asg, e2]
    by_cases h3 : d3 = 1
    · subst h3
      simp [df23, e3, asg, done_len ul]
    · simp [df23, e3, asg, done_len ul, h3]
  · split
    · rw [Int.zero_sub]; exact sx.neg
    · exact sx
end
end Lk

set_option Elab.async false
set_option linter.all false
set_option maxRecDepth 100000
set_option maxHeartbeats 1000000
namespace Lk
open PySem PySem.Spec PyProof.Rows L2 Pv
/-! ### a field, whatever it is -/
def Fd (p : Int) : Prop := p = 0 ∨ p ∈ primes
def FV (p : Int) : PV := if p = 0 then fld .non (.tup []) else fld (.int p) (.tup ((invL p (p - 2).toNat).map .int))
/-- a number of it; one that may be longer -/
def Nm (p : Int) (x : Int × Int) : Prop := if p = 0 then Low x ∧ Sm 100 x.1 ∧ Sm 100 x.2 else (0 ≤ x.1 ∧ x.1 < p) ∧ x.2 = 1
def NmW (p : Int) (x : Int × Int) : Prop := if p = 0 then Low x ∧ Sm 8000 x.1 ∧ Sm 8000 x.2 else (0 ≤ x.1 ∧ x.1 < p) ∧ x.2 = 1
theorem Nm.w {p : Int} {x : Int × Int} (h : Nm p x) : NmW p x := by
  unfold Nm at h
  unfold NmW
  split
  · rename_i e
    rw [if_pos e] at h
    exact ⟨h.1, h.2.1.mono (by decide), h.2.2.mono (by decide)⟩
  · rename_i e
    rwa [if_neg e] at h
def oMake (p a b : Int) : Int × Int := if p = 0 then rdc a b else ((a * fnd p b p.toNat) % p, 1)
def oPlus (p : Int) (x y : Int × Int) : Int × Int := if p = 0 then rdc (x.1 * y.2 + y.1 * x.2) (x.2 * y.2) else ((x.1 + y.1) % p, 1)
def oMinus (p : Int) (x y : Int × Int) : Int × Int := if p = 0 then rdc (x.1 * y.2 - y.1 * x.2) (x.2 * y.2) else ((x.1 - y.1) % p, 1)
def oTimes (p : Int) (x y : Int × Int) : Int × Int := if p = 0 then rdc (x.1 * y.1) (x.2 * y.2) else ((x.1 * y.1) % p, 1)
def oOver (p : Int) (x y : Int × Int) : Int × Int := if p = 0 then rdc (x.1 * y.2) (x.2 * y.1) else ((x.1 * fnd p y.1 p.toNat) % p, 1)
def oNeg (p : Int) (x : Int × Int) : Int × Int := if p = 0 then (-x.1, x.2) else ((-x.1) % p, 1)
/-- a bottom that may stand -/
def Bt (p b : Int) : Prop := if p = 0 then b ≠ 0 else b % p ≠ 0
section
variable {W k : Nat} {st : Store} {p : Int}
theorem Fd.pos (F : Fd p) (h : p ≠ 0) : Pr p := pr_of (F.resolve_left h)
theorem Bt1 (F : Fd p) : Bt p 1 := by
  unfold Bt
  split
  · decide
  · rename_i h
    have := (F.pos h).lo
    rw [Int.emod_eq_of_lt (by decide) (by omega)]
    decide
theorem rest_sm {x p : Int} (P : Pr p) (h : 0 ≤ x ∧ x < p) : Sm 7 x := by
  have := P.hi
  unfold Sm
  omega
theorem em {x p : Int} (P : Pr p) : 0 ≤ x % p ∧ x % p < p := ⟨Int.emod_nonneg x (by have := P.lo; omega), Int.emod_lt_of_pos x (by have := P.lo; omega)⟩
theorem A_isnum (F : Fd p) (hW : 2 ^ 8000 ≤ W) {x : Int × Int} (h : NmW p x) : (ev (PR W) (k + 60)).call 30 [.int p, num x] st = .ok (.bl true) st := by
  unfold NmW at h
  split at h
  · rename_i e
    subst e
    exact c_isnum0 (k := k + 30) h.1 h.2.2 hW
  · rename_i e
    have P := F.pos e
    have := c_isnumP (W := W) (k := k + 30) (st := st) (p := p) (a := x.1) (b := x.2) (by have := P.lo; omega)
    refine this.trans ?_
    rw [decide_eq_true h.1.1, decide_eq_true h.1.2, decide_eq_true h.2]
    rfl
theorem A_holds (F : Fd p) {x : Int × Int} (h : NmW p x) : (ev (PR W) (k + 60)).call 15 [FV p, num x] st = .ok (.bl true) st := by
  unfold NmW at h
  unfold FV
  split at h
  · rename_i e
    rw [if_pos e]
    exact f_holds (k := k + 30) h.1
  · rename_i e
    rw [if_neg e]
    obtain ⟨a, b⟩ := x
    obtain ⟨⟨h1, h2⟩, h3⟩ := h
    dsimp only at h1 h2 h3
    subst h3
    exact g_holds (k := k + 30) h1 h2
theorem A_lmake (F : Fd p) (hW : 2 ^ 8000 ≤ W) {a b : Int} (ha : Sm 1000 a) (hb : Sm 1000 b) (h : Bt p b) : (ev (PR W) (k + 60)).call 25 [.int p, .int a, .int b] st = .ok (num (oMake p a b)) st := by
  unfold Bt at h
  unfold oMake
  split
  · rename_i e
    rw [if_pos e] at h
    subst e
    exact c_lmake0 (k := k + 40) h (hb.mono (by decide)) hW
  · rename_i e
    have P := F.pos e
    exact c_lmakeP (k := k + 30) (by have := P.lo; omega) P.hi ha hb
theorem A_number (F : Fd p) {a b : Int} (ha : Sm 1000 a) (hb : Sm 1000 b) (h : Bt p b) : (ev (PR W) (k + 60)).call 14 [FV p, .int a, .int b] st = .ok (num (oMake p a b)) st := by
  unfold Bt at h
  unfold oMake FV
  split
  · rename_i e
    rw [if_pos e] at h
    exact f_number (k := k + 30) h (hb.mono (by decide))
  · rename_i e
    rw [if_neg e] at h
    have P := F.pos e
    have l := em (x := b) P
    have := g_number (W := W) (k := k + 10) (st := st) (p := p) (a := a) (b := b) (by have := P.lo; omega) P.hi h ((iv_sm P l.1 l.2).mono (by decide)) (iv_at P l.1 l.2)
    refine this.trans ?_
    rw [fnd_iv P h, Int.mul_emod a, Int.mul_emod (a % p), Int.emod_emod_of_dvd _ (Int.dvd_refl p)]
theorem A_plus (F : Fd p) {x y : Int × Int} (hx : Nm p x) (hy : Nm p y) : (ev (PR W) (k + 60)).call 16 [FV p, num x, num y] st = .ok (num (oPlus p x y)) st := by
  obtain ⟨a, b⟩ := x
  obtain ⟨c, d⟩ := y
  unfold Nm at hx hy
  unfold oPlus FV
  split
  · rename_i e
    rw [if_pos e] at hx hy
    exact f_plus (k := k + 30) (hx.2.1.mono (by decide)) (hx.2.2.mono (by decide)) (hy.2.1.mono (by decide)) (hy.2.2.mono (by decide)) (by have := hx.1.1; dsimp only at this; omega) (by have := hy.1.1; dsimp only at this; omega)
  · rename_i e
    have P := F.pos e
    exact g_plus (k := k + 30) (by have := P.lo; omega)
theorem A_minus (F : Fd p) {x y : Int × Int} (hx : Nm p x) (hy : Nm p y) : (ev (PR W) (k + 60)).call 17 [FV p, num x, num y] st = .ok (num (oMinus p x y)) st := by
  obtain ⟨a, b⟩ := x
  obtain ⟨c, d⟩ := y
  unfold Nm at hx hy
  unfold oMinus FV
  split
  · rename_i e
    rw [if_pos e] at hx hy
    exact f_minus (k := k + 30) (hx.2.1.mono (by decide)) (hx.2.2.mono (by decide)) (hy.2.1.mono (by decide)) (hy.2.2.mono (by decide)) (by have := hx.1.1; dsimp only at this; omega) (by have := hy.1.1; dsimp only at this; omega)
  · rename_i e
    have P := F.pos e
    exact g_minus (k := k + 30) (by have := P.lo; omega)
theorem A_times (F : Fd p) {x y : Int × Int} (hx : Nm p x) (hy : Nm p y) : (ev (PR W) (k + 60)).call 18 [FV p, num x, num y] st = .ok (num (oTimes p x y)) st := by
  obtain ⟨a, b⟩ := x
  obtain ⟨c, d⟩ := y
  unfold Nm at hx hy
  unfold oTimes FV
  split
  · rename_i e
    rw [if_pos e] at hx hy
    exact f_times (k := k + 30) (hx.2.1.mono (by decide)) (hx.2.2.mono (by decide)) (hy.2.1.mono (by decide)) (hy.2.2.mono (by decide)) (by have := hx.1.1; dsimp only at this; omega) (by have := hy.1.1; dsimp only at this; omega)
  · rename_i e
    rw [if_neg e] at hx hy
    have P := F.pos e
    exact g_times (k := k + 30) (by have := P.lo; omega) ((rest_sm P hx.1).mono (by decide)) ((rest_sm P hy.1).mono (by decide))
theorem A_over (F : Fd p) {x y : Int × Int} (hx : Nm p x) (hy : Nm p y) (h0 : y.1 ≠ 0) : (ev (PR W) (k + 60)).call 19 [FV p, num x, num y] st = .ok (num (oOver p x y)) st := by
  obtain ⟨a, b⟩ := x
  obtain ⟨c, d⟩ := y
  unfold Nm at hx hy
  unfold oOver FV
  split
  · rename_i e
    rw [if_pos e] at hx hy
    exact f_over (k := k + 30) (hx.2.1.mono (by decide)) (hx.2.2.mono (by decide)) (hy.2.1.mono (by decide)) (hy.2.2.mono (by decide)) (by have := hx.1.1; dsimp only at this; omega) h0
  · rename_i e
    rw [if_neg e] at hx hy
    have P := F.pos e
    have hc : c % p = c := Int.emod_eq_of_lt hy.1.1 hy.1.2
    have := g_over (W := W) (k := k + 30) (st := st) (p := p) (a := a) (b := b) (c := c) (d := d) (by have := P.lo; omega) ((rest_sm P hx.1).mono (by decide)) ((iv_sm P hy.1.1 hy.1.2).mono (by decide)) (iv_at P hy.1.1 hy.1.2)
    refine this.trans ?_
    dsimp only
    rw [fnd_iv P (by rw [hc]; exact h0), hc]
theorem A_neg (F : Fd p) {x : Int × Int} : (ev (PR W) (k + 60)).call 20 [FV p, num x] st = .ok (num (oNeg p x)) st := by
  unfold oNeg FV
  split
  · exact f_negative (k := k + 30)
  · rename_i e
    have P := F.pos e
    exact g_negative (k := k + 30) (by have := P.lo; omega)
theorem A_lplus (F : Fd p) (hW : 2 ^ 8000 ≤ W) {x y : Int × Int} (hx : Nm p x) (hy : Nm p y) : (ev (PR W) (k + 60)).call 26 [.int p, num x, num y] st = .ok (num (oPlus p x y)) st := by
  obtain ⟨a, b⟩ := x
  obtain ⟨c, d⟩ := y
  unfold Nm at hx hy
  unfold oPlus
  split
  · rename_i e
    rw [if_pos e] at hx hy
    subst e
    exact c_lplus0 (k := k + 30) (hx.2.1.mono (by decide)) (hx.2.2.mono (by decide)) (hy.2.1.mono (by decide)) (hy.2.2.mono (by decide)) (by have := hx.1.1; dsimp only at this; omega) (by have := hy.1.1; dsimp only at this; omega) hW
  · rename_i e
    have P := F.pos e
    exact c_lplusP (k := k + 30) (by have := P.lo; omega)
theorem A_ltimes (F : Fd p) (hW : 2 ^ 8000 ≤ W) {x y : Int × Int} (hx : Nm p x) (hy : Nm p y) : (ev (PR W) (k + 60)).call 27 [.int p, num x, num y] st = .ok (num (oTimes p x y)) st := by
  obtain ⟨a, b⟩ := x
  obtain ⟨c, d⟩ := y
  unfold Nm at hx hy
  unfold oTimes
  split
  · rename_i e
    rw [if_pos e] at hx hy
    subst e
    exact c_ltimes0 (k := k + 30) (hx.2.1.mono (by decide)) (hx.2.2.mono (by decide)) (hy.2.1.mono (by decide)) (hy.2.2.mono (by decide)) (by have := hx.1.1; dsimp only at this; omega) (by have := hy.1.1; dsimp only at this; omega) hW
  · rename_i e
    rw [if_neg e] at hx hy
    have P := F.pos e
    exact c_ltimesP (k := k + 30) (by have := P.lo; omega) ((rest_sm P hx.1).mono (by decide)) ((rest_sm P hy.1).mono (by decide))
theorem A_lover (F : Fd p) (hW : 2 ^ 8000 ≤ W) {x y : Int × Int} (hx : Nm p x) (hy : Nm p y) (h0 : y.1 ≠ 0) : (ev (PR W) (k + 60)).call 29 [.int p, num x, num y] st = .ok (num (oOver p x y)) st := by
  obtain ⟨a, b⟩ := x
  obtain ⟨c, d⟩ := y
  unfold Nm at hx hy
  unfold oOver
  split
  · rename_i e
    rw [if_pos e] at hx hy
    subst e
    exact c_lover0 (k := k + 30) (hx.2.1.mono (by decide)) (hx.2.2.mono (by decide)) (hy.2.1.mono (by decide)) (hy.2.2.mono (by decide)) (by have := hx.1.1; dsimp only at this; omega) h0 hW
  · rename_i e
    rw [if_neg e] at hx hy
    have P := F.pos e
    exact c_loverP (k := k + 10) (by have := P.lo; omega) P.hi ((rest_sm P hx.1).mono (by decide)) ((rest_sm P hy.1).mono (by decide))
theorem fnd_one {p : Int} (P : Pr p) : fnd p 1 p.toNat = 1 := by
  have := P.lo
  refine fnd_of (by decide) ?_ p.toNat (by omega) (by omega)
  rw [Int.one_mul]
  exact Int.emod_eq_of_lt (by decide) (by omega)
theorem minus_rest {p a c : Int} : (a + (-1 % p * c) % p) % p = (a - c) % p := by
  have e : (-1 % p * c) % p = (-c) % p := by
    rw [Int.mul_emod, Int.emod_emod_of_dvd _ (Int.dvd_refl p), ← Int.mul_emod]
    congr 1
    omega
  rw [e, Int.add_emod, Int.emod_emod_of_dvd _ (Int.dvd_refl p), ← Int.add_emod, Int.sub_eq_add_neg]
theorem A_lminus (F : Fd p) (hW : 2 ^ 8000 ≤ W) {x y : Int × Int} (hx : Nm p x) (hy : Nm p y) : (ev (PR W) (k + 60)).call 28 [.int p, num x, num y] st = .ok (num (oMinus p x y)) st := by
  obtain ⟨a, b⟩ := x
  obtain ⟨c, d⟩ := y
  unfold Nm at hx hy
  unfold oMinus
  split
  · rename_i e
    rw [if_pos e] at hx hy
    subst e
    exact c_lminus0 (k := k + 20) (hx.2.1.mono (by decide)) (hx.2.2.mono (by decide)) (hy.2.1.mono (by decide)) (hy.2.2.mono (by decide)) (by have := hx.1.1; dsimp only at this; omega) hy.1 hW
  · rename_i e
    rw [if_neg e] at hx hy
    have P := F.pos e
    have hp : 0 < p := by have := P.lo; omega
    have q1 := fun k => c_lmakeP (W := W) (k := k) (st := st) hp P.hi (smm1.mono (show 1 ≤ 1000 by decide)) (sm1.mono (show 1 ≤ 1000 by decide))
    rw [fnd_one P, Int.mul_one] at q1
    have q2 := fun k => c_ltimesP (W := W) (k := k) (st := st) (a := -1 % p) (b := 1) (c := c) (d := d) hp ((emod_sm hp P.hi).mono (by decide)) ((rest_sm P hy.1).mono (by decide))
    have q3 := fun k => c_lplusP (W := W) (k := k) (st := st) (a := a) (b := b) (c := (-1 % p * c) % p) (d := 1) hp
    rw [minus_rest] at q3
    rw [C_call]
    simp [stepC, df28, df26, df27, df25, D28, b28, q1, q2, q3]
end
end Lk

set_option Elab.async false
set_option linter.all false
set_option maxRecDepth 100000
set_option maxHeartbeats 1000000
namespace Lk
open PySem PySem.Spec PyProof.Rows L2 Pv
/-! ### sizes of what comes out -/
theorem low_nz {x : Int × Int} (h : Low x) : x.2 ≠ 0 := by have := h.1; omega
theorem Nm.ne {x : Int × Int} (h : Nm 0 x) : Low x ∧ Sm 100 x.1 ∧ Sm 100 x.2 := by
  unfold Nm at h
  rwa [if_pos rfl] at h
theorem w_make {p a b : Int} (F : Fd p) (ha : Sm 1000 a) (hb : Sm 1000 b) (h : Bt p b) : NmW p (oMake p a b) := by
  unfold Bt at h
  unfold NmW oMake
  by_cases e : p = 0
  · rw [if_pos e] at h
    rw [if_pos e, if_pos e]
    have := rdc_sm (e := 1000) h ha hb
    exact ⟨rdc_low h, this.1.mono (by decide), this.2.mono (by decide)⟩
  · rw [if_neg e, if_neg e]
    exact ⟨em (F.pos e), rfl⟩
theorem n_make {p a b : Int} (F : Fd p) (ha : Sm 100 a) (hb : Sm 100 b) (h : Bt p b) : Nm p (oMake p a b) := by
  unfold Bt at h
  unfold Nm oMake
  by_cases e : p = 0
  · rw [if_pos e] at h
    rw [if_pos e, if_pos e]
    have := rdc_sm (e := 100) h ha hb
    exact ⟨rdc_low h, this.1, this.2⟩
  · rw [if_neg e, if_neg e]
    exact ⟨em (F.pos e), rfl⟩
theorem w_of {p a b : Int} {x : Int × Int} (F : Fd p) (h : p = 0 → x = rdc a b ∧ b ≠ 0 ∧ Sm 8000 a ∧ Sm 8000 b) (h2 : p ≠ 0 → ∃ z, x = (z % p, 1)) : NmW p x := by
  unfold NmW
  by_cases e : p = 0
  · obtain ⟨rfl, h3, h4, h5⟩ := h e
    rw [if_pos e]
    exact ⟨rdc_low h3, (rdc_sm h3 h4 h5).1, (rdc_sm h3 h4 h5).2⟩
  · obtain ⟨z, rfl⟩ := h2 e
    rw [if_neg e]
    exact ⟨em (F.pos e), rfl⟩
theorem w_plus {p : Int} (F : Fd p) {x y : Int × Int} (hx : Nm p x) (hy : Nm p y) : NmW p (oPlus p x y) := by
  refine w_of (a := x.1 * y.2 + y.1 * x.2) (b := x.2 * y.2) F (fun e => ?_) fun e => ⟨x.1 + y.1, by unfold oPlus; rw [if_neg e]⟩
  subst e
  have hx := hx.ne
  have hy := hy.ne
  exact ⟨by unfold oPlus; rw [if_pos rfl], Int.mul_ne_zero (low_nz hx.1) (low_nz hy.1), ((hx.2.1.mul hy.2.2).add (hy.2.1.mul hx.2.2)).mono (by decide), (hx.2.2.mul hy.2.2).mono (by decide)⟩
theorem w_minus {p : Int} (F : Fd p) {x y : Int × Int} (hx : Nm p x) (hy : Nm p y) : NmW p (oMinus p x y) := by
  refine w_of (a := x.1 * y.2 - y.1 * x.2) (b := x.2 * y.2) F (fun e => ?_) fun e => ⟨x.1 - y.1, by unfold oMinus; rw [if_neg e]⟩
  subst e
  have hx := hx.ne
  have hy := hy.ne
  exact ⟨by unfold oMinus; rw [if_pos rfl], Int.mul_ne_zero (low_nz hx.1) (low_nz hy.1), ((hx.2.1.mul hy.2.2).sub (hy.2.1.mul hx.2.2)).mono (by decide), (hx.2.2.mul hy.2.2).mono (by decide)⟩
theorem w_times {p : Int} (F : Fd p) {x y : Int × Int} (hx : Nm p x) (hy : Nm p y) : NmW p (oTimes p x y) := by
  refine w_of (a := x.1 * y.1) (b := x.2 * y.2) F (fun e => ?_) fun e => ⟨x.1 * y.1, by unfold oTimes; rw [if_neg e]⟩
  subst e
  have hx := hx.ne
  have hy := hy.ne
  exact ⟨by unfold oTimes; rw [if_pos rfl], Int.mul_ne_zero (low_nz hx.1) (low_nz hy.1), (hx.2.1.mul hy.2.1).mono (by decide), (hx.2.2.mul hy.2.2).mono (by decide)⟩
theorem w_over {p : Int} (F : Fd p) {x y : Int × Int} (hx : Nm p x) (hy : Nm p y) (h0 : y.1 ≠ 0) : NmW p (oOver p x y) := by
  refine w_of (a := x.1 * y.2) (b := x.2 * y.1) F (fun e => ?_) fun e => ⟨x.1 * fnd p y.1 p.toNat, by unfold oOver; rw [if_neg e]⟩
  subst e
  have hx := hx.ne
  have hy := hy.ne
  exact ⟨by unfold oOver; rw [if_pos rfl], Int.mul_ne_zero (low_nz hx.1) h0, (hx.2.1.mul hy.2.2).mono (by decide), (hx.2.2.mul hy.2.1).mono (by decide)⟩
theorem low_neg {a b : Int} (h : Low (a, b)) : Low (-a, b) := ⟨h.1, by have := h.2; dsimp only at this ⊢; rw [gc_neg_l]; exact this⟩
theorem low_ab {a b : Int} (h : Low (a, b)) : Low (ab a, b) := ⟨h.1, by have := h.2; dsimp only at this ⊢; rw [gc_abs]; exact this⟩
theorem w_neg {p : Int} (F : Fd p) {x : Int × Int} (hx : Nm p x) : NmW p (oNeg p x) := by
  unfold NmW oNeg
  by_cases e : p = 0
  · subst e
    rw [if_pos rfl, if_pos rfl]
    have hx := hx.ne
    exact ⟨low_neg hx.1, hx.2.1.neg.mono (by decide), hx.2.2.mono (by decide)⟩
  · rw [if_neg e, if_neg e]
    exact ⟨em (F.pos e), rfl⟩
theorem n_zero {p : Int} (F : Fd p) : Nm p (0, 1) := by
  unfold Nm
  by_cases e : p = 0
  · rw [if_pos e]
    exact ⟨⟨by decide, by decide +kernel⟩, by unfold Sm; decide, by unfold Sm; decide⟩
  · rw [if_neg e]
    have := (F.pos e).lo
    exact ⟨⟨by decide, by dsimp only; omega⟩, rfl⟩
theorem neg_minus {p : Int} (F : Fd p) {x : Int × Int} (hx : Nm p x) : oMinus p (0, 1) x = oNeg p x := by
  unfold oMinus oNeg
  by_cases e : p = 0
  · subst e
    rw [if_pos rfl, if_pos rfl]
    have hx := hx.ne
    dsimp only
    rw [show 0 * x.2 - x.1 * 1 = -x.1 by omega, Int.one_mul, rdc_neg, rdc_self (show Low (x.1, x.2) from hx.1)]
  · rw [if_neg e, if_neg e]
    dsimp only
    rw [Int.zero_sub]
/-! ### order -/
theorem cmp_lord (x y : Int × Int) : cmpr x y = lord x y := by
  unfold cmpr lord
  split
  · rfl
  · split <;> split <;> first | rfl | omega
def Le (x y : Int × Int) : Prop := x.1 * y.2 ≤ y.1 * x.2
theorem Le.trans {x y z : Int × Int} (hx : Low x) (hy : Low y) (hz : Low z) (a : Le x y) (b : Le y z) : Le x z := by
  unfold Le at *
  have px : 0 < x.2 := by have := hx.1; omega
  have py : 0 < y.2 := by have := hy.1; omega
  have pz : 0 < z.2 := by have := hz.1; omega
  have e1 : x.1 * y.2 * z.2 ≤ y.1 * x.2 * z.2 := Int.mul_le_mul_of_nonneg_right a (Int.le_of_lt pz)
  have e2 : y.1 * z.2 * x.2 ≤ z.1 * y.2 * x.2 := Int.mul_le_mul_of_nonneg_right b (Int.le_of_lt px)
  have e3 : x.1 * z.2 * y.2 ≤ z.1 * x.2 * y.2 := by
    have c1 : x.1 * z.2 * y.2 = x.1 * y.2 * z.2 := by rw [Int.mul_assoc, Int.mul_comm z.2, ← Int.mul_assoc]
    have c2 : y.1 * x.2 * z.2 = y.1 * z.2 * x.2 := by rw [Int.mul_assoc, Int.mul_comm x.2, ← Int.mul_assoc]
    have c3 : z.1 * x.2 * y.2 = z.1 * y.2 * x.2 := by rw [Int.mul_assoc, Int.mul_comm x.2, ← Int.mul_assoc]
    rw [c1, c3]
    rw [c2] at e1
    exact Int.le_trans e1 e2
  exact Int.le_of_mul_le_mul_right e3 py
theorem Le.refl' (x : Int × Int) : Le x x := Int.le_refl _
theorem cmpr_lt {x y : Int × Int} : cmpr x y < 0 ↔ ¬ Le y x := by
  unfold cmpr Le
  split
  · omega
  · split <;> omega
theorem cmpr_gt {x y : Int × Int} : 0 < cmpr x y ↔ ¬ Le x y := by
  unfold cmpr Le
  split
  · omega
  · split <;> omega
theorem Le.tot {x y : Int × Int} (h : ¬ Le x y) : Le y x := by
  unfold Le at *
  omega
/-! ### nums as data -/
def numD (x : Int × Int) : PyData := .tuple [.int x.1, .int x.2]
theorem dat_num (f : Nat → Option PyData) (x : Int × Int) : dat f (num x) = some (numD x) := rfl
theorem dats_nums (f : Nat → Option PyData) : ∀ T : List (Int × Int), dats f (T.map num) = some (T.map numD)
  | [] => rfl
  | x :: T => by
    rw [List.map_cons]
    unfold dats
    rw [dats_nums f T, dat_num]
    rfl
theorem datOf_ref {st : Store} {a : Nat} {T : List (Int × Int)} (h : st[a]? = some (.lst (T.map num))) : datOf st (.ref a) = some (.list (T.map numD)) := by
  show refD st 3 a = _
  unfold refD
  rw [h]
  dsimp only
  rw [dats_nums]
theorem shaped_num (x : Int × Int) : SeqAt.shaped (numD x) = true := rfl
theorem canLay_nums : ∀ T : List (Int × Int), PyData.canLayAll0 (T.map numD) = true
  | [] => rfl
  | x :: T => by
    rw [List.map_cons, PyData.canLayAll0, canLay_nums T]
    rfl
theorem depth_nums : ∀ T : List (Int × Int), PyData.depthAll (T.map numD) ≤ 10
  | [] => by decide
  | x :: T => by
    rw [List.map_cons, PyData.depthAll]
    have := depth_nums T
    have e : PyData.depth (numD x) ≤ 10 := by
      unfold numD
      simp [PyData.depth, PyData.depthAll]
    omega
theorem shaped_nums (T : List (Int × Int)) : SeqAt.shaped (.list (T.map numD)) = true := by
  unfold SeqAt.shaped
  rw [PyData.canLay0, canLay_nums, PyData.depth]
  have := depth_nums T
  simp
  omega
theorem ne_nums {st : Store} {a b : Nat} {T : List (Int × Int)} (h1 : st[a]? = some (.lst (T.map num))) (h2 : st[b]? = some (.lst (T.map num))) : cmpR .ne (.ref a) (.ref b) st = some false := cmp_ne_same (datOf_ref h1) (datOf_ref h2) (shaped_nums T)
theorem ne_num {st : Store} (x : Int × Int) : cmpR .ne (num x) (num x) st = some false := cmp_ne_same (d := numD x) rfl rfl (shaped_num x)
theorem notMem_nums {st : Store} {a : Nat} {T : List (Int × Int)} {x : Int × Int} (h : st[a]? = some (.lst (T.map num))) (hx : x ∈ T) : cmpR .notMem (num x) (.ref a) st = some false := by
  show (mem2 st (num x) (.ref a)).map (!·) = some false
  have : mem2 st (num x) (.ref a) = some true := by
    show memL st (num x) (.ref a) = some true
    unfold memL
    rw [datOf_ref h, show datOf st (num x) = some (numD x) from rfl]
    dsimp only
    rw [if_pos ⟨shaped_num x, shaped_nums T⟩]
    exact congrArg some (List.any_eq_true.mpr ⟨numD x, List.mem_map_of_mem hx, SeqAt.eqv_refl _ rfl⟩)
  rw [this]
  rfl
end Lk

set_option Elab.async false
set_option linter.all false
set_option maxRecDepth 100000
set_option maxHeartbeats 1000000
namespace Lk
open PySem PySem.Spec PyProof.Rows L2 Pv
section
variable {W k : Nat} {st : Store}
theorem df11 : (PR W).df[11]? = some D11 := rfl
theorem df12 : (PR W).df[12]? = some D12 := rfl
theorem df33 : (PR W).df[33]? = some D33 := rfl
@[simp] theorem pad11 (x : PV) : pad D11 [x] = [x] := rfl
@[simp] theorem pad12 (x : PV) : pad D12 [x] = [x] := rfl
@[simp] theorem pad33 (x : PV) : pad D33 [x] = [x] := rfl
theorem get_map {T : List (Int × Int)} {i : Nat} {x : PV} (h : (T.map num)[i]? = some x) : ∃ y, T[i]? = some y ∧ x = num y ∧ y ∈ T := by
  rw [List.getElem?_map] at h
  cases e : T[i]? with
  | none => rw [e] at h; cases h
  | some y =>
    rw [e] at h
    cases h
    exact ⟨y, rfl, rfl, List.mem_of_getElem? e⟩
theorem Nm.cmp {x y : Int × Int} (hx : Nm 0 x) (hy : Nm 0 y) : (ev (PR W) (k + 20)).call 10 [num x, num y] st = .ok (.int (cmpr x y)) st := by
  have hx := hx.ne
  have hy := hy.ne
  exact c_cmp (a := x.1) (b := x.2) (c := y.1) (d := y.2) (hx.2.1.mono (by decide)) (hx.2.2.mono (by decide)) (hy.2.1.mono (by decide)) (hy.2.2.mono (by decide))
theorem Nm.lord {x y : Int × Int} (hx : Nm 0 x) (hy : Nm 0 y) : (ev (PR W) (k + 20)).call 32 [num x, num y] st = .ok (.int (cmpr x y)) st := by
  have hx := hx.ne
  have hy := hy.ne
  rw [cmp_lord]
  exact c_lord (a := x.1) (b := x.2) (c := y.1) (d := y.2) (hx.2.1.mono (by decide)) (hx.2.2.mono (by decide)) (hy.2.1.mono (by decide)) (hy.2.2.mono (by decide))
theorem c_least {T : List (Int × Int)} (hT : ∀ x ∈ T, Nm 0 x) (ne : T ≠ []) : ∃ m, (∀ k, (ev (PR W) (k + 40)).call 11 [.lst (T.map num)] st = .ok (num m) st) ∧ m ∈ T ∧ ∀ x ∈ T, Le m x := by
  obtain ⟨x0, T', rfl⟩ := List.exists_cons_of_ne_nil ne
  -- by the pure fold
  have key : ∀ (r : Nat), ∃ env' st', forL (ev (PR W) (r + 38)) (.n 2) [.ite (.cmp .lt (.call 10 [(.v 2), (.v 1)]) (.c (.int 0))) [.set (.n 1) (.v 2)] []] (fun _ => True) ((x0 :: T').map num) [some (.lst ((x0 :: T').map num)), some (num x0), none] st = .ok (.nx, env') st' ∧
      (st' = st ∧ ∃ z, env' = [some (.lst ((x0 :: T').map num)), some (num (((x0 :: T').take ((x0 :: T').map num).length).foldl (fun m x => if cmpr x m < 0 then x else m) x0)), z]) := fun r =>
    for_inv (fun i env s => s = st ∧ ∃ z, env = [some (.lst ((x0 :: T').map num)), some (num (((x0 :: T').take i).foldl (fun m x => if cmpr x m < 0 then x else m) x0)), z]) ⟨rfl, none, rfl⟩ (fun _ _ _ _ _ => trivial) (fun i x env s hx ⟨hs, z, he⟩ => by
      subst hs he
      obtain ⟨y, hy, rfl, hm⟩ := get_map hx
      have hmem : ∀ (l : List (Int × Int)) (a : Int × Int), Nm 0 a → (∀ x ∈ l, Nm 0 x) → Nm 0 (l.foldl (fun m x => if cmpr x m < 0 then x else m) a) := fun l => by
        induction l with
        | nil => exact fun a h _ => h
        | cons b l ih =>
          intro a h hl
          rw [List.foldl_cons]
          refine ih _ ?_ fun x hx => hl x (List.mem_cons_of_mem _ hx)
          split
          · exact hl b (List.mem_cons_self ..)
          · exact h
      have nm := hmem ((x0 :: T').take i) x0 (hT x0 (List.mem_cons_self ..)) fun x hx => hT x (List.mem_of_mem_take hx)
      have c := fun k => Nm.cmp (W := W) (k := k) (st := s) (hT y hm) nm
      refine ⟨_, rfl, [some (.lst ((x0 :: T').map num)), some (num (((x0 :: T').take (i + 1)).foldl (fun m x => if cmpr x m < 0 then x else m) x0)), some (num y)], s, .inl ?_, rfl, _, rfl⟩
      rw [List.take_add_one, hy, List.foldl_append]
      generalize ((x0 :: T').take i).foldl (fun m x => if cmpr x m < 0 then x else m) x0 = m at c ⊢
      by_cases h : cmpr y m < 0 <;> simp [df10, c, h, asg])
  -- the fold
  have fold : ∀ (l : List (Int × Int)) (a : Int × Int), Low a → (∀ x ∈ l, Low x) → (l.foldl (fun m x => if cmpr x m < 0 then x else m) a ∈ a :: l) ∧ ∀ x ∈ a :: l, Le (l.foldl (fun m x => if cmpr x m < 0 then x else m) a) x := fun l => by
    induction l with
    | nil => exact fun a ha _ => ⟨by simp, fun x hx => by simp at hx; subst hx; exact Le.refl' _⟩
    | cons b l ih =>
      intro a ha hl
      rw [List.foldl_cons]
      have hb := hl b (List.mem_cons_self ..)
      have hl' : ∀ x ∈ l, Low x := fun x hx => hl x (List.mem_cons_of_mem _ hx)
      by_cases h : cmpr b a < 0
      · rw [if_pos h]
        obtain ⟨i1, i2⟩ := ih b hb hl'
        have lba : Le b a := Le.tot (cmpr_lt.mp h)
        refine ⟨List.mem_cons_of_mem _ i1, fun x hx => ?_⟩
        rcases List.mem_cons.mp hx with rfl | hx
        · have hm : Low (l.foldl (fun m x => if cmpr x m < 0 then x else m) b) := by
            rcases List.mem_cons.mp i1 with e | e
            · rw [e]; exact hb
            · exact hl' _ e
          exact Le.trans hm hb ha (i2 b (List.mem_cons_self ..)) lba
        · exact i2 x hx
      · rw [if_neg h]
        obtain ⟨i1, i2⟩ := ih a ha hl'
        have lab : Le a b := Classical.byContradiction fun z => h (cmpr_lt.mpr z)
        refine ⟨?_, fun x hx => ?_⟩
        · rcases List.mem_cons.mp i1 with e | e
          · rw [e]; exact List.mem_cons_self ..
          · exact List.mem_cons_of_mem _ (List.mem_cons_of_mem _ e)
        · rcases List.mem_cons.mp hx with rfl | hx
          · exact i2 _ (List.mem_cons_self ..)
          · rcases List.mem_cons.mp hx with rfl | hx
            · have hm : Low (l.foldl (fun m x => if cmpr x m < 0 then x else m) a) := by
                rcases List.mem_cons.mp i1 with e | e
                · rw [e]; exact ha
                · exact hl' _ e
              exact Le.trans hm ha hb (i2 a (List.mem_cons_self ..)) lab
            · exact i2 x (List.mem_cons_of_mem _ hx)
  obtain ⟨f1, f2⟩ := fold (x0 :: T') x0 (hT x0 (List.mem_cons_self ..)).ne.1 fun x hx => (hT x hx).ne.1
  refine ⟨(x0 :: T').foldl (fun m x => if cmpr x m < 0 then x else m) x0, fun k => ?_, ?_, fun x hx => f2 x (List.mem_cons_of_mem _ hx)⟩
  · obtain ⟨env', st', e, rfl, z, rfl⟩ := key k
    rw [List.length_map, List.take_length] at e
    rw [C_call]
    rw [List.map_cons] at e ⊢
    simp only [stepC, df11, D11, b11]
    rw [if_pos ⟨rfl, by decide⟩]
    simp only [blk_cons, S_set, E_idx, E_v, E_c, asg, Res.ok_bind, List.map_cons, List.map_nil, List.length_cons, List.length_nil, List.cons_append, List.nil_append, List.replicate, List.getElem?_cons_zero, seqOf_lst, atI0, tl_some]
    simp [S_for, e]
  · rcases List.mem_cons.mp f1 with h | h
    · rw [h]; exact List.mem_cons_self ..
    · exact h
theorem c_greatest {T : List (Int × Int)} (hT : ∀ x ∈ T, Nm 0 x) (ne : T ≠ []) : ∃ m, (∀ k, (ev (PR W) (k + 40)).call 12 [.tup (T.map num)] st = .ok (num m) st) ∧ m ∈ T ∧ ∀ x ∈ T, Le x m := by
  obtain ⟨x0, T', rfl⟩ := List.exists_cons_of_ne_nil ne
  -- by the pure fold
  have key : ∀ (r : Nat), ∃ env' st', forL (ev (PR W) (r + 38)) (.n 2) [.ite (.cmp .gt (.call 10 [(.v 2), (.v 1)]) (.c (.int 0))) [.set (.n 1) (.v 2)] []] (fun _ => True) ((x0 :: T').map num) [some (.tup ((x0 :: T').map num)), some (num x0), none] st = .ok (.nx, env') st' ∧
      (st' = st ∧ ∃ z, env' = [some (.tup ((x0 :: T').map num)), some (num (((x0 :: T').take ((x0 :: T').map num).length).foldl (fun m x => if 0 < cmpr x m then x else m) x0)), z]) := fun r =>
    for_inv (fun i env s => s = st ∧ ∃ z, env = [some (.tup ((x0 :: T').map num)), some (num (((x0 :: T').take i).foldl (fun m x => if 0 < cmpr x m then x else m) x0)), z]) ⟨rfl, none, rfl⟩ (fun _ _ _ _ _ => trivial) (fun i x env s hx ⟨hs, z, he⟩ => by
      subst hs he
      obtain ⟨y, hy, rfl, hm⟩ := get_map hx
      have hmem : ∀ (l : List (Int × Int)) (a : Int × Int), Nm 0 a → (∀ x ∈ l, Nm 0 x) → Nm 0 (l.foldl (fun m x => if 0 < cmpr x m then x else m) a) := fun l => by
        induction l with
        | nil => exact fun a h _ => h
        | cons b l ih =>
          intro a h hl
          rw [List.foldl_cons]
          refine ih _ ?_ fun x hx => hl x (List.mem_cons_of_mem _ hx)
          split
          · exact hl b (List.mem_cons_self ..)
          · exact h
      have nm := hmem ((x0 :: T').take i) x0 (hT x0 (List.mem_cons_self ..)) fun x hx => hT x (List.mem_of_mem_take hx)
      have c := fun k => Nm.cmp (W := W) (k := k) (st := s) (hT y hm) nm
      refine ⟨_, rfl, [some (.tup ((x0 :: T').map num)), some (num (((x0 :: T').take (i + 1)).foldl (fun m x => if 0 < cmpr x m then x else m) x0)), some (num y)], s, .inl ?_, rfl, _, rfl⟩
      rw [List.take_add_one, hy, List.foldl_append]
      generalize ((x0 :: T').take i).foldl (fun m x => if 0 < cmpr x m then x else m) x0 = m at c ⊢
      by_cases h : 0 < cmpr y m <;> simp [df10, c, h, asg])
  -- the fold
  have fold : ∀ (l : List (Int × Int)) (a : Int × Int), Low a → (∀ x ∈ l, Low x) → (l.foldl (fun m x => if 0 < cmpr x m then x else m) a ∈ a :: l) ∧ ∀ x ∈ a :: l, Le x (l.foldl (fun m x => if 0 < cmpr x m then x else m) a) := fun l => by
    induction l with
    | nil => exact fun a ha _ => ⟨by simp, fun x hx => by simp at hx; subst hx; exact Le.refl' _⟩
    | cons b l ih =>
      intro a ha hl
      rw [List.foldl_cons]
      have hb := hl b (List.mem_cons_self ..)
      have hl' : ∀ x ∈ l, Low x := fun x hx => hl x (List.mem_cons_of_mem _ hx)
      by_cases h : 0 < cmpr b a
      · rw [if_pos h]
        obtain ⟨i1, i2⟩ := ih b hb hl'
        have lba : Le a b := Le.tot (cmpr_gt.mp h)
        refine ⟨List.mem_cons_of_mem _ i1, fun x hx => ?_⟩
        rcases List.mem_cons.mp hx with rfl | hx
        · have hm : Low (l.foldl (fun m x => if 0 < cmpr x m then x else m) b) := by
            rcases List.mem_cons.mp i1 with e | e
            · rw [e]; exact hb
            · exact hl' _ e
          exact Le.trans ha hb hm lba (i2 b (List.mem_cons_self ..))
        · exact i2 x hx
      · rw [if_neg h]
        obtain ⟨i1, i2⟩ := ih a ha hl'
        have lab : Le b a := Classical.byContradiction fun z => h (cmpr_gt.mpr z)
        refine ⟨?_, fun x hx => ?_⟩
        · rcases List.mem_cons.mp i1 with e | e
          · rw [e]; exact List.mem_cons_self ..
          · exact List.mem_cons_of_mem _ (List.mem_cons_of_mem _ e)
        · rcases List.mem_cons.mp hx with rfl | hx
          · exact i2 _ (List.mem_cons_self ..)
          · rcases List.mem_cons.mp hx with rfl | hx
            · have hm : Low (l.foldl (fun m x => if 0 < cmpr x m then x else m) a) := by
                rcases List.mem_cons.mp i1 with e | e
                · rw [e]; exact ha
                · exact hl' _ e
              exact Le.trans hb ha hm lab (i2 a (List.mem_cons_self ..))
            · exact i2 x (List.mem_cons_of_mem _ hx)
  obtain ⟨f1, f2⟩ := fold (x0 :: T') x0 (hT x0 (List.mem_cons_self ..)).ne.1 fun x hx => (hT x hx).ne.1
  refine ⟨(x0 :: T').foldl (fun m x => if 0 < cmpr x m then x else m) x0, fun k => ?_, ?_, fun x hx => f2 x (List.mem_cons_of_mem _ hx)⟩
  · obtain ⟨env', st', e, rfl, z, rfl⟩ := key k
    rw [List.length_map, List.take_length] at e
    rw [C_call]
    rw [List.map_cons] at e ⊢
    simp only [stepC, df12, D12, b12]
    rw [if_pos ⟨rfl, by decide⟩]
    simp only [blk_cons, S_set, E_idx, E_v, E_c, asg, Res.ok_bind, List.map_cons, List.map_nil, List.length_cons, List.length_nil, List.cons_append, List.nil_append, List.replicate, List.getElem?_cons_zero, seqOf_tup, atI0, tl_some]
    simp [S_for, e]
  · rcases List.mem_cons.mp f1 with h | h
    · rw [h]; exact List.mem_cons_self ..
    · exact h
end
end Lk

set_option Elab.async false
set_option linter.all false
set_option maxRecDepth 100000
set_option maxHeartbeats 1000000
namespace Lk
open PySem PySem.Spec PyProof.Rows L2 Pv
/-! ### two lists behind a store -/
section
variable {s : Store} {o o1 o2 : SO} {X Y Z : List PV} {y : PV}
theorem S2a : (s ++ [o1, o2])[s.length]? = some o1 := by
  rw [List.getElem?_append_right (Nat.le_refl _)]
  simp
theorem S2b : (s ++ [o1, o2])[s.length + 1]? = some o2 := by
  rw [List.getElem?_append_right (Nat.le_succ _)]
  simp
theorem S2sa : (s ++ [o1, o2]).set s.length o = s ++ [o, o2] := by
  rw [List.set_append_right _ _ (Nat.le_refl _)]
  simp
theorem S2sb : (s ++ [o1, o2]).set (s.length + 1) o = s ++ [o1, o] := by
  rw [List.set_append_right _ _ (Nat.le_succ _)]
  simp
theorem pusha (h : X.length < sizeLine) : push s.length y (s ++ [.lst X, o2]) = some (s ++ [.lst (X ++ [y]), o2]) := by
  unfold push
  rw [S2a]
  dsimp only
  rw [if_pos h, S2sa]
theorem pushb (h : Y.length < sizeLine) : push (s.length + 1) y (s ++ [o1, .lst Y]) = some (s ++ [o1, .lst (Y ++ [y])]) := by
  unfold push
  rw [S2b]
  dsimp only
  rw [if_pos h, S2sb]
end
def forB (b : List Pv.Sm) (i : Nat) : List Pv.Sm := match b[i]? with
  | some (.for_ _ _ _ b) => b
  | _ => []
def o33 : List Pv.Sm := forB b33 0
def i33 : List Pv.Sm := forB o33 2
section
variable {W k : Nat} {st : Store}
theorem F0 : Fd 0 := .inl rfl
theorem q4 {x y : Int × Int} (hx : Nm 0 x) (hy : Nm 0 y) (st : Store) : (ev (PR W) (k + 20)).call 4 [num x, num y] st = .ok (num (oPlus 0 x y)) st := by
  have hx := hx.ne
  have hy := hy.ne
  exact c_plus (a := x.1) (b := x.2) (c := y.1) (d := y.2) (hx.2.1.mono (by decide)) (hx.2.2.mono (by decide)) (hy.2.1.mono (by decide)) (hy.2.2.mono (by decide)) (low_nz hx.1) (low_nz hy.1)
theorem q5 {x y : Int × Int} (hx : Nm 0 x) (hy : Nm 0 y) (st : Store) : (ev (PR W) (k + 20)).call 5 [num x, num y] st = .ok (num (oMinus 0 x y)) st := by
  have hx := hx.ne
  have hy := hy.ne
  exact c_minus (a := x.1) (b := x.2) (c := y.1) (d := y.2) (hx.2.1.mono (by decide)) (hx.2.2.mono (by decide)) (hy.2.1.mono (by decide)) (hy.2.2.mono (by decide)) (low_nz hx.1) (low_nz hy.1)
theorem q6 {x y : Int × Int} (hx : Nm 0 x) (hy : Nm 0 y) (st : Store) : (ev (PR W) (k + 20)).call 6 [num x, num y] st = .ok (num (oTimes 0 x y)) st := by
  have hx := hx.ne
  have hy := hy.ne
  exact c_times (a := x.1) (b := x.2) (c := y.1) (d := y.2) (hx.2.1.mono (by decide)) (hx.2.2.mono (by decide)) (hy.2.1.mono (by decide)) (hy.2.2.mono (by decide)) (low_nz hx.1) (low_nz hy.1)
theorem q7 {x y : Int × Int} (hx : Nm 0 x) (hy : Nm 0 y) (h0 : y.1 ≠ 0) (st : Store) : (ev (PR W) (k + 20)).call 7 [num x, num y] st = .ok (num (oOver 0 x y)) st := by
  have hx := hx.ne
  have hy := hy.ne
  exact c_over (a := x.1) (b := x.2) (c := y.1) (d := y.2) (hx.2.1.mono (by decide)) (hx.2.2.mono (by decide)) (hy.2.1.mono (by decide)) (hy.2.2.mono (by decide)) (low_nz hx.1) h0
@[simp] theorem pad7' (x y : PV) : pad D7 [x, y] = [x, y] := rfl
theorem ln_small {n : Nat} (h : n ≤ 1000) : n < sizeLine := Nat.lt_of_le_of_lt h (by decide)
theorem idx_num0 {x : Int × Int} {st : Store} : (match seqOf st (num x) with
      | some (_, xs) => tl (atI xs 0) st
      | none => .bad) = Res.ok (.int x.1) st := rfl
theorem idx_num1 {x : Int × Int} {st : Store} : (match seqOf st (num x) with
      | some (_, xs) => tl (atI xs 1) st
      | none => .bad) = Res.ok (.int x.2) st := rfl
@[simp] theorem seqOf_num (x : Int × Int) (st : Store) : seqOf st (num x) = some (true, [.int x.1, .int x.2]) := rfl
/-- one turn of the inner loop -/
theorem in33 {nn : Nat} {s : Store} {x y : Int × Int} {Tn : List (Int × Int)} {z5 z6 z7 z8 : Option PV} (hx : Nm 0 x) (hy : Nm 0 y) (hW : 2 ^ 8000 ≤ W) (hl : Tn.length ≤ 900) (hT : ∀ x ∈ Tn, NmW 0 x) :
    ∃ Tn' : List (Int × Int), (∀ k, blk (ev (PR W) (k + 100)) i33 [some (.ref nn), some (num x), some (.ref s.length), some (.ref (s.length + 1)), some (num y), z5, z6, z7, z8] (s ++ [.lst (Tn.map num), .lst (Tn.map num)]) = .ok (.nx, [some (.ref nn), some (num x), some (.ref s.length), some (.ref (s.length + 1)), some (num y), some (.int (cmpr x y)), z6, z7, z8]) (s ++ [.lst (Tn'.map num), .lst (Tn'.map num)])) ∧ Tn'.length ≤ Tn.length + 4 ∧ ∀ x ∈ Tn', NmW 0 x := by
  have c4 := fun k st => q4 (W := W) (k := k) hx hy st
  have c5 := fun k st => q5 (W := W) (k := k) hx hy st
  have c6 := fun k st => q6 (W := W) (k := k) hx hy st
  have l4 := fun k st => A_lplus (W := W) (k := k) (st := st) F0 hW hx hy
  have l5 := fun k st => A_lminus (W := W) (k := k) (st := st) F0 hW hx hy
  have l6 := fun k st => A_ltimes (W := W) (k := k) (st := st) F0 hW hx hy
  have cc := fun k st => Nm.cmp (W := W) (k := k) (st := st) hx hy
  have lc := fun k st => Nm.lord (W := W) (k := k) (st := st) hx hy
  have a1 : Tn.length + 3 ≤ sizeLine := Nat.le_of_lt (ln_small (by omega))
  have a2 : Tn.length + 3 < sizeLine := ln_small (by omega)
  have w3 : ∀ z ∈ Tn ++ [oPlus 0 x y, oMinus 0 x y, oTimes 0 x y], NmW 0 z := fun z hz => by
    rcases List.mem_append.mp hz with hz | hz
    · exact hT z hz
    · simp only [List.mem_cons, List.not_mem_nil, or_false] at hz
      rcases hz with rfl | rfl | rfl
      · exact w_plus F0 hx hy
      · exact w_minus F0 hx hy
      · exact w_times F0 hx hy
  by_cases h0 : y.1 = 0
  · refine ⟨Tn ++ [oPlus 0 x y, oMinus 0 x y, oTimes 0 x y], fun k => ?_, by simp, w3⟩
    rw [show i33 = [.ext (.v 2) (.lst false [(.call 4 [(.v 1), (.v 4)]), (.call 5 [(.v 1), (.v 4)]), (.call 6 [(.v 1), (.v 4)])]), .ext (.v 3) (.lst false [(.call 26 [(.c (.int 0)), (.v 1), (.v 4)]), (.call 28 [(.c (.int 0)), (.v 1), (.v 4)]), (.call 27 [(.c (.int 0)), (.v 1), (.v 4)])]), .ite (.cmp .ne (.idx (.v 4) (.c (.int 0))) (.c (.int 0))) [.app (.v 2) (.call 7 [(.v 1), (.v 4)]), .app (.v 3) (.call 29 [(.c (.int 0)), (.v 1), (.v 4)])] [], .set (.n 5) (.call 10 [(.v 1), (.v 4)]), .ite (.or (.not (.bi (.isi (.ty "int")) [(.v 5)])) (.or (.bi (.isi (.ty "bool")) [(.v 5)]) (.cmp .ne (.v 5) (.call 32 [(.v 1), (.v 4)])))) [.ret (.c (.bl false))] []] from rfl]
    simp [df4, df5, df6, df26, df27, df28, df10, df32, S2a, S2b, S2sa, S2sb, c4, c5, c6, l4, l5, l6, cc, lc, a1, h0, asg]
  · have c7 := fun k st => q7 (W := W) (k := k) hx hy h0 st
    have l7 := fun k st => A_lover (W := W) (k := k) (st := st) F0 hW hx hy h0
    refine ⟨Tn ++ [oPlus 0 x y, oMinus 0 x y, oTimes 0 x y] ++ [oOver 0 x y], fun k => ?_, by simp, fun z hz => ?_⟩
    · rw [show i33 = [.ext (.v 2) (.lst false [(.call 4 [(.v 1), (.v 4)]), (.call 5 [(.v 1), (.v 4)]), (.call 6 [(.v 1), (.v 4)])]), .ext (.v 3) (.lst false [(.call 26 [(.c (.int 0)), (.v 1), (.v 4)]), (.call 28 [(.c (.int 0)), (.v 1), (.v 4)]), (.call 27 [(.c (.int 0)), (.v 1), (.v 4)])]), .ite (.cmp .ne (.idx (.v 4) (.c (.int 0))) (.c (.int 0))) [.app (.v 2) (.call 7 [(.v 1), (.v 4)]), .app (.v 3) (.call 29 [(.c (.int 0)), (.v 1), (.v 4)])] [], .set (.n 5) (.call 10 [(.v 1), (.v 4)]), .ite (.or (.not (.bi (.isi (.ty "int")) [(.v 5)])) (.or (.bi (.isi (.ty "bool")) [(.v 5)]) (.cmp .ne (.v 5) (.call 32 [(.v 1), (.v 4)])))) [.ret (.c (.bl false))] []] from rfl]
      have pa := fun o2 => pusha (s := s) (o2 := o2) (X := Tn.map num ++ [num (oPlus 0 x y), num (oMinus 0 x y), num (oTimes 0 x y)]) (y := num (oOver 0 x y)) (by simpa using a2)
      have pb := fun o1 => pushb (s := s) (o1 := o1) (Y := Tn.map num ++ [num (oPlus 0 x y), num (oMinus 0 x y), num (oTimes 0 x y)]) (y := num (oOver 0 x y)) (by simpa using a2)
      simp [df4, df5, df6, df7, df26, df27, df28, df29, df10, df32, S2a, S2b, S2sa, S2sb, c4, c5, c6, c7, l4, l5, l6, l7, cc, lc, a1, h0, asg, pa, pb]
    · rcases List.mem_append.mp hz with hz | hz
      · exact w3 z hz
      · rw [List.mem_singleton] at hz
        rw [hz]
        exact w_over F0 hx hy h0
end
end Lk

set_option Elab.async false
set_option linter.all false
set_option maxRecDepth 100000
set_option maxHeartbeats 1000000
namespace Lk
open PySem PySem.Spec PyProof.Rows L2 Pv
section
variable {W k : Nat} {st : Store}
theorem c_allnum {p : Int} (F : Fd p) (hW : 2 ^ 8000 ≤ W) {S : Store} {a : Nat} {Tn : List (Int × Int)} {env : En} (he : env[2]? = some (some (.ref a))) (hl : env.length = 9) (ha : S[a]? = some (.lst (Tn.map num))) (hn : Tn.length ≤ 1000) (hT : ∀ x ∈ Tn, NmW p x) (hp : p = 0) :
    (ev (PR W) (k + 80)).E (.comp false (.call 30 [(.c (.int 0)), (.v 6)]) (.n 6) .seq [(.v 2)] []) env S = .ok (.lst (Tn.map fun _ => .bl true)) S := by
  subst hp
  rw [E_comp]
  have := comp_map (r := ev (PR W) (k + 79)) (e := .call 30 [(.c (.int 0)), (.v 6)]) (tg := .n 6) (kk := .seq) (its := [(.v 2)]) (env := env) (st := S) (vs := [.ref a]) (xs := Tn.map num) (fun _ => PV.bl true) (by simp [he]) (walk_ref ha) (fun acc => seqOf_ref (app_get ha)) (fun x hx => by
    obtain ⟨y, hy, rfl⟩ := List.mem_map.mp hx
    have q := fun k st => A_isnum (W := W) (k := k) (st := st) F hW (hT y hy)
    refine ⟨(wipeE env [6]).set 6 (some (num y)), by show (if 6 < _ then _ else _) = _; rw [if_pos (by rw [show (wipeE env (slots (.n 6))).length = env.length by simp [slots, wipeE], hl]; decide)]; rfl, fun acc => ?_⟩
    have g : ((wipeE env [6]).set 6 (some (num y)))[6]? = some (some (num y)) := List.getElem?_set_self (by rw [show (wipeE env [6]).length = env.length by simp [wipeE], hl]; decide)
    simp [df30, g, q]) (by rw [List.length_map]; exact Nat.le_of_lt (ln_small hn)) (fun ff => by rw [List.map_map]; exact frzL_true ff Tn)
  rw [List.map_map] at this
  exact this
/-- one turn of the outer loop -/
theorem out33 {nn : Nat} {s : Store} {x : Int × Int} {T : List (Int × Int)} {z2 z3 z4 z5 z6 z7 z8 : Option PV} (hs : s[nn]? = some (.lst (T.map num))) (hT : ∀ y ∈ T, Nm 0 y) (hTl : T.length ≤ 50) (hx : x ∈ T) (hW : 2 ^ 8000 ≤ W) :
    ∃ (Tn : List (Int × Int)) (y4 y5 : Option PV), blk (ev (PR W) (k + 128)) o33 [some (.ref nn), some (num x), z2, z3, z4, z5, z6, z7, z8] s = .ok (.nx, [some (.ref nn), some (num x), some (.ref s.length), some (.ref (s.length + 1)), y4, y5, z6, z7, z8]) (s ++ [.lst (Tn.map num), .lst (Tn.map num)]) := by
  have nx := hT x hx
  have ne := nx.ne
  have c8 := fun k st => c_neg (W := W) (k := k) (st := st) (a := x.1) (b := x.2)
  have c9 := fun k st => c_size (W := W) (k := k) (st := st) (a := x.1) (b := x.2)
  have c2 := fun k st => c_make (W := W) (k := k) (st := st) (a := x.1) (b := x.2) (low_nz ne.1) (ne.2.2.mono (by decide))
  rw [rdc_self (show Low (x.1, x.2) from ne.1)] at c2
  -- the inner loop
  obtain ⟨env', st', e, Tn, rfl, hn, hl, y4, y5, rfl⟩ := for_inv (r := ev (PR W) (k + 127)) (tg := .n 4) (b := i33) (g := fun st' => seqOf st' (.ref nn) = some (false, T.map num)) (xs := T.map num)
    (env := [some (.ref nn), some (num x), some (.ref s.length), some (.ref (s.length + 1)), z4, z5, z6, z7, z8]) (st := s ++ [.lst ([(-x.1, x.2), (ab x.1, x.2), x].map num), .lst ([(-x.1, x.2), (ab x.1, x.2), x].map num)])
    (fun i env s' => ∃ Tn : List (Int × Int), s' = s ++ [.lst (Tn.map num), .lst (Tn.map num)] ∧ (∀ z ∈ Tn, NmW 0 z) ∧ Tn.length ≤ 3 + 4 * i ∧ ∃ y4 y5, env = [some (.ref nn), some (num x), some (.ref s.length), some (.ref (s.length + 1)), y4, y5, z6, z7, z8])
    ⟨_, rfl, fun z hz => by
      simp only [List.mem_cons, List.not_mem_nil, or_false] at hz
      unfold NmW
      rw [if_pos rfl]
      rcases hz with rfl | rfl | rfl
      · exact ⟨low_neg ne.1, ne.2.1.neg.mono (by decide), ne.2.2.mono (by decide)⟩
      · exact ⟨low_ab ne.1, Nat.lt_of_le_of_lt (Nat.le_of_eq (ab_natAbs x.1)) (ne.2.1.mono (show 100 ≤ 8000 by decide)), ne.2.2.mono (by decide)⟩
      · exact ⟨ne.1, ne.2.1.mono (by decide), ne.2.2.mono (by decide)⟩, by simp, z4, z5, rfl⟩
    (fun i env s' _ ⟨Tn, e, _, _, _⟩ => by subst e; exact seqOf_ref (app_get hs))
    (fun i y env s' hy ⟨Tn, e1, h1, h2, y4, y5, e2⟩ => by
      subst e1 e2
      obtain ⟨w, hw, rfl, hm⟩ := get_map hy
      have hi : i < T.length := (List.getElem?_eq_some_iff.mp hw).1
      obtain ⟨Tn', q, l', n'⟩ := in33 (W := W) (nn := nn) (s := s) (z5 := y5) (z6 := z6) (z7 := z7) (z8 := z8) nx (hT w hm) hW (show Tn.length ≤ 900 by omega) h1
      exact ⟨_, rfl, _, _, .inl (q (k + 27)), Tn', rfl, n', by omega, _, _, rfl⟩)
  rw [List.length_map] at hl
  have ca := c_allnum (W := W) (k := k + 43) F0 hW (S := s ++ [.lst (Tn.map num), .lst (Tn.map num)]) (a := s.length) (env := [some (.ref nn), some (num x), some (.ref s.length), some (.ref (s.length + 1)), y4, y5, z6, z7, z8]) rfl rfl S2a (by omega) hn rfl
  have nq := ne_nums (st := s ++ [.lst (Tn.map num), .lst (Tn.map num)]) (a := s.length) (b := s.length + 1) S2a S2b
  have wk : ∀ o1 o2 : SO, walk .seq [.ref nn] (s ++ [o1, o2]) = some (T.map num, fun st' => seqOf st' (.ref nn) = some (false, T.map num)) := fun o1 o2 => walk_ref (app_get hs)
  refine ⟨Tn, y4, y5, ?_⟩
  rw [show o33 = [.set (.n 2) (.lst true [(.call 8 [(.v 1)]), (.call 9 [(.v 1)]), (.call 2 [(.idx (.v 1) (.c (.int 0))), (.idx (.v 1) (.c (.int 1)))])]), .set (.n 3) (.lst true [(.tup [(.bin .sub (.c (.int 0)) (.idx (.v 1) (.c (.int 0)))), (.idx (.v 1) (.c (.int 1)))]), (.tup [(.bi .abs [(.idx (.v 1) (.c (.int 0)))]), (.idx (.v 1) (.c (.int 1)))]), (.v 1)]), .for_ (.n 4) .seq [(.v 0)] i33, .ite (.or (.not (.bi .all [(.comp false (.call 30 [(.c (.int 0)), (.v 6)]) (.n 6) .seq [(.v 2)] [])])) (.cmp .ne (.v 2) (.v 3))) [.ret (.c (.bl false))] []] from rfl]
  have cn : num x = num (x.1, x.2) := rfl
  simp only [List.map_cons, List.map_nil] at e
  simp only [num] at c8 c9 c2 e ca nq ⊢
  simp [df8, df9, df2, c8, c9, c2, asg, S_for, wk, e]
  have ball : ∀ st : Store, biF (PR W).isl (PR W).kl.length .all [.lst (Tn.map fun _ => PV.bl true)] st = .ok (.bl true) st := fun st => by
    show (match blsOf (Tn.map fun _ => PV.bl true) with | some bs => Res.ok (PV.bl (bs.all id)) st | none => .bad) = _
    rw [blsOf_true]
    simp
  rw [ca]
  simp [ball, nq]
end
end Lk

set_option Elab.async false
set_option linter.all false
set_option maxRecDepth 100000
set_option maxHeartbeats 1000000
namespace Lk
open PySem PySem.Spec PyProof.Rows L2 Pv
section
variable {W k : Nat} {st : Store}
theorem filter_false {α : Type} : ∀ l : List α, l.filter (fun _ => false) = []
  | [] => rfl
  | x :: l => by rw [List.filter_cons]; exact filter_false l
theorem done_bl {b : Bool} {ext : Store} : done st false (.bl b) (st ++ ext) = .ok (.bl b) st := by
  by_cases h : ext = []
  · subst h
    rw [List.append_nil]
    exact done_same _ _
  · have hl : (st ++ ext).length ≠ st.length := by
      rw [List.length_append]
      have := List.length_pos_iff.mpr h
      omega
    rw [done_new (w := .bl b) hl (oldOk_app _) (.inl rfl) (by unfold frz; rfl), List.take_left']
    rfl
theorem c_right {nn : Nat} {T : List (Int × Int)} (hs : st[nn]? = some (.lst (T.map num))) (hT : ∀ y ∈ T, Nm 0 y) (hTl : T.length ≤ 50) (ne : T ≠ []) (hW : 2 ^ 8000 ≤ W) : (ev (PR W) (k + 130)).call 33 [.ref nn] st = .ok (.bl true) st := by
  obtain ⟨env', st', e, ⟨ext, rfl⟩, z1, z2, z3, z4, z5, z6, z7, z8, rfl⟩ := for_inv (r := ev (PR W) (k + 128)) (tg := .n 1) (b := o33) (g := fun st' => seqOf st' (.ref nn) = some (false, T.map num)) (xs := T.map num)
    (env := [some (.ref nn), none, none, none, none, none, none, none, none]) (st := st) (fun i env s' => (∃ ext, s' = st ++ ext) ∧ ∃ z1 z2 z3 z4 z5 z6 z7 z8 : Option PV, env = [some (.ref nn), z1, z2, z3, z4, z5, z6, z7, z8])
    ⟨⟨[], by simp⟩, _, _, _, _, _, _, _, _, rfl⟩ (fun i env s' _ ⟨⟨ext, e⟩, _⟩ => by subst e; exact seqOf_ref (app_get hs))
    (fun i y env s' hy ⟨⟨ext, e1⟩, z1, z2, z3, z4, z5, z6, z7, z8, e2⟩ => by
      subst e1 e2
      obtain ⟨w, hw, rfl, hm⟩ := get_map hy
      obtain ⟨Tn, y4, y5, q⟩ := out33 (W := W) (k := k) (z2 := z2) (z3 := z3) (z4 := z4) (z5 := z5) (z6 := z6) (z7 := z7) (z8 := z8) (app_get hs (l := ext)) hT hTl hm hW
      exact ⟨_, rfl, _, _, .inl q, ⟨ext ++ [.lst (Tn.map num), .lst (Tn.map num)], by rw [List.append_assoc]⟩, _, _, _, _, _, _, _, _, rfl⟩)
  have hs' := app_get hs (l := ext)
  obtain ⟨m, c11, hm, lm⟩ := c_least (W := W) (st := st ++ ext) hT ne
  obtain ⟨g, c12, hg, lg⟩ := c_greatest (W := W) (st := st ++ ext) hT ne
  have n1 := fun k => A_isnum (W := W) (k := k) (st := st ++ ext) F0 hW (hT m hm).w
  have n2 := fun k => A_isnum (W := W) (k := k) (st := st ++ ext) F0 hW (hT g hg).w
  have sq : seqOf (st ++ ext) (.ref nn) = some (false, T.map num) := seqOf_ref hs'
  have m1 := notMem_nums hs' hm
  have m2 := notMem_nums hs' hg
  have wk : walk .seq [.ref nn] st = some (T.map num, fun st' => seqOf st' (.ref nn) = some (false, T.map num)) := walk_ref hs
  have cf : ∀ k, comp (ev (PR W) (k + 60)) false (.v 1) (.n 1) .seq [(.v 0)] [(.or (.cmp .lt (.call 32 [(.v 1), (.v 7)]) (.c (.int 0))) (.cmp .gt (.call 32 [(.v 1), (.v 8)]) (.c (.int 0))))] [some (.ref nn), z1, z2, z3, z4, z5, z6, some (num m), some (num g)] (st ++ ext) = .ok (.lst []) (st ++ ext) := fun k => by
    have := comp_filter (r := ev (PR W) (k + 60)) (e := .v 1) (c := .or (.cmp .lt (.call 32 [(.v 1), (.v 7)]) (.c (.int 0))) (.cmp .gt (.call 32 [(.v 1), (.v 8)]) (.c (.int 0)))) (tg := .n 1) (kk := .seq) (its := [(.v 0)]) (env := [some (.ref nn), z1, z2, z3, z4, z5, z6, some (num m), some (num g)]) (st := st ++ ext) (vs := [.ref nn]) (xs := T.map num) (fun _ => false) (fun x => x) (by simp) (walk_ref hs') (fun acc => seqOf_ref (app_get hs')) (fun x hx => by
      obtain ⟨y, hy, rfl⟩ := List.mem_map.mp hx
      have q1 := fun k st => Nm.lord (W := W) (k := k) (st := st) (hT y hy) (hT m hm)
      have q2 := fun k st => Nm.lord (W := W) (k := k) (st := st) (hT y hy) (hT g hg)
      have f1 : ¬ cmpr y m < 0 := fun z => cmpr_lt.mp z (lm y hy)
      have f2 : ¬ 0 < cmpr y g := fun z => cmpr_gt.mp z (lg y hy)
      exact ⟨_, rfl, fun acc => by simp [slots, wipeE, df32, q1, q2, f1, f2], fun z => by cases z⟩) (by rw [List.length_map]; exact Nat.le_of_lt (ln_small (by omega))) (fun ff => by rw [filter_false]; rfl)
    rw [filter_false] at this
    exact this
  have hd : (PR W).df[33]? = some ⟨1, [], 9, false, [.for_ (.n 1) .seq [(.v 0)] o33, .set (.n 7) (.call 11 [(.bi (.list false) [(.v 0)])]), .set (.n 8) (.call 12 [(.bi .tuple [(.v 0)])]), .ite (.or (.not (.call 30 [(.c (.int 0)), (.v 7)])) (.or (.not (.call 30 [(.c (.int 0)), (.v 8)])) (.or (.cmp .notMem (.v 7) (.v 0)) (.cmp .notMem (.v 8) (.v 0))))) [.ret (.c (.bl false))] [], .ret (.not (.comp false (.v 1) (.n 1) .seq [(.v 0)] [(.or (.cmp .lt (.call 32 [(.v 1), (.v 7)]) (.c (.int 0))) (.cmp .gt (.call 32 [(.v 1), (.v 8)]) (.c (.int 0))))]))]⟩ := rfl
  rw [C_call]
  simp [stepC, hd, df11, df12, df30, S_for, wk, e, sq, c11, c12, n1, n2, m1, m2, asg, E_comp, cf, done_bl]
end
end Lk

set_option Elab.async false
set_option linter.all false
set_option maxRecDepth 100000
set_option maxHeartbeats 1000000
namespace Lk
open PySem PySem.Spec PyProof.Rows L2 Pv
def pw (p : Int) : PV := if p = 0 then .non else .int p
def iw (p : Int) : PV := if p = 0 then .tup [] else .tup ((invL p (p - 2).toNat).map .int)
theorem FV_eq (p : Int) : FV p = fld (pw p) (iw p) := by
  unfold FV pw iw
  split <;> rfl
def t34 : List Pv.Sm := forB b34 6
def u34 : List Pv.Sm := forB b34 7
def v34 : List Pv.Sm := forB u34 1
section
variable {W k : Nat} {st : Store} {p : Int}
theorem insOf_FV : insOf st (FV p) = some (0, flds (pw p) (iw p)) := by
  rw [FV_eq]
  rfl
/-- the bottom that is taken -/
def btm (p y : Int) : Int := if (p = 0 ∧ y = 0) ∨ (0 < p ∧ y % p = 0) then 1 else y
theorem btm_ok (F : Fd p) {y : Int} : Bt p (btm p y) := by
  unfold btm
  by_cases h : (p = 0 ∧ y = 0) ∨ (0 < p ∧ y % p = 0)
  · rw [if_pos h]
    exact Bt1 F
  · rw [if_neg h]
    unfold Bt
    split
    · rename_i e
      exact fun z => h (.inl ⟨e, z⟩)
    · rename_i e
      have := (F.pos e).lo
      exact fun z => h (.inr ⟨by omega, z⟩)
theorem btm_sm {y : Int} (h : Sm 100 y) : Sm 100 (btm p y) := by
  unfold btm
  split
  · exact sm1.mono (by decide)
  · exact h
theorem Fd.nn (F : Fd p) : 0 ≤ p := by
  rcases F with h | h
  · omega
  · have := (pr_of h).lo
    omega
theorem c_btm (F : Fd p) {a0 a1 a3 a4 a5 a6 a8 a9 a10 a11 a12 a13 : Option PV} {y : Int} : (ev (PR W) (k + 20)).S (.ite (.or (.and (.cmp .eq (.v 2) (.c (.int 0))) (.cmp .eq (.v 7) (.c (.int 0)))) (.and (.cmp .gt (.v 2) (.c (.int 0))) (.cmp .eq (.bin .mod (.bi .int [(.v 7)]) (.v 2)) (.c (.int 0))))) [.set (.n 7) (.c (.int 1))] []) [a0, a1, some (.int p), a3, a4, a5, a6, some (.int y), a8, a9, a10, a11, a12, a13] st
    = .ok (.nx, [a0, a1, some (.int p), a3, a4, a5, a6, some (.int (btm p y)), a8, a9, a10, a11, a12, a13]) st := by
  by_cases h0 : p = 0
  · subst h0
    by_cases hy : y = 0 <;> simp [hy, btm, asg]
  · have hp : 0 < p := by have := F.nn; omega
    have q := fun a (st : Store) => bmod (a := a) (st := st) hp
    by_cases hy : y % p = 0 <;> simp [h0, hp, q, hy, btm, asg]
theorem c_turn {cells : List Int} (hc : CellsOk cells) (F : Fd p) (hW : 2 ^ 8000 ≤ W) {T : Nat} (hT : T ≤ 500) {o : SO} {L : List (Int × Int)} (hb : Bag cells 0 T [o, .lst (L.map num)]) (hl : L.length ≤ 50) (hL : ∀ x ∈ L, Nm p x) {ns : List Int} {a5 a6 a7 a8 a9 a10 a11 a12 a13 : Option PV} :
    ∃ (o' : SO) (x : Int × Int) (b6 b7 b8 b9 : Option PV), blk (ev (PR W) (k + 100)) t34 [some (.scr ns), some (.ref 0), some (.int p), some (FV p), some (.ref 1), a5, a6, a7, a8, a9, a10, a11, a12, a13] [o, .lst (L.map num)]
      = .ok (.nx, [some (.scr ns), some (.ref 0), some (.int p), some (FV p), some (.ref 1), a5, b6, b7, b8, b9, a10, a11, a12, a13]) [o', .lst ((L ++ [x]).map num)] ∧ Bag cells 0 (T + 6) [o', .lst ((L ++ [x]).map num)] ∧ Nm p x := by
  obtain ⟨a, s1, e1, sa, b1, ⟨o1, rfl⟩⟩ := c_wide (W := W) hc hb (by omega)
  obtain ⟨b, s2, e2, sb, b2, ⟨o2, rfl⟩⟩ := c_wide (W := W) hc b1 (by omega)
  simp only [List.set_cons_zero] at e1 b1 e2 b2
  have sb' := btm_sm (p := p) sb
  have hbt := btm_ok F (y := b)
  have cb := fun (k : Nat) (a0 a1 a3 a4 a5 a6 a8 a9 a10 a11 a12 a13 : Option PV) => c_btm (W := W) (k := k) (st := [o2, .lst (L.map num)]) F (y := b) (a0 := a0) (a1 := a1) (a3 := a3) (a4 := a4) (a5 := a5) (a6 := a6) (a8 := a8) (a9 := a9) (a10 := a10) (a11 := a11) (a12 := a12) (a13 := a13)
  generalize btm p b = y at sb' hbt cb
  have lm := fun k => A_lmake (W := W) (k := k) (st := [o2, .lst (L.map num)]) F hW (sa.mono (show 100 ≤ 1000 by decide)) (sb'.mono (show 100 ≤ 1000 by decide)) hbt
  have nu := fun k => A_number (W := W) (k := k) (st := [o2, .lst (L.map num)]) F (sa.mono (show 100 ≤ 1000 by decide)) (sb'.mono (show 100 ≤ 1000 by decide)) hbt
  have lm1 := fun k => A_lmake (W := W) (k := k) (st := [o2, .lst (L.map num)]) F hW (sa.mono (show 100 ≤ 1000 by decide)) (sm1.mono (show 1 ≤ 1000 by decide)) (Bt1 F)
  have nu1 := fun k => A_number (W := W) (k := k) (st := [o2, .lst (L.map num)]) F (sa.mono (show 100 ≤ 1000 by decide)) (sm1.mono (show 1 ≤ 1000 by decide)) (Bt1 F)
  have nx := n_make F sa sb' hbt
  have w1 := w_make F (sa.mono (show 100 ≤ 1000 by decide)) (sm1.mono (show 1 ≤ 1000 by decide)) (Bt1 F)
  have i1 := fun k => A_isnum (W := W) (k := k) (st := [o2, .lst (L.map num)]) F hW nx.w
  have i2 := fun k => A_isnum (W := W) (k := k) (st := [o2, .lst (L.map num)]) F hW w1
  have ho := fun k => A_holds (W := W) (k := k) (st := [o2, .lst (L.map num)]) F nx.w
  have n1 := ne_num (st := [o2, .lst (L.map num)]) (oMake p a y)
  have n2 := ne_num (st := [o2, .lst (L.map num)]) (oMake p a 1)
  have pu : push 1 (num (oMake p a y)) [o2, .lst (L.map num)] = some [o2, .lst (L.map num ++ [num (oMake p a y)])] := by
    have := push_at (st0 := [o2]) (acc := L.map num) (y := num (oMake p a y)) (d := 1) rfl (by rw [List.length_map]; exact ln_small (by omega))
    simpa using this
  have mk : p = 0 → ∀ k, (ev (PR W) (k + 20)).call 2 [.int a, .int y] [o2, .lst (L.map num)] = .ok (num (oMake p a y)) [o2, .lst (L.map num)] := fun h0 k => by
    unfold Bt at hbt
    rw [if_pos h0] at hbt
    unfold oMake
    rw [if_pos h0]
    exact c_make hbt (sb'.mono (by decide))
  have mk1 : p = 0 → ∀ k, (ev (PR W) (k + 20)).call 2 [.int a, .int 1] [o2, .lst (L.map num)] = .ok (num (oMake p a 1)) [o2, .lst (L.map num)] := fun h0 k => by
    unfold oMake
    rw [if_pos h0]
    exact c_make (by decide) (sm1.mono (by decide))
  refine ⟨o2, oMake p a y, some (.int a), some (.int y), some (num (oMake p a y)), some (num (oMake p a y)), ?_, ?_, nx⟩
  · rw [show t34 = [.set (.n 6) (.call 31 [(.v 1)]), .set (.n 7) (.call 31 [(.v 1)]), .ite (.or (.and (.cmp .eq (.v 2) (.c (.int 0))) (.cmp .eq (.v 7) (.c (.int 0)))) (.and (.cmp .gt (.v 2) (.c (.int 0))) (.cmp .eq (.bin .mod (.bi .int [(.v 7)]) (.v 2)) (.c (.int 0))))) [.set (.n 7) (.c (.int 1))] [], .set (.n 8) (.call 25 [(.v 2), (.v 6), (.v 7)]), .set (.n 9) (.meth (.v 3) "number" [(.v 6), (.v 7)]), .ite (.or (.not (.call 30 [(.v 2), (.v 9)])) (.or (.cmp .ne (.v 9) (.v 8)) (.cmp .notC (.meth (.v 3) "holds" [(.v 9)]) (.c (.bl true))))) [.ret (.c (.bl false))] [], .ite (.and (.cmp .eq (.v 2) (.c (.int 0))) (.or (.cmp .ne (.call 2 [(.v 6), (.v 7)]) (.v 8)) (.cmp .ne (.call 2 [(.v 6)]) (.call 25 [(.c (.int 0)), (.v 6), (.c (.int 1))])))) [.ret (.c (.bl false))] [], .ite (.or (.not (.call 30 [(.v 2), (.meth (.v 3) "number" [(.v 6)])])) (.cmp .ne (.meth (.v 3) "number" [(.v 6)]) (.call 25 [(.v 2), (.v 6), (.c (.int 1))]))) [.ret (.c (.bl false))] [], .app (.v 4) (.v 8)] from rfl]
    simp [-S_ite, df31, df25, df14, e1, e2, asg, cb, lm, nu, insOf_FV]
    by_cases h0 : p = 0
    · have m0 := mk h0
      have m1 := mk1 h0
      subst h0
      simp [df30, df15, df2, df25, df14, lm, nu, lm1, nu1, i1, i2, ho, n1, n2, m0, m1, insOf_FV, pu]
    · simp [df30, df15, df2, df25, df14, lm, nu, lm1, nu1, i1, i2, ho, n1, n2, h0, insOf_FV, pu]
  · obtain ⟨t, r, g1, g2, g3, g4⟩ := b2.at_
    exact ⟨t, r, g1, g2, by omega, g4⟩
end
end Lk

set_option Elab.async false
set_option linter.all false
set_option maxRecDepth 100000
set_option maxHeartbeats 1000000
namespace Lk
open PySem PySem.Spec PyProof.Rows L2 Pv
section
variable {W k : Nat} {st : Store} {p : Int}
/-- one turn of the inner loop -/
theorem in34 (F : Fd p) (hW : 2 ^ 8000 ≤ W) {S : Store} {x y : Int × Int} (hx : Nm p x) (hy : Nm p y) {a0 a1 a4 a5 a6 a7 a8 a9 a12 a13 : Option PV} :
    ∃ (Z : List (Int × Int)), blk (ev (PR W) (k + 110)) v34 [a0, a1, some (.int p), some (FV p), a4, a5, a6, a7, a8, a9, some (num x), some (num y), a12, a13] S
      = .ok (.nx, [a0, a1, some (.int p), some (FV p), a4, a5, a6, a7, some (.ref (S.length + 1)), a9, some (num x), some (num y), some (.ref S.length), a13]) (S ++ [.lst (Z.map num), .lst (Z.map num)]) := by
  have c4 := fun k st => A_plus (W := W) (k := k) (st := st) F hx hy
  have c5 := fun k st => A_minus (W := W) (k := k) (st := st) F hx hy
  have c6 := fun k st => A_times (W := W) (k := k) (st := st) F hx hy
  have l4 := fun k st => A_lplus (W := W) (k := k) (st := st) F hW hx hy
  have l5 := fun k st => A_lminus (W := W) (k := k) (st := st) F hW hx hy
  have l6 := fun k st => A_ltimes (W := W) (k := k) (st := st) F hW hx hy
  have hv : v34 = [.set (.n 12) (.lst true [(.meth (.v 3) "plus" [(.v 10), (.v 11)]), (.meth (.v 3) "minus" [(.v 10), (.v 11)]), (.meth (.v 3) "times" [(.v 10), (.v 11)])]), .set (.n 8) (.lst true [(.call 26 [(.v 2), (.v 10), (.v 11)]), (.call 28 [(.v 2), (.v 10), (.v 11)]), (.call 27 [(.v 2), (.v 10), (.v 11)])]), .ite (.cmp .ne (.idx (.v 11) (.c (.int 0))) (.c (.int 0))) [.app (.v 12) (.meth (.v 3) "over" [(.v 10), (.v 11)]), .app (.v 8) (.call 29 [(.v 2), (.v 10), (.v 11)])] [], .ite (.or (.cmp .ne (.v 12) (.v 8)) (.comp false (.v 13) (.n 13) .seq [(.v 12)] [(.not (.call 30 [(.v 2), (.v 13)]))])) [.ret (.c (.bl false))] []] := rfl
  -- the list of what is no number
  have cf : ∀ (k : Nat) (Z : List (Int × Int)) (b12 : Option PV), Z.length ≤ 100 → (∀ z ∈ Z, NmW p z) → comp (ev (PR W) (k + 80)) false (.v 13) (.n 13) .seq [(.v 12)] [(.not (.call 30 [(.v 2), (.v 13)]))] [a0, a1, some (.int p), some (FV p), a4, a5, a6, a7, some (.ref (S.length + 1)), a9, some (num x), some (num y), some (.ref S.length), a13] (S ++ [.lst (Z.map num), .lst (Z.map num)]) = .ok (.lst []) (S ++ [.lst (Z.map num), .lst (Z.map num)]) := fun k Z _ hl hz => by
    have := comp_filter (r := ev (PR W) (k + 80)) (e := .v 13) (c := .not (.call 30 [(.v 2), (.v 13)])) (tg := .n 13) (kk := .seq) (its := [(.v 12)]) (env := [a0, a1, some (.int p), some (FV p), a4, a5, a6, a7, some (.ref (S.length + 1)), a9, some (num x), some (num y), some (.ref S.length), a13]) (st := S ++ [.lst (Z.map num), .lst (Z.map num)]) (vs := [.ref S.length]) (xs := Z.map num) (fun _ => false) (fun x => x) (by simp) (walk_ref S2a) (fun acc => seqOf_ref (app_get S2a)) (fun x hx => by
      obtain ⟨z, hz', rfl⟩ := List.mem_map.mp hx
      have q := fun k st => A_isnum (W := W) (k := k) (st := st) F hW (hz z hz')
      exact ⟨_, rfl, fun acc => by simp [slots, wipeE, df30, q], fun z => by cases z⟩) (by rw [List.length_map]; exact Nat.le_of_lt (ln_small (by omega))) (fun ff => by rw [filter_false]; rfl)
    rw [filter_false] at this
    exact this
  have w3 : ∀ z ∈ [oPlus p x y, oMinus p x y, oTimes p x y], NmW p z := fun z hz => by
    simp only [List.mem_cons, List.not_mem_nil, or_false] at hz
    rcases hz with rfl | rfl | rfl
    · exact w_plus F hx hy
    · exact w_minus F hx hy
    · exact w_times F hx hy
  by_cases h0 : y.1 = 0
  · refine ⟨[oPlus p x y, oMinus p x y, oTimes p x y], ?_⟩
    have cf' := fun k => cf k [oPlus p x y, oMinus p x y, oTimes p x y] none (by simp) w3
    have nq := ne_nums (st := S ++ [.lst ([oPlus p x y, oMinus p x y, oTimes p x y].map num), .lst ([oPlus p x y, oMinus p x y, oTimes p x y].map num)]) (a := S.length) (b := S.length + 1) S2a S2b
    simp only [List.map_cons, List.map_nil] at cf' nq
    rw [hv]
    simp [df16, df17, df18, df26, df27, df28, c4, c5, c6, l4, l5, l6, insOf_FV, asg, h0, nq, E_comp, cf']
  · have c7 := fun k st => A_over (W := W) (k := k) (st := st) F hx hy h0
    have l7 := fun k st => A_lover (W := W) (k := k) (st := st) F hW hx hy h0
    refine ⟨[oPlus p x y, oMinus p x y, oTimes p x y, oOver p x y], ?_⟩
    have w4 : ∀ z ∈ [oPlus p x y, oMinus p x y, oTimes p x y, oOver p x y], NmW p z := fun z hz => by
      simp only [List.mem_cons, List.not_mem_nil, or_false] at hz
      rcases hz with rfl | rfl | rfl | rfl
      · exact w_plus F hx hy
      · exact w_minus F hx hy
      · exact w_times F hx hy
      · exact w_over F hx hy h0
    have cf' := fun k => cf k [oPlus p x y, oMinus p x y, oTimes p x y, oOver p x y] none (by simp) w4
    have nq := ne_nums (st := S ++ [.lst ([oPlus p x y, oMinus p x y, oTimes p x y, oOver p x y].map num), .lst ([oPlus p x y, oMinus p x y, oTimes p x y, oOver p x y].map num)]) (a := S.length) (b := S.length + 1) S2a S2b
    have pa := fun o2 => pusha (s := S) (o2 := o2) (X := [num (oPlus p x y), num (oMinus p x y), num (oTimes p x y)]) (y := num (oOver p x y)) (ln_small (by simp))
    have pb := fun o1 => pushb (s := S) (o1 := o1) (Y := [num (oPlus p x y), num (oMinus p x y), num (oTimes p x y)]) (y := num (oOver p x y)) (ln_small (by simp))
    simp only [List.map_cons, List.map_nil] at cf' nq
    simp only [List.cons_append, List.nil_append] at pa pb
    rw [hv]
    simp [df16, df17, df18, df19, df26, df27, df28, df29, c4, c5, c6, c7, l4, l5, l6, l7, insOf_FV, asg, h0, nq, E_comp, cf', S2a, S2b, pa, pb]
/-- one turn of the outer loop -/
theorem out34 (F : Fd p) (hW : 2 ^ 8000 ≤ W) {S : Store} {L : List (Int × Int)} (hS : S[1]? = some (.lst (L.map num))) (hL : ∀ x ∈ L, Nm p x) {x : Int × Int} (hx : x ∈ L) {a0 a1 a5 a6 a7 a8 a9 a11 a12 a13 : Option PV} :
    ∃ (ext : Store) (b8 b11 b12 : Option PV), blk (ev (PR W) (k + 140)) u34 [a0, a1, some (.int p), some (FV p), some (.ref 1), a5, a6, a7, a8, a9, some (num x), a11, a12, a13] S
      = .ok (.nx, [a0, a1, some (.int p), some (FV p), some (.ref 1), a5, a6, a7, b8, a9, some (num x), b11, b12, a13]) (S ++ ext) := by
  have nx := hL x hx
  obtain ⟨env', st', e, ⟨ext, rfl⟩, b8, b11, b12, rfl⟩ := for_inv (r := ev (PR W) (k + 139)) (tg := .n 11) (b := v34) (g := fun st' => seqOf st' (.ref 1) = some (false, L.map num)) (xs := L.map num)
    (env := [a0, a1, some (.int p), some (FV p), some (.ref 1), a5, a6, a7, a8, a9, some (num x), a11, a12, a13]) (st := S) (fun i env s' => (∃ ext, s' = S ++ ext) ∧ ∃ b8 b11 b12 : Option PV, env = [a0, a1, some (.int p), some (FV p), some (.ref 1), a5, a6, a7, b8, a9, some (num x), b11, b12, a13])
    ⟨⟨[], by simp⟩, _, _, _, rfl⟩ (fun i env s' _ ⟨⟨ext, e⟩, _⟩ => by subst e; exact seqOf_ref (app_get hS))
    (fun i y env s' hy ⟨⟨ext, e1⟩, b8, b11, b12, e2⟩ => by
      subst e1 e2
      obtain ⟨w, hw, rfl, hm⟩ := get_map hy
      obtain ⟨Z, q⟩ := in34 (W := W) (k := k + 29) F hW (S := S ++ ext) nx (hL w hm) (a0 := a0) (a1 := a1) (a4 := some (.ref 1)) (a5 := a5) (a6 := a6) (a7 := a7) (a8 := b8) (a9 := a9) (a12 := b12) (a13 := a13)
      exact ⟨_, rfl, _, _, .inl q, ⟨ext ++ [.lst (Z.map num), .lst (Z.map num)], by rw [List.append_assoc]⟩, _, _, _, rfl⟩)
  have ng := fun k => A_neg (W := W) (k := k) (st := S) F (x := x)
  have i1 := fun k => A_isnum (W := W) (k := k) (st := S) F hW (w_neg F nx)
  have l0 := fun k => A_lminus (W := W) (k := k) (st := S) F hW (n_zero F) nx
  rw [neg_minus F nx] at l0
  have l0' : ∀ k, (ev (PR W) (k + 60)).call 28 [.int p, .tup [.int 0, .int 1], num x] S = .ok (num (oNeg p x)) S := l0
  have n1 := ne_num (st := S) (oNeg p x)
  have wk : walk .seq [.ref 1] S = some (L.map num, fun st' => seqOf st' (.ref 1) = some (false, L.map num)) := walk_ref hS
  refine ⟨ext, b8, b11, b12, ?_⟩
  rw [show u34 = [.ite (.or (.not (.call 30 [(.v 2), (.meth (.v 3) "negative" [(.v 10)])])) (.cmp .ne (.meth (.v 3) "negative" [(.v 10)]) (.call 28 [(.v 2), (.tup [(.c (.int 0)), (.c (.int 1))]), (.v 10)]))) [.ret (.c (.bl false))] [], .for_ (.n 11) .seq [(.v 4)] v34] from rfl]
  simp [df30, df20, df28, insOf_FV, ng, i1, l0', n1, S_for, wk, e]
end
end Lk

set_option Elab.async false
set_option linter.all false
set_option maxRecDepth 100000
set_option maxHeartbeats 1000000
namespace Lk
open PySem PySem.Spec PyProof.Rows L2 Pv
theorem sm_bits {z : Int} (h : Builtin.Int.intBits z ≤ 1048576) : Sm 1048600 z := by
  unfold Sm
  by_cases h0 : z = 0
  · subst h0
    exact Nat.two_pow_pos _
  · have e : Builtin.Int.intBits z = z.natAbs.log2 + 1 := by
      unfold Builtin.Int.intBits
      rw [if_neg (by simpa using h0)]
    rw [e] at h
    exact Nat.lt_of_lt_of_le Nat.lt_log2_self (Nat.pow_le_pow_right (by decide) (by omega))
theorem cells_ok {ns : List Int} (hl : ns.length ≤ 63) (hb : ∀ z ∈ ns, Builtin.Int.intBits z ≤ 1048576) : CellsOk (cellsOf ns) := by
  unfold cellsOf
  by_cases h : ns = []
  · rw [if_pos h]
    refine ⟨by simp, fun c hc => ?_, by decide⟩
    rw [List.mem_singleton] at hc
    subst hc
    exact ⟨by decide, (show Sm 3 5 by unfold Sm; decide).mono (by decide)⟩
  · rw [if_neg h]
    refine ⟨by simpa using h, fun c hc => ?_, by rw [List.length_map]; omega⟩
    obtain ⟨z, hz, rfl⟩ := List.mem_map.mp hc
    refine ⟨ab_nonneg z, ?_⟩
    have := sm_bits (hb z hz)
    unfold Sm at this ⊢
    rw [ab_natAbs]
    exact this
theorem Bag.up {cells : List Int} {n T T' : Nat} {st : Store} (h : Bag cells n T st) (l : T ≤ T') : Bag cells n T' st := by
  obtain ⟨t, r, h1, h2, h3, h4⟩ := h.at_
  exact ⟨t, r, h1, h2, by omega, h4⟩
section
variable {W k : Nat} {st : Store} {p : Int}
def plE : Ex := .lst false [(.c (.int 2)), (.c (.int 3)), (.c (.int 5)), (.c (.int 7)), (.c (.int 11)), (.c (.int 13)), (.c (.int 17)), (.c (.int 19)), (.c (.int 23)), (.c (.int 29)), (.c (.int 31)), (.c (.int 37)), (.c (.int 41)), (.c (.int 43)), (.c (.int 47)), (.c (.int 53)), (.c (.int 59)), (.c (.int 61)), (.c (.int 67)), (.c (.int 71)), (.c (.int 73)), (.c (.int 79)), (.c (.int 83)), (.c (.int 89)), (.c (.int 97))]
theorem pl_ok {env : En} : (ev (PR W) (k + 5)).E plE env st = .ok (.lst (primes.map .int)) st := by
  unfold plE
  simp [primes]
  decide
def s34_2 : Pv.Sm := .ite (.cmp .gt (.call 23 [(.v 1), (.c (.int 3))]) (.c (.int 0))) [.set (.n 2) (.idx plE (.call 23 [(.v 1), (.c (.int 25))]))] []
theorem c_prime {cells : List Int} (hc : CellsOk cells) {o : SO} (hb : Bag cells 0 0 [o]) {a0 : Option PV} {r : List (Option PV)} : ∃ (p : Int) (o' : SO), Fd p ∧ Bag cells 0 2 [o'] ∧ ∀ k, (ev (PR W) (k + 40)).S s34_2 (a0 :: some (.ref 0) :: some (.int 0) :: r) [o] = .ok (.nx, a0 :: some (.ref 0) :: some (.int p) :: r) [o'] := by
  obtain ⟨d1, s1, e1, x1, x2, b1, ⟨o1, rfl⟩⟩ := c_draw (W := W) (L := 3) hc hb (by decide) (by decide) ((show Sm 3 3 by unfold Sm; decide).mono (by decide))
  simp only [List.set_cons_zero] at e1 b1
  by_cases h : 0 < d1
  · obtain ⟨d2, s2, e2, y1, y2, b2, ⟨o2, rfl⟩⟩ := c_draw (W := W) (L := 25) hc b1 (by decide) (by decide) ((show Sm 5 25 by unfold Sm; decide).mono (by decide))
    simp only [List.set_cons_zero] at e2 b2
    have hl : d2.toNat < primes.length := by
      have : primes.length = 25 := rfl
      omega
    have ai := atI_ints (l := primes) y1 hl
    have hm := getD_in hl
    have pl := fun k (env : En) => pl_ok (W := W) (k := k) (st := [o1]) (env := env)
    refine ⟨_, o2, .inr hm, b2, fun k => ?_⟩
    unfold s34_2
    simp [df23, e1, h, pl, e2, ai, asg]
  · refine ⟨0, o1, .inl rfl, b1.up (by decide), fun k => ?_⟩
    unfold s34_2
    simp [df23, e1, h]
def s34_3 : Pv.Sm := .set (.n 3) (.ite (.cmp .eq (.v 2) (.c (.int 0))) (.new 0 false []) (.new 0 false [(.v 2)]))
theorem c_field (F : Fd p) {a0 a1 a3 : Option PV} {r : List (Option PV)} : (ev (PR W) (k + 70)).S s34_3 (a0 :: a1 :: some (.int p) :: a3 :: r) st = .ok (.nx, a0 :: a1 :: some (.int p) :: some (FV p) :: r) st := by
  unfold s34_3
  by_cases h : p = 0
  · subst h
    have := fun k (env : En) => f_new0 (W := W) (k := k) (st := st) (env := env)
    rw [show fld .non (.tup []) = FV 0 from rfl] at this
    simp [-E_new, this, asg]
  · have hm := F.resolve_left h
    have := fun k => f_new (W := W) (k := k) (st := st) (e := .v 2) (env := a0 :: a1 :: some (.int p) :: a3 :: r) hm (by simp)
    rw [show fld (.int p) (.tup ((invL p (p - 2).toNat).map .int)) = FV p by unfold FV; rw [if_neg h]] at this
    simp [-E_new, h, this, asg]
def s34_4 : Pv.Sm := .ite (.or (.cmp .ne (.attr (.v 3) "prime") (.ite (.cmp .eq (.v 2) (.c (.int 0))) (.c .non) (.v 2))) (.or (.cmp .ne (.g 0) (.tup [(.c (.int 0)), (.c (.int 1))])) (.cmp .ne (.g 1) (.tup [(.c (.int 1)), (.c (.int 1))])))) [.ret (.c (.bl false))] []
theorem c_test (F : Fd p) {a0 a1 : Option PV} {r : List (Option PV)} : (ev (PR W) (k + 30)).S s34_4 (a0 :: a1 :: some (.int p) :: some (FV p) :: r) st = .ok (.nx, a0 :: a1 :: some (.int p) :: some (FV p) :: r) st := by
  have g0 : (PR W).gl[0]? = some (.tup [.int 0, .int 1]) := rfl
  have g1 : (PR W).gl[1]? = some (.tup [.int 1, .int 1]) := rfl
  have n0 := ne_num (st := st) (0, 1)
  have n1 := ne_num (st := st) (1, 1)
  have nn : cmpR .ne .non .non st = some false := cmp_ne_same (d := .none) rfl rfl rfl
  simp only [num] at n0 n1
  unfold s34_4
  by_cases h : p = 0
  · subst h
    simp [insOf_FV, pw, g0, g1, n0, n1, nn]
  · simp [insOf_FV, pw, h, g0, g1, n0, n1]
/-! ### the law -/
theorem law_says {ns : List Int} (hl : ns.length ≤ 63) (hb : ∀ z ∈ ns, Builtin.Int.intBits z ≤ 1048576) : ∃ W st', (ev (PR W) (k + 190)).call 34 [.scr ns] [] = .ok (.bl true) st' := by
  obtain ⟨W, hW⟩ : ∃ W : Nat, 2 ^ 8000 ≤ W := ⟨2 ^ 8000, Nat.le_refl _⟩
  have hc := cells_ok hl hb
  have bg := fun k => c_bag (W := W) (k := k) hl
  have b0 : Bag (cellsOf ns) 0 0 [bagO (cellsOf ns) 0 0] := ⟨0, 0, rfl, by decide, by decide, by decide⟩
  obtain ⟨p, o, F, b1, cp⟩ := c_prime (W := W) hc b0 (a0 := some (.scr ns)) (r := [none, none, none, none, none, none, none, none, none, none, none])
  -- the numbers
  obtain ⟨env', st', e, L, o', rfl, b2, hL, nL, z5, z6, z7, z8, z9, z10, z11, z12, z13, rfl⟩ := for_inv (r := ev (PR W) (k + 188)) (tg := .n 5) (b := t34) (g := fun _ => True) (xs := (List.range 3).map fun (i : Nat) => PV.int i)
    (env := [some (.scr ns), some (.ref 0), some (.int p), some (FV p), some (.ref 1), none, none, none, none, none, none, none, none, none]) (st := [o, .lst []])
    (fun i env s' => ∃ (L : List (Int × Int)) (o' : SO), s' = [o', .lst (L.map num)] ∧ Bag (cellsOf ns) 0 (2 + 6 * i) s' ∧ L.length = i ∧ (∀ x ∈ L, Nm p x) ∧ ∃ z5 z6 z7 z8 z9 z10 z11 z12 z13 : Option PV, env = [some (.scr ns), some (.ref 0), some (.int p), some (FV p), some (.ref 1), z5, z6, z7, z8, z9, z10, z11, z12, z13])
    ⟨[], o, rfl, by obtain ⟨t, r, h1, h2⟩ := b1.at_; exact ⟨t, r, h1, h2⟩, rfl, fun x hx => by simp at hx, _, _, _, _, _, _, _, _, _, rfl⟩ (fun _ _ _ _ _ => trivial)
    (fun i y env s' hy ⟨L, o', e1, h1, h2, h3, z5, z6, z7, z8, z9, z10, z11, z12, z13, e2⟩ => by
      subst e1 e2
      have hi : i < 3 := by
        have := (List.getElem?_eq_some_iff.mp hy).1
        simpa using this
      obtain ⟨o2, x, b6, b7, b8, b9, q, bb, nx⟩ := c_turn (W := W) (k := k + 88) hc F hW (T := 2 + 6 * i) (by omega) h1 (by omega) h3 (ns := ns) (a5 := some y) (a6 := z6) (a7 := z7) (a8 := z8) (a9 := z9) (a10 := z10) (a11 := z11) (a12 := z12) (a13 := z13)
      refine ⟨_, rfl, _, _, .inl q, L ++ [x], o2, rfl, bb, by simp [h2], fun w hw => ?_, _, _, _, _, _, _, _, _, _, rfl⟩
      rcases List.mem_append.mp hw with hw | hw
      · exact h3 w hw
      · rw [List.mem_singleton] at hw
        rw [hw]
        exact nx)
  -- all pairs
  have hS : ([o', .lst (L.map num)] : Store)[1]? = some (.lst (L.map num)) := rfl
  obtain ⟨env', st', e2, ⟨ext, rfl⟩, y8, y10, y11, y12, rfl⟩ := for_inv (r := ev (PR W) (k + 188)) (tg := .n 10) (b := u34) (g := fun st' => seqOf st' (.ref 1) = some (false, L.map num)) (xs := L.map num)
    (env := [some (.scr ns), some (.ref 0), some (.int p), some (FV p), some (.ref 1), z5, z6, z7, z8, z9, z10, z11, z12, z13]) (st := [o', .lst (L.map num)])
    (fun i env s' => (∃ ext, s' = [o', .lst (L.map num)] ++ ext) ∧ ∃ y8 y10 y11 y12 : Option PV, env = [some (.scr ns), some (.ref 0), some (.int p), some (FV p), some (.ref 1), z5, z6, z7, y8, z9, y10, y11, y12, z13])
    ⟨⟨[], by simp⟩, _, _, _, _, rfl⟩ (fun i env s' _ ⟨⟨ext, e⟩, _⟩ => by subst e; exact seqOf_ref (app_get hS))
    (fun i y env s' hy ⟨⟨ext, e1⟩, y8, y10, y11, y12, e2⟩ => by
      subst e1 e2
      obtain ⟨w, hw, rfl, hm⟩ := get_map hy
      obtain ⟨ext2, b8, b11, b12, q⟩ := out34 (W := W) (k := k + 48) F hW (S := [o', .lst (L.map num)] ++ ext) (app_get hS) nL hm (a0 := some (.scr ns)) (a1 := some (.ref 0)) (a5 := z5) (a6 := z6) (a7 := z7) (a8 := y8) (a9 := z9) (a11 := y11) (a12 := y12) (a13 := z13)
      exact ⟨_, rfl, _, _, .inl q, ⟨ext ++ ext2, by rw [List.append_assoc]⟩, _, _, _, _, rfl⟩)
  have wk1 : walk .rng1 [.int 3] [o, .lst []] = some ((List.range 3).map fun (i : Nat) => PV.int i, fun _ => True) := walk_rng1 (by decide) (by decide)
  have wk2 : walk .seq [.ref 1] [o', .lst (L.map num)] = some (L.map num, fun st' => seqOf st' (.ref 1) = some (false, L.map num)) := walk_ref hS
  have cf := fun k (a0 a1 a3 : Option PV) (r : List (Option PV)) => c_field (W := W) (k := k) (st := [o]) F (a0 := a0) (a1 := a1) (a3 := a3) (r := r)
  have ct := fun k (a0 a1 : Option PV) (r : List (Option PV)) => c_test (W := W) (k := k) (st := [o]) F (a0 := a0) (a1 := a1) (r := r)
  have dn : done [] false (.bl true) ([o', .lst (L.map num)] ++ ext) = .ok (.bl true) [] := by
    have := done_bl (st := []) (b := true) (ext := [o', .lst (L.map num)] ++ ext)
    rwa [List.nil_append] at this
  simp only [List.cons_append, List.nil_append] at dn
  refine ⟨W, [], ?_⟩
  have hd : (PR W).df[34]? = some ⟨1, [], 14, false, [.set (.n 1) (.call 22 [(.v 0)]), .set (.n 2) (.c (.int 0)), s34_2, s34_3, s34_4, .set (.n 4) (.lst true []), .for_ (.n 5) .rng1 [(.c (.int 3))] t34, .for_ (.n 10) .seq [(.v 4)] u34, .ret (.or (.cmp .gt (.v 2) (.c (.int 0))) (.call 33 [(.v 4)]))]⟩ := rfl
  rw [C_call]
  by_cases h0 : p = 0
  · subst h0
    have cr := c_right (W := W) (k := k + 56) (st := [o', .lst (L.map num)] ++ ext) (nn := 1) (app_get hS) nL (by rw [hL]; decide) (fun z => by subst z; simp at hL) hW
    simp only [List.cons_append, List.nil_append] at cr
    simp [stepC, hd, df22, df33, bg, asg, cp, cf, ct, S_for, wk1, wk2, e, e2, cr, dn]
  · have hp : 0 < p := by have := F.nn; omega
    simp [stepC, hd, df22, bg, asg, cp, cf, ct, S_for, wk1, wk2, e, e2, hp, dn]
theorem says {ns : List Int} (hl : ns.length ≤ 63) (hb : ∀ z ∈ ns, Builtin.Int.intBits z ≤ 1048576) : LawSays PR 34 200 ns := law_says (k := 10) hl hb
end
end Lk

open PySem PySem.W PyProof.Rows
set_option maxRecDepth 100000 in
set_option maxHeartbeats 0 in
theorem PySem.Challenge.cw_untaughthelm_k00_numbers_of_every_field_holds : PySem.Challenge.rw_untaughthelm_k00_numbers_of_every_field.Holds := by
  exact Lk.holds_of (fun _ hl hb => Lk.says hl hb)
