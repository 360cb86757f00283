import PyProof.Rows.All
import Wide.All
import OpenK.AllK
import Wide.FinOn
import PySem.Syntax
import PySem.PyData
import PyProof.ReprReads
import PyProof.P3Statements
import PyProof.EqLayable
import HandS.Wide
import HandS.List
import HandS.ForMost
import HandS.Conv
import HandS.TupAny
import HandS.TupMul
import HandS.Style
import HandS.IsInst
import HandS.Zip
import HandS.Strs
import HandS.RaiseMore
import HandS.Deep
import PyProof.NeKinds
import PyProof.FactsAll.dict
import HandS.Flt
import PyProof.FitsInt
import HandS.SortInts
import PyProof.StrLawsRepr
import PyProof.LongRange
import PyProof.TypeEq
import PyProof.TypeOfCall
import KE.GoesEnum
import KE.DataFind
import HandS.SetFor
import HandS.SetBool
import HandS.Dict
import HandS.DictTup
import HandS.HeadWalk
import HandS.Star
import HandS.Text
import PyProof.StrOps2
import HandS.Gcd
import KE.KMathGC
import HandS.SortKw
import KE.DatumOrd
import KE.KTupSum
import HandS.Exc
import HandS.TryOnly
import HandS.ExcOwn
import HandS.Small
import HandS.FStr
import HandS.ExcIs
import HandS.Defaults
import PySem.Challenge.RW_agohands_k32_whole_counts_and_kths
set_option Elab.async false
set_option linter.all false
set_option maxRecDepth 100000
set_option maxHeartbeats 1000000
/-! Words of a small program over plain data: its data, its trees, how they run. -/
namespace AG
open PySem

/-- data: tuples and settled lists are trees; ref k is the k-th cell of the store (a list that may change) -/
inductive Ky where
  | i (i : Int) | s (s : Str) | t (is : List Int)
  deriving DecidableEq, Inhabited
/-- data; cells of the store: ref k a list, obj c k an object of the class c, dct t k a dict (t: its keys are tuples) -/
inductive D where
  | non | bl (b : Bool) | int (i : Int) | str (s : Str) | tup (xs : List D) | lst (xs : List D) | fro (xs : List D) | ref (k : Nat) | ty (n : String)
  | dic (t : Bool) (ks : List Ky) (vs : List D) | obj (c : String) (k : Nat) | dct (t : Bool) (k : Nat) | set (is : List Int) | frd (ks : List Ky) (vs : List D) | exc (c : String)
  deriving Inhabited
abbrev Sto := List (Option (List D))
abbrev Env := List (Option D)
inductive Rs (α : Type) where
  | bad | ok (a : α) (S : Sto) | exc (c : String) (S : Sto)
abbrev M (α : Type) := Sto → Rs α
def ret {α : Type} (a : α) : M α := fun S => .ok a S
def bad {α : Type} : M α := fun _ => .bad
def Rs.then {α β : Type} (r : Rs α) (f : α → M β) : Rs β := match r with
  | .bad => .bad
  | .ok a S => f a S
  | .exc c S => .exc c S
def bnd {α β : Type} (m : M α) (f : α → M β) : M β := fun S => (m S).then f
theorem bnd_ok {α β : Type} {m : M α} {f : α → M β} {S : Sto} {b : β} {S' : Sto} (h : bnd m f S = .ok b S') : ∃ a S1, m S = .ok a S1 ∧ f a S1 = .ok b S' := by
  unfold bnd at h
  cases e : m S with
  | bad => rw [e] at h; cases h
  | ok a S1 => rw [e] at h; exact ⟨a, S1, rfl, h⟩
  | exc c S1 => rw [e] at h; cases h
theorem bnd_exc {α β : Type} {m : M α} {f : α → M β} {S : Sto} {c : String} {S' : Sto} (h : bnd m f S = .exc c S') : m S = .exc c S' ∨ ∃ a S1, m S = .ok a S1 ∧ f a S1 = .exc c S' := by
  unfold bnd at h
  cases e : m S with
  | bad => rw [e] at h; cases h
  | ok a S1 => rw [e] at h; exact .inr ⟨a, S1, rfl, h⟩
  | exc c' S1 => rw [e] at h; cases h; exact .inl rfl
/-- no exception leaves it -/
def noX {α : Type} (m : M α) : M α := fun S => match m S with
  | .exc _ _ => .bad
  | r => r
theorem noX_ok {α : Type} {m : M α} {S : Sto} {a : α} {S' : Sto} (h : noX m S = .ok a S') : m S = .ok a S' := by
  unfold noX at h
  cases e : m S with
  | bad => rw [e] at h; cases h
  | ok a S1 => rw [e] at h; exact h
  | exc c S1 => rw [e] at h; cases h
theorem noX_exc {α : Type} {m : M α} {S : Sto} {c : String} {S' : Sto} (h : noX m S = .exc c S') : False := by
  unfold noX at h
  cases e : m S with
  | bad => rw [e] at h; cases h
  | ok a S1 => rw [e] at h; cases h
  | exc c S1 => rw [e] at h; cases h
theorem bnd_mk {α β : Type} {m : M α} {f : α → M β} {S : Sto} {a : α} {S1 : Sto} {r : Rs β} (h : m S = .ok a S1) (k : f a S1 = r) : bnd m f S = r := by
  unfold bnd
  rw [h]
  exact k
def need {α : Type} (c : Bool) (m : M α) : M α := if c then m else bad
theorem need_ok {α : Type} {c : Bool} {m : M α} {S : Sto} {a : α} {S' : Sto} (h : need c m S = .ok a S') : c = true ∧ m S = .ok a S' := by
  cases c with
  | true => exact ⟨rfl, h⟩
  | false => cases h
def opt {α : Type} (o : Option α) : M α := match o with
  | some a => ret a
  | none => bad
theorem opt_ok {α : Type} {o : Option α} {S : Sto} {a : α} {S' : Sto} (h : opt o S = .ok a S') : o = some a ∧ S' = S := by
  cases o with
  | none => cases h
  | some b => cases h; exact ⟨rfl, rfl⟩
theorem ret_ok {α : Type} {b : α} {S : Sto} {a : α} {S' : Sto} (h : ret b S = .ok a S') : b = a ∧ S = S' := by
  cases h; exact ⟨rfl, rfl⟩

/-! ### data as the library's data -/
mutual
def toPy : D → Option PyData
  | .non => some .none
  | .bl b => some (.bool b)
  | .int i => some (.int i)
  | .str s => some (.str s)
  | .tup xs => (toPys xs).map PyData.tuple
  | .lst xs => (toPys xs).map PyData.list
  | .fro _ => none
  | .ref _ => none
  | .ty _ => none
  | .dic _ _ _ => none
  | .obj _ _ => none
  | .dct _ _ => none
  | .set _ => none
  | .frd _ _ => none
  | .exc _ => none
def toPys : List D → Option (List PyData)
  | [] => some []
  | x :: xs => match toPy x, toPys xs with
    | some p, some ps => some (p :: ps)
    | _, _ => none
end
/-! how great the text of a datum may be -/
mutual
def cost : PyData → Nat
  | .none => 8
  | .bool _ => 8
  | .int i => if i.natAbs < 1000000 then 8 else if i.natAbs < 2 ^ 128 then 64 else 100000000
  | .str s => if s.cps.toList.all (fun c => decide (c < 4294967296)) then 10 * s.length + 8 else 100000000
  | .list xs => costs xs + 8
  | .tuple xs => costs xs + 8
  | .dict kvs => if kvs.isEmpty then 8 else 100000000
def costs : List PyData → Nat
  | [] => 0
  | x :: xs => cost x + costs xs + 4
end
def optAll {α : Type} : List (Option α) → Option (List α)
  | [] => some []
  | some a :: r => (optAll r).map (a :: ·)
  | none :: _ => none
/-- the same, lists that may change as they stand now -/
def toPyN (S : Sto) : Nat → D → Option PyData
  | 0, _ => none
  | n + 1, d => match d with
    | .tup xs => (optAll (xs.map (toPyN S n))).map PyData.tuple
    | .lst xs => (optAll (xs.map (toPyN S n))).map PyData.list
    | .ref k => match S[k]? with
      | some (some xs) => (optAll (xs.map (toPyN S n))).map PyData.list
      | _ => none
    | d => toPy d
mutual
/-- the same, with empty dicts that change no more -/
def toPyE : D → Option PyData
  | .non => some .none
  | .bl b => some (.bool b)
  | .int i => some (.int i)
  | .str s => some (.str s)
  | .tup xs => (toPyEs xs).map PyData.tuple
  | .lst xs => (toPyEs xs).map PyData.list
  | .dic false [] [] => some (.dict [])
  | _ => none
def toPyEs : List D → Option (List PyData)
  | [] => some []
  | x :: xs => match toPyE x, toPyEs xs with
    | some p, some ps => some (p :: ps)
    | _, _ => none
end
def reprE (d : D) : M D := match toPyE d with
  | some p => need (p.showable && decide (cost p ≤ 1000000) && decide (p.depth ≤ 60)) (ret (.str p.shown))
  | none => bad
def reprD (d : D) : M D := match toPy d with
  | some p => need (p.showable && decide (cost p ≤ 1000000) && decide (p.depth ≤ 60)) (ret (.str p.shown))
  | none => fun S => match toPyN S 50 d with
    | some p => need (p.showable && decide (cost p ≤ 1000000) && decide (p.depth ≤ 60)) (ret (.str p.shown)) S
    | none => reprE d S
def eqG (a b : D) : M Bool := match toPy a, toPy b with
  | some p, some q => need (SeqAt.shaped p && SeqAt.shaped q) (ret (PyData.eqv p q))
  | _, _ => fun S => match toPyN S 50 a, toPyN S 50 b with
    | some p, some q => need (SeqAt.shaped p && SeqAt.shaped q) (ret (PyData.eqv p q)) S
    | _, _ => .bad
/-- the cell k's list -/
def getC (k : Nat) : M (List D) := fun S => match S[k]? with
  | some (some xs) => .ok xs S
  | _ => .bad
def eqD (a b : D) : M Bool := match a, b with
  | .int i, .int j => ret (decide (i = j))
  | .str s, .str t => ret (decide (s = t))
  | .bl s, .bl t => ret (decide (s = t))
  | .lst (_ :: _), .lst [] => ret false
  | .tup (_ :: _), .tup [] => ret false
  | .dic false _ _, .str _ => ret false
  | .tup _, .str _ => ret false
  | .lst _, .str _ => ret false
  | .ref k, .lst [] => bnd (getC k) fun xs => ret xs.isEmpty
  | a, b => eqG a b

/-! ### operators by values -/
def big (i : Int) : Bool := decide (i.natAbs < 2 ^ 200)
def small (n : Nat) : Bool := decide (n ≤ 1000000)
def addD (a b : D) : M D := match a, b with
  | .int i, .int j => ret (.int (i + j))
  | .tup xs, .tup ys => need (small xs.length && small ys.length) (ret (.tup (xs ++ ys)))
  | .lst xs, .lst ys => need (small xs.length && small ys.length) (ret (.lst (xs ++ ys)))
  | .fro xs, .lst ys => need (small xs.length && small ys.length) (ret (.lst (xs ++ ys)))
  | _, _ => bad
def subD (a b : D) : M D := match a, b with
  | .int i, .int j => ret (.int (i - j))
  | _, _ => bad
def mulD (a b : D) : M D := match a, b with
  | .int i, .int j => need (big i && big j) (ret (.int (i * j)))
  | .tup xs, .int k => need (decide (-1000000 ≤ k) && (xs.isEmpty || decide (1 ≤ k)) && decide (k ≤ 1000000) && decide (xs.length * k.toNat ≤ 1000000)) (ret (.tup (List.replicate k.toNat xs).flatten))
  | .lst xs, .int k => need (decide (-1000000 ≤ k) && decide (k ≤ 1000000) && decide (xs.length * k.toNat ≤ 1000000)) (ret (.lst (List.replicate k.toNat xs).flatten))
  | _, _ => bad
/-- a list so many times, into a new cell -/
def mulLD (m : Bool) (a b : D) : M D := bnd (mulD a b) fun d => match d with
  | .lst xs => if m then (fun S => .ok (.ref S.length) (S ++ [some xs])) else ret d
  | _ => bad
def divD (a b : D) : M D := match a, b with
  | .int i, .int j => need (decide (0 < j) && big j) (ret (.int (i / j)))
  | _, _ => bad
def modD (a b : D) : M D := match a, b with
  | .int i, .int j => need (decide (0 < j)) (ret (.int (i % j)))
  | _, _ => bad
def powD (a b : D) : M D := match a, b with
  | .int i, .int j => need (decide (0 ≤ j) && decide (j ≤ 1000) && decide (i.natAbs < 2 ^ 64)) (ret (.int (i ^ j.toNat)))
  | _, _ => bad
/-- powers of greater numbers -/
def powWD (a b : D) : M D := match a, b with
  | .int i, .int j => need (decide (0 ≤ j) && decide ((Builtin.Int.intBits i : Int) * j ≤ 2 ^ 27)) (ret (.int (i ^ j.toNat)))
  | _, _ => bad
def bandD (a b : D) : M D := match a, b with
  | .int i, .int j => ret (.int (Builtin.bitAnd i j))
  | _, _ => bad
def binD (o : Operator) (a b : D) : M D := match o with
  | .Add => addD a b
  | .Sub => subD a b
  | .Mult => mulD a b
  | .FloorDiv => divD a b
  | .Mod => modD a b
  | .Pow => powD a b
  | .BitAnd => bandD a b
  | _ => bad
def ltD (a b : D) : M Bool := match a, b with
  | .int i, .int j => ret (decide (i < j))
  | _, _ => bad
def leD (a b : D) : M Bool := match a, b with
  | .int i, .int j => ret (decide (i ≤ j))
  | _, _ => bad
def isNonD : D → Bool
  | .non => true
  | _ => false
/-- is: of two truths, or of a thing and None -/
def isD (a b : D) : M Bool := match b with
  | .bl j => match a with
    | .bl i => ret (decide (i = j))
    | _ => bad
  | .non => ret (isNonD a)
  | _ => bad
def notB (m : M Bool) : M Bool := bnd m fun k => ret (!k)
/-- a thing in a list -/
def listD (b : D) : M (List D) := match b with
  | .ref k => getC k
  | .lst xs => ret xs
  | .tup xs => ret xs
  | _ => bad
def hasL (a b : D) : M Bool := bnd (listD b) fun xs => match toPy a, toPys xs with
  | some p, some ps => need (SeqAt.shaped p && SeqAt.shaped (.list ps)) (ret (ps.any fun z => PyData.eqv z p))
  | _, _ => bad
/-- an int in a set of ints -/
def hasS (a : D) (is : List Int) : M Bool := match a with
  | .int i => ret (decide (i ∈ is))
  | _ => bad
def hasD (a b : D) : M Bool := match b with
  | .set is => hasS a is
  | b => hasL a b
def cmpD (o : CmpOp) (a b : D) : M Bool := match o with
  | .Eq => eqD a b
  | .NotEq => notB (eqD a b)
  | .Lt => ltD a b
  | .LtE => leD a b
  | .Gt => ltD b a
  | .GtE => leD b a
  | .Is => isD a b
  | .IsNot => notB (isD a b)
  | .In => hasD a b
  | .NotIn => notB (hasD a b)
def truD (a : D) : M Bool := match a with
  | .bl b => ret b
  | .non => ret false
  | .int i => ret (i != 0)
  | .tup xs => ret (!xs.isEmpty)
  | .lst xs => ret (!xs.isEmpty)
  | .str s => need (small s.length) (ret (s.length != 0))
  | _ => bad
def setC (k : Nat) (xs : List D) : M Unit := fun S => match S[k]? with
  | some (some _) => .ok () (S.set k (some xs))
  | _ => .bad
def newC (xs : List D) : M D := fun S => .ok (.ref S.length) (S ++ [some xs])
/-- a list made: settled, or a new cell -/
def mkL (m : Bool) (xs : List D) : M D := if m then newC xs else ret (.lst xs)
/-- the items of a list or a tuple -/
def itemsD (a : D) : M (List D) := match a with
  | .tup xs => ret xs
  | .lst xs => ret xs
  | .fro xs => ret xs
  | .ref k => getC k
  | _ => bad
def ixD (a i : D) : M D := match i with
  | .int j => bnd (itemsD a) fun xs => opt (L2.atI xs j)
  | _ => bad
def cutD (xs : List D) (lo hi : Option Int) : List D := (xs.drop (HT.sIx xs.length 0 lo)).take (HT.sIx xs.length xs.length hi - HT.sIx xs.length 0 lo)
def slD (m : Bool) (a : D) (lo hi : Option Int) : M D := match a with
  | .tup xs => ret (.tup (cutD xs lo hi))
  | .lst xs => mkL m (cutD xs lo hi)
  | .fro xs => mkL m (cutD xs lo hi)
  | .ref k => bnd (getC k) fun xs => mkL m (cutD xs lo hi)
  | _ => bad
inductive Bi where
  | max1 | len | max2 | min2 | min3 | tup | lst | repr | all | sum | sorted | int | strf
  deriving DecidableEq, Repr
def allD : List D → Option Bool
  | [] => some true
  | .bl b :: r => match allD r with
    | some c => some (b && c)
    | none => none
  | _ :: _ => none
def lenB (ds : List D) : M D := match ds with
  | [a] => bnd (itemsD a) fun xs => ret (.int xs.length)
  | _ => bad
def maxB (ds : List D) : M D := match ds with
  | [.int i, .int j] => ret (.int (if j > i then j else i))
  | _ => bad
def minB (ds : List D) : M D := match ds with
  | [.int i, .int j] => ret (.int (if j < i then j else i))
  | _ => bad
def min3B (ds : List D) : M D := match ds with
  | [.int i, .int j, .int k] => ret (.int (if k < (if j < i then j else i) then k else (if j < i then j else i)))
  | _ => bad
def tupB (ds : List D) : M D := match ds with
  | [a] => bnd (itemsD a) fun xs => ret (.tup xs)
  | _ => bad
def lstB (ds : List D) : M D := match ds with
  | [a] => bnd (itemsD a) fun xs => ret (.lst xs)
  | _ => bad
def reprB (ds : List D) : M D := match ds with
  | [a] => reprD a
  | _ => bad
def allB (ds : List D) : M D := match ds with
  | [.lst xs] => bnd (opt (allD xs)) fun k => ret (.bl k)
  | _ => bad
def intsOf : List D → Option (List Int)
  | [] => some []
  | .int i :: r => match intsOf r with
    | some l => some (i :: l)
    | none => none
  | _ :: _ => none
def maxI : List Int → Option Int
  | [] => none
  | i :: r => match maxI r with
    | some m => some (max i m)
    | none => some i
def sumB (ds : List D) : M D := match ds with
  | [.lst xs] => match intsOf xs with
    | some ns => need (decide (ns.length ≤ 1000000) && ns.all fun n => decide (n.natAbs < 2 ^ 100)) (ret (.int ns.sum))
    | none => bad
  | [.tup xs] => match intsOf xs with
    | some ns => need (decide (ns.length ≤ 1000000) && ns.all fun n => decide (n.natAbs < 2 ^ 100)) (ret (.int ns.sum))
    | none => bad
  | _ => bad
def insI (i : Int) : List Int → List Int
  | [] => [i]
  | j :: r => if i ≤ j then i :: j :: r else j :: insI i r
def sortI : List Int → List Int
  | [] => []
  | i :: r => insI i (sortI r)
def sortB (ds : List D) : M D := match ds with
  | [.lst xs] => match intsOf xs with
    | some ns => need (decide (ns.length ≤ 1000000)) (ret (.lst ((sortI ns).map D.int)))
    | none => bad
  | _ => bad
def max1B (ds : List D) : M D := match ds with
  | [.lst xs] => match intsOf xs with
    | some ns => match maxI ns with
      | some m => ret (.int m)
      | none => bad
    | none => bad
  | _ => bad
def maxdD (j : Int) (d : D) : M D := match d with
  | .lst xs => match intsOf xs with
    | some ns => match maxI ns with
      | some m => ret (.int m)
      | none => ret (.int j)
    | none => bad
  | _ => bad
def lcmB (ds : List D) : M D := match ds with
  | [.int i, .int j] => need (decide (0 ≤ i) && decide (i < 2 ^ 60) && decide (0 ≤ j) && decide (j < 2 ^ 60)) (ret (.int (Nat.lcm i.toNat j.toNat : Nat)))
  | _ => bad
def intB (ds : List D) : M D := match ds with
  | [.int i] => ret (.int i)
  | [.bl k] => ret (.int (if k then 1 else 0))
  | _ => bad
def strfB (ds : List D) : M D := match ds with
  | [.int i] => need (decide (i.natAbs.log2 < 1920)) (ret (.str (toString i : String)))
  | _ => bad
def biD (b : Bi) (ds : List D) : M D := match b with
  | .max1 => max1B ds
  | .len => lenB ds
  | .max2 => maxB ds
  | .min2 => minB ds
  | .min3 => min3B ds
  | .tup => tupB ds
  | .lst => lstB ds
  | .repr => reprB ds
  | .all => allB ds
  | .sum => sumB ds
  | .sorted => sortB ds
  | .int => intB ds
  | .strf => strfB ds
def rngL (i : Int) (n : Nat) : List D := (List.range n).map fun k => D.int (i + (k : Nat))
inductive Ty5 where
  | int | bool | str | tuple | list
  deriving DecidableEq, Repr
def Ty5.name : Ty5 → String
  | .int => "int" | .bool => "bool" | .str => "str" | .tuple => "tuple" | .list => "list"
def isiD (a : D) (T : Ty5) : M Bool := match a with
  | .non => ret false
  | .bl _ => ret (T == .bool || T == .int)
  | .int _ => ret (T == .int)
  | .str _ => ret (T == .str)
  | .tup _ => ret (T == .tuple)
  | .lst _ => ret (T == .list)
  | .dic false _ _ => ret false
  | .ref k => bnd (getC k) fun _ => ret (T == .list)
  | _ => bad
def typD (a : D) : M D := match a with
  | .non => ret (.ty "NoneType")
  | .bl _ => ret (.ty "bool")
  | .int _ => ret (.ty "int")
  | .str _ => ret (.ty "str")
  | .tup _ => ret (.ty "tuple")
  | .lst _ => ret (.ty "list")
  | .dic false _ _ => ret (.ty "dict")
  | .ref k => bnd (getC k) fun _ => ret (.ty "list")
  | _ => bad
def knTy : List String := ["NoneType", "bool", "int", "str", "tuple", "list", "dict"]
def tyEq (a b : D) : M Bool := match a, b with
  | .ty s, .ty t => need (knTy.contains s && knTy.contains t) (ret (decide (s = t)))
  | _, _ => bad
def revD (a : D) : M D := match a with
  | .tup xs => ret (.tup xs.reverse)
  | .lst xs => ret (.lst xs.reverse)
  | _ => bad

/-! ### trees -/
mutual
inductive Ex where
  | var (i : Nat) | int (i : Int) | bl (b : Bool) | non | str (s : Str) | glob (x : Str) (i : Int)
  | bin (o : Operator) (a b : Ex) | neg (a : Ex) | cmp (o : CmpOp) (a b : Ex) | chain (o o' : CmpOp) (a b c : Ex)
  | and (a b : Ex) | or (a b : Ex) | not (a : Ex) | ife (c a b : Ex)
  | tup (es : Exs) | lst (m : Bool) (es : Exs) | ix (a i : Ex) | sl (m : Bool) (a : Ex) (lo hi : Exo)
  | call (f : String) (es : Exs) | fld (c f : String) (o : Ex) | meth (f c m : String) (o : Ex) (es : Exs) | make (c f : String) (es : Exs) | dget (d k : Ex) | din (n : Bool) (k d : Ex) | dnew (t : Bool) | bi (b : Bi) (es : Exs) | lrg (m : Bool) (a : Ex) | trg (a : Ex)
  | isi (a : Ex) (T : Ty5) | tenp (a : Ex) | mulL (m : Bool) (a b : Ex) | popAt (o i : Ex) | idxOf (o e : Ex) | cntOf (o e : Ex) | lset (a : Ex) | powW (a b : Ex) | opq | tyeq (a : Ex) (T : Ty5) | lcm (x : Str) (es : Exs) | maxd (a : Ex) (j : Int) | dic0 | dic1 (i j : Int) | rev (a : Ex) | sset (a : Ex) | glast (x : String) (is : List Int) | addL (m : Bool) (a b : Ex) | lcA (m : Bool) (elt : Ex) (tg : Tg) (own : List Nat) (it : Ex) (cd : Exo)
  | lc (m : Bool) (elt : Ex) (tg : Tg) (own : List Nat) (it : It) (cd : Exo)
  | sc (elt : Ex) (tg : Tg) (own : List Nat) (it : It)
  | lc2 (m : Bool) (elt : Ex) (tg tg1 : Tg) (own own1 : List Nat) (it it1 : It)
inductive Exs where
  | nil | cons (e : Ex) (es : Exs) | star (e : Ex) (es : Exs)
inductive Exo where
  | no | yes (e : Ex)
inductive It where
  | seq (e : Ex) | rng (a : Ex) | rng3 (a b c : Ex) | itm (e : Ex) | rng2 (a b : Ex) | enm (e : Ex) | revl (e : Ex) | zip (a b : Ex) | gseq (x : String) (is : List Int)
inductive Tg where
  | name (i : Nat) | tup (is : List Nat) | pair (i : Nat) (is : List Nat)
end
/-- expressions out of which an exception may go -/
inductive Xe where
  | pl (e : Ex) | call (f : String) (es : Exs) | ife (c : Ex) (a b : Xe)
/-- what is done with a caught exception -/
inductive Hd where
  | set (i : Nat) (d : Ex) | ret (d : Ex) | isx (i : Nat) (ts : List String) (a b : Ex)
mutual
inductive Sm where
  | set (i : Nat) (e : Ex) | unp (is : List Nat) (e : Ex) | par (i j : Nat) (a b : Ex) | setix (o i e : Ex) | setfl (c f : String) (o e : Ex) | dput (o k e : Ex) | app (o e : Ex) | expr (e : Ex)
  | ret (e : Ex) | ife (c : Ex) (a b : Sms) | for (tg : Tg) (it : It) (b : Sms) | while (c : Ex) (b : Sms) | pass | opq | brk | cont | extd (o e : Ex) | forA (tg : Tg) (en : Bool) (e : Ex) (b : Sms) | settle (i : Nat) (s : Sm) | frz (i : Nat) (s : Sm)
  | rai (c : String) (v : Exo) | xset (i : Nat) (e : Xe) | xunp (is : List Nat) (e : Xe) | xret (e : Xe) | xexp (e : Xe) | xtry (b : Sms) (n : Option Nat) (c : String) (ks : List String) (h : Hd) | xb (ss : Sms)
inductive Sms where
  | nil | cons (s : Sm) (r : Sms)
end

/-! ### how they run -/
/-! dicts and objects -/
def keyI : List D → Option (List Int)
  | [] => some []
  | .int i :: r => match keyI r with
    | some l => some (i :: l)
    | none => none
  | _ :: _ => none
def keyD : D → Option Ky
  | .int i => some (.i i)
  | .str s => some (.s s)
  | .tup xs => match keyI xs with
    | some l => some (.t l)
    | none => none
  | _ => none
def Ky.isT : Ky → Bool
  | .t _ => true
  | _ => false
def lookY : List Ky → List D → Ky → Option D
  | k :: ks, v :: vs, q => if k = q then some v else lookY ks vs q
  | _, _, _ => none
/-- an object's attribute: in its place, or at the end -/
def putA : List Ky → List D → Ky → D → List Ky × List D
  | k :: ks, v :: vs, q, w => if k = q then (k :: ks, w :: vs) else ((k :: (putA ks vs q w).1), (v :: (putA ks vs q w).2))
  | _, _, q, w => ([q], [w])
def setY : List Ky → List D → Ky → D → List D
  | k :: ks, v :: vs, q, w => (if k = q then w else v) :: setY ks vs q w
  | _, _, _, _ => []
/-- a dict's entry: in its place, or at the end -/
def putY (ks : List Ky) (vs : List D) (q : Ky) (w : D) : List Ky × List D := if q ∈ ks then (ks, setY ks vs q w) else (ks ++ [q], vs ++ [w])
/-- what a dict or an object at the cell k has -/
def getK (k : Nat) : M (Bool × List Ky × List D) := bnd (getC k) fun xs => match xs with
  | [.dic t ks vs] => ret (t, ks, vs)
  | _ => bad
def fldD (c f : String) (x : D) : M D := match x with
  | .obj c' k => need (decide (c = c')) <| bnd (getK k) fun p => need (!p.1) (opt (lookY p.2.1 p.2.2 (.s f)))
  | _ => bad
def setflD (c f : String) (x v : D) : M Unit := match x with
  | .obj c' k => need (decide (c = c')) <| bnd (getK k) fun p => need (!p.1 && decide (p.2.1.length < 100)) (setC k [.dic false (putA p.2.1 p.2.2 (.s f) v).1 (putA p.2.1 p.2.2 (.s f) v).2])
  | _ => bad
/-- an object of the class, without an attribute of that name -/
def isO (c m : String) (x : D) : M Unit := match x with
  | .obj c' k => need (decide (c = c')) (bnd (getK k) fun p => need (!p.1 && (lookY p.2.1 p.2.2 (.s m)).isNone) (ret ()))
  | _ => bad
def newO (c : String) : M D := fun S => .ok (.obj c S.length) (S ++ [some [.dic false [] []]])
def newT (t : Bool) : M D := fun S => .ok (.dct t S.length) (S ++ [some [.dic t [] []]])
/-- a dict's entries, the place where it may change -/
def dicD (x : D) : M (Bool × List Ky × List D) := match x with
  | .dct t k => bnd (getK k) fun p => need (p.1 == t) (ret p)
  | .dic t ks vs => ret (t, ks, vs)
  | _ => bad
def dgetD (x k : D) : M D := bnd (dicD x) fun p => match keyD k with
  | some q => need (q.isT == p.1) (opt (lookY p.2.1 p.2.2 q))
  | none => bad
/-- the same, of a dict that changes no more too -/
def dgetF (x k : D) : M D := match x with
  | .frd ks vs => match keyD k with
    | some (.t is) => opt (lookY ks vs (.t is))
    | _ => bad
  | x => dgetD x k
/-- the pairs of a dict that changes no more -/
def itmL : List Ky → List D → List D
  | .t is :: ks, v :: vs => .tup [.tup (is.map D.int), v] :: itmL ks vs
  | _, _ => []
def dinD (x k : D) : M Bool := bnd (dicD x) fun p => match keyD k with
  | some q => need (q.isT == p.1) (ret (lookY p.2.1 p.2.2 q).isSome)
  | none => bad
def dputD (x k v : D) : M Unit := match x with
  | .dct t c => bnd (getK c) fun p => match keyD k with
    | some q => need (p.1 == t && q.isT == t && decide (p.2.1.length < 100000)) (setC c [.dic t (putY p.2.1 p.2.2 q v).1 (putY p.2.1 p.2.2 q v).2])
    | none => bad
  | _ => bad
def isNon (x : D) : M Unit := match x with
  | .non => ret ()
  | _ => bad
def setAll : List Nat → List D → Env → Option Env
  | [], [], ρ => some ρ
  | i :: is, d :: ds, ρ => setAll is ds (ρ.set i (some d))
  | _, _, _ => none
def asg (tg : Tg) (d : D) (ρ : Env) : Option Env := match tg, d with
  | .name i, d => some (ρ.set i (some d))
  | .tup is, .tup ds => setAll is ds ρ
  | .tup is, .lst ds => setAll is ds ρ
  | .pair i is, .tup [d, .tup ds] => setAll is ds (ρ.set i (some d))
  | _, _ => none
/-- the items, each behind its number -/
def enmL : Nat → List D → List D
  | _, [] => []
  | i, d :: ds => .tup [.int (i : Nat), d] :: enmL (i + 1) ds
def zipL : List D → List D → List D
  | x :: xs, y :: ys => .tup [x, y] :: zipL xs ys
  | _, _ => []
def zipD (x y : D) : M (List D) := match x, y with
  | .lst xs, .lst ys => ret (zipL xs ys)
  | .tup xs, .tup ys => ret (zipL xs ys)
  | _, _ => bad
def tenD (d : D) : M D := match d with
  | .int n => need (decide (0 ≤ n) && decide (n ≤ 40)) (ret (.int (10 ^ n.toNat)))
  | _ => bad
def wipeD (ρ : Env) : List Nat → Env
  | [] => ρ
  | i :: is => (wipeD ρ is).set i none
def getV (ρ : Env) (i : Nat) : M D := match ρ[i]? with
  | some (some d) => ret d
  | _ => bad
def lcL (elt : Env → M D) (tg : Tg) (cd : Env → M Bool) (ρ : Env) : List D → List D → M (List D)
  | [], acc => ret acc
  | x :: xs, acc => bnd (opt (asg tg x ρ)) fun ρ2 => bnd (cd ρ2) fun k =>
      if k then bnd (elt ρ2) fun y => need (small acc.length) (lcL elt tg cd ρ xs (acc ++ [y])) else lcL elt tg cd ρ xs acc
def lcL2 (elt : Env → M D) (tg tg1 : Tg) (mi1 : Env → M (List D)) (own1 : List Nat) (ρ : Env) : List D → List D → M (List D)
  | [], acc => ret acc
  | x :: xs, acc => bnd (opt (asg tg x ρ)) fun ρ2 => bnd (mi1 ρ2) fun ys => bnd (lcL elt tg1 (fun _ => ret true) (wipeD ρ2 own1) ys acc) fun acc2 => lcL2 elt tg tg1 mi1 own1 ρ xs acc2
/-- two lists behind one another, the first may change; a new list that changes, or not -/
def newL (m : Bool) (xs : List D) : M D := if m then (fun S => .ok (.ref S.length) (S ++ [some xs])) else ret (.lst xs)
def addLD (m : Bool) (a b : D) : M D := match a, b with
  | .lst xs, .lst ys => need (small xs.length && small ys.length) (newL m (xs ++ ys))
  | .ref k, .lst ys => bnd (getC k) fun xs => need (small xs.length && small ys.length) (newL m (xs ++ ys))
  | .lst xs, .ref k => bnd (getC k) fun ys => need (small xs.length && small ys.length) (newL m (xs ++ ys))
  | _, _ => bad
def isC (o : D) : M Unit := match o with
  | .ref k => bnd (getC k) fun _ => ret ()
  | .lst _ => ret ()
  | _ => bad
def popD (o i : D) : M D := match o, i with
  | .ref k, .int j => bnd (getC k) fun xs => match xs[j.toNat]? with
    | some y => need (decide (0 ≤ j) && decide (j < 1000000)) (bnd (setC k (xs.eraseIdx j.toNat)) fun _ => ret y)
    | none => bad
  | _, _ => bad
def idxD (o v : D) : M D := match o with
  | .ref k => bnd (getC k) fun xs => match toPy v, toPys xs with
    | some p, some ps => need (SeqAt.shaped p && SeqAt.shaped (.list ps)) (opt ((ps.findIdx? fun z => PyData.eqv z p).map fun j => D.int (j : Nat)))
    | _, _ => bad
  | .lst xs => match toPy v, toPys xs with
    | some p, some ps => need (SeqAt.shaped p && SeqAt.shaped (.list ps)) (opt ((ps.findIdx? fun z => PyData.eqv z p).map fun j => D.int (j : Nat)))
    | _, _ => bad
  | _ => bad
/-- how often a thing stands in a list -/
def cntD (o v : D) : M D := match o with
  | .ref k => bnd (getC k) fun xs => match toPy v, toPys xs with
    | some p, some ps => need (SeqAt.shaped p && SeqAt.shaped (.list ps)) (ret (.int ((ps.countP fun z => PyData.eqv z p : Nat) : Int)))
    | _, _ => bad
  | _ => bad
/-- how many unlike ones there are -/
def disL (ns : List Int) : List Int := ns.foldl PyProof.Rows.step_dedup []
def lsetL (xs : List D) : M D := match intsOf xs with
  | some ns => need (decide (ns.length ≤ 1000)) (ret (.int (disL ns).length))
  | none => bad
def lsetD (d : D) : M D := match d with
  | .tup xs => lsetL xs
  | .lst xs => lsetL xs
  | .ref k => bnd (getC k) lsetL
  | _ => bad
/-- the unlike ones, rising -/
def ssetD (d : D) : M D := match d with
  | .lst xs => match intsOf xs with
    | some ns => need (decide (ns.length ≤ 60)) (ret (.lst ((sortI (disL ns)).map D.int)))
    | none => bad
  | _ => bad
/-- a set of ints -/
def setD (ys : List D) : M D := match intsOf ys with
  | some ns => need (decide (ns.length ≤ 1000)) (ret (.set ns))
  | none => bad
def ints2 (a b : D) : M (Int × Int) := match a, b with
  | .int i, .int j => ret (i, j)
  | _, _ => bad
/-- a range with a step: up or down -/
def rngC (i c : Int) (n : Nat) : List D := (List.range n).map fun k => D.int (i + (k : Nat) * c)
def rng3D (x y z : D) : M (List D) := match x, y, z with
  | .int i, .int j, .int c => need (decide (c ≠ 0) && decide (c.natAbs < 1073741824) && Builtin.Range.small i j c && decide (0 ≤ Builtin.Range.rangeSize i j c)) (ret (rngC i c (Builtin.Range.rangeSize i j c).toNat))
  | _, _, _ => bad
/-- a comprehension over a list that may change: it is looked at anew each time -/
def lcR (elt : Env → M D) (tg : Tg) (cd : Env → M Bool) (ρ : Env) (k : Nat) : Nat → Nat → List D → M (List D)
  | 0, _, _ => bad
  | n + 1, i, acc => bnd (getC k) fun xs => match xs[i]? with
    | none => ret acc
    | some x => bnd (opt (asg tg x ρ)) fun ρ2 => bnd (cd ρ2) fun kk => if kk then bnd (elt ρ2) fun y => need (small acc.length) (lcR elt tg cd ρ k n (i + 1) (acc ++ [y])) else lcR elt tg cd ρ k n (i + 1) acc
def lcAD (m : Bool) (elt : Env → M D) (tg : Tg) (cd : Env → M Bool) (ρ : Env) (x : D) : M D := match x with
  | .tup xs => bnd (lcL elt tg cd ρ xs []) fun ys => mkL m ys
  | .lst xs => bnd (lcL elt tg cd ρ xs []) fun ys => mkL m ys
  | .ref k => bnd (lcR elt tg cd ρ k 1000000 0 []) fun ys => mkL m ys
  | _ => bad
def stepA (en : Bool) (i : Nat) (x : D) : D := if en then .tup [.int (i : Nat), x] else x
def okR (i : Int) : Bool := decide (-1000000000000000000000000000000 ≤ i) && decide (i ≤ 1000000000000000000000000000000)

section
variable (Φ : String → List D → M D)
mutual
def ev : Ex → Env → M D
  | .var i => fun ρ => getV ρ i
  | .int i => fun _ => ret (.int i)
  | .bl b => fun _ => ret (.bl b)
  | .non => fun _ => ret .non
  | .str s => fun _ => ret (.str s)
  | .glob _ i => fun _ => ret (.int i)
  | .bin o a b => fun ρ => bnd (ev a ρ) fun x => bnd (ev b ρ) fun y => binD o x y
  | .neg a => fun ρ => bnd (ev a ρ) fun x => match x with
    | .int i => ret (.int (-i))
    | _ => bad
  | .cmp o a b => fun ρ => bnd (ev a ρ) fun x => bnd (ev b ρ) fun y => bnd (cmpD o x y) fun k => ret (.bl k)
  | .chain o o' a b c => fun ρ => bnd (ev a ρ) fun x => bnd (ev b ρ) fun y => bnd (cmpD o x y) fun k =>
      if k then bnd (ev c ρ) fun z => bnd (cmpD o' y z) fun k' => ret (.bl k') else ret (.bl false)
  | .and a b => fun ρ => bnd (ev a ρ) fun x => match x with
    | .bl true => ev b ρ
    | .bl false => ret (.bl false)
    | _ => bad
  | .or a b => fun ρ => bnd (ev a ρ) fun x => match x with
    | .bl false => ev b ρ
    | .bl true => ret (.bl true)
    | _ => bad
  | .not a => fun ρ => bnd (ev a ρ) fun x => match x with
    | .bl b => ret (.bl (!b))
    | _ => bad
  | .ife c a b => fun ρ => bnd (evt c ρ) fun k => if k then ev a ρ else ev b ρ
  | .tup es => fun ρ => bnd (evs es ρ) fun xs => need (small xs.length) (ret (.tup xs))
  | .lst m es => fun ρ => bnd (evs es ρ) fun xs => need (small xs.length) (mkL m xs)
  | .ix a i => fun ρ => bnd (ev a ρ) fun x => bnd (ev i ρ) fun y => ixD x y
  | .sl m a lo hi => fun ρ => bnd (ev a ρ) fun x => bnd (evo lo ρ) fun l => bnd (evo hi ρ) fun h => slD m x l h
  | .call f es => fun ρ => bnd (evs es ρ) fun xs => Φ f xs
  | .fld c f o => fun ρ => bnd (ev o ρ) (fldD c f)
  | .meth f c m o es => fun ρ => bnd (ev o ρ) fun x => bnd (isO c m x) fun _ => bnd (evs es ρ) fun xs => Φ f (x :: xs)
  | .make c f es => fun ρ => bnd (evs es ρ) fun xs => bnd (newO c) fun o => bnd (Φ f (o :: xs)) fun r => bnd (isNon r) fun _ => ret o
  | .dget d k => fun ρ => bnd (ev d ρ) fun x => bnd (ev k ρ) fun y => dgetF x y
  | .din n k d => fun ρ => bnd (ev k ρ) fun y => bnd (ev d ρ) fun x => bnd (dinD x y) fun b => ret (.bl (b != n))
  | .dnew t => fun _ => newT t
  | .bi b es => fun ρ => bnd (evs es ρ) fun xs => biD b xs
  | .lrg m a => fun ρ => bnd (ev a ρ) fun x => match x with
    | .int n => need (decide (0 ≤ n) && decide (n ≤ 1000000)) (mkL m (rngL 0 n.toNat))
    | _ => bad
  | .trg a => fun ρ => bnd (ev a ρ) fun x => match x with
    | .int n => need (decide (0 ≤ n) && decide (n ≤ 1000000)) (ret (.tup (rngL 0 n.toNat)))
    | _ => bad
  | .isi a T => fun ρ => bnd (ev a ρ) fun x => bnd (isiD x T) fun k => ret (.bl k)
  | .tenp a => fun ρ => bnd (ev a ρ) tenD
  | .mulL m a b => fun ρ => bnd (ev a ρ) fun x => bnd (ev b ρ) fun y => mulLD m x y
  | .addL m a b => fun ρ => bnd (ev a ρ) fun x => bnd (ev b ρ) fun y => addLD m x y
  | .popAt o i => fun ρ => bnd (ev o ρ) fun x => bnd (isC x) fun _ => bnd (ev i ρ) fun y => popD x y
  | .idxOf o i => fun ρ => bnd (ev o ρ) fun x => bnd (isC x) fun _ => bnd (ev i ρ) fun y => idxD x y
  | .lset a => fun ρ => bnd (ev a ρ) lsetD
  | .powW a b => fun ρ => bnd (ev a ρ) fun x => bnd (ev b ρ) fun y => powWD x y
  | .cntOf o i => fun ρ => bnd (ev o ρ) fun x => bnd (isC x) fun _ => bnd (ev i ρ) fun y => cntD x y
  | .opq => fun _ => bad
  | .tyeq a T => fun ρ => bnd (bnd (ev a ρ) typD) fun x => bnd (ret (.ty T.name)) fun y => bnd (tyEq x y) fun k => ret (.bl k)
  | .lcm _ es => fun ρ => bnd (evs es ρ) lcmB
  | .maxd a j => fun ρ => bnd (ev a ρ) (maxdD j)
  | .dic0 => fun _ => ret (.dic false [] [])
  | .dic1 i j => fun _ => ret (.dic false [.i i] [.int j])
  | .rev a => fun ρ => bnd (ev a ρ) revD
  | .sset a => fun ρ => bnd (ev a ρ) ssetD
  | .glast _ is => fun _ => match is.getLast? with
    | some i => ret (.int i)
    | none => bad
  | .lcA m elt tg own it cd => fun ρ => bnd (ev it ρ) fun x => lcAD m (ev elt) tg (evc cd) (wipeD ρ own) x
  | .lc m elt tg own it cd => fun ρ => bnd (evi it ρ) fun xs => bnd (lcL (ev elt) tg (evc cd) (wipeD ρ own) xs []) fun ys => mkL m ys
  | .sc elt tg own it => fun ρ => bnd (evi it ρ) fun xs => bnd (lcL (ev elt) tg (fun _ => ret true) (wipeD ρ own) xs []) setD
  | .lc2 m elt tg tg1 own own1 it it1 => fun ρ => bnd (evi it ρ) fun xs => bnd (lcL2 (ev elt) tg tg1 (evi it1) own1 (wipeD ρ own) xs []) fun ys => mkL m ys
def evt : Ex → Env → M Bool
  | .and a b => fun ρ => bnd (evt a ρ) fun k => if k then evt b ρ else ret false
  | .or a b => fun ρ => bnd (evt a ρ) fun k => if k then ret true else evt b ρ
  | .not a => fun ρ => bnd (evt a ρ) fun k => ret (!k)
  | .ife _ _ _ => fun _ => bad
  | .cmp o a b => fun ρ => bnd (ev a ρ) fun x => bnd (ev b ρ) fun y => cmpD o x y
  | .chain o o' a b c => fun ρ => bnd (ev a ρ) fun x => bnd (ev b ρ) fun y => bnd (cmpD o x y) fun k =>
      if k then bnd (ev c ρ) fun z => cmpD o' y z else ret false
  | .var i => fun ρ => bnd (getV ρ i) truD
  | .bl b => fun _ => ret b
  | .bin o a b => fun ρ => bnd (bnd (ev a ρ) fun x => bnd (ev b ρ) fun y => binD o x y) truD
  | .call f es => fun ρ => bnd (bnd (evs es ρ) fun xs => Φ f xs) truD
  | .din n k d => fun ρ => bnd (ev k ρ) fun y => bnd (ev d ρ) fun x => bnd (dinD x y) fun b => ret (b != n)
  | .ix a i => fun ρ => bnd (bnd (ev a ρ) fun x => bnd (ev i ρ) fun y => ixD x y) truD
  | .fld c f o => fun ρ => bnd (bnd (ev o ρ) (fldD c f)) truD
  | .dget d k => fun ρ => bnd (bnd (ev d ρ) fun x => bnd (ev k ρ) fun y => dgetF x y) truD
  | .isi a T => fun ρ => bnd (ev a ρ) fun x => isiD x T
  | .tyeq a T => fun ρ => bnd (bnd (ev a ρ) typD) fun x => bnd (ret (.ty T.name)) fun y => tyEq x y
  | .bi b es => fun ρ => bnd (bnd (evs es ρ) fun xs => biD b xs) truD
  | _ => fun _ => bad
def evs : Exs → Env → M (List D)
  | .nil => fun _ => ret []
  | .cons e es => fun ρ => bnd (ev e ρ) fun x => bnd (evs es ρ) fun xs => ret (x :: xs)
  | .star e es => fun ρ => bnd (ev e ρ) fun x => bnd (itemsD x) fun ys => bnd (evs es ρ) fun xs => ret (ys ++ xs)
def evo : Exo → Env → M (Option Int)
  | .no => fun _ => ret none
  | .yes e => fun ρ => bnd (ev e ρ) fun x => match x with
    | .int i => ret (some i)
    | _ => bad
def evc : Exo → Env → M Bool
  | .no => fun _ => ret true
  | .yes e => fun ρ => evt e ρ
def evi : It → Env → M (List D)
  | .seq e => fun ρ => bnd (ev e ρ) fun x => match x with
    | .tup xs => ret xs
    | .lst xs => ret xs
    | _ => bad
  | .rng a => fun ρ => bnd (ev a ρ) fun x => match x with
    | .int n => need (okR n) (ret (rngL 0 n.toNat))
    | _ => bad
  | .revl e => fun ρ => bnd (ev e ρ) fun x => match x with
    | .lst xs => ret xs.reverse
    | _ => bad
  | .zip a b => fun ρ => bnd (ev a ρ) fun x => bnd (ev b ρ) fun y => zipD x y
  | .gseq _ is => fun _ => ret (is.map D.int)
  | .enm e => fun ρ => bnd (ev e ρ) fun x => match x with
    | .tup xs => ret (enmL 0 xs)
    | .lst xs => ret (enmL 0 xs)
    | _ => bad
  | .itm e => fun ρ => bnd (ev e ρ) fun x => match x with
    | .frd ks vs => ret (itmL ks vs)
    | _ => bad
  | .rng3 a b c => fun ρ => bnd (ev a ρ) fun x => bnd (ev b ρ) fun y => bnd (ev c ρ) fun z => rng3D x y z
  | .rng2 a b => fun ρ => bnd (ev a ρ) fun x => bnd (ev b ρ) fun y => bnd (ints2 x y) fun p => need (okR p.1 && okR p.2) (ret (rngL p.1 (p.2 - p.1).toNat))
end
/-- a statement's end -/
inductive Fl where
  | nx (ρ : Env) | rt (d : D) | bk (ρ : Env) | ct (ρ : Env)
def forL (tg : Tg) (b : Env → M Fl) : List D → Env → M Fl
  | [], ρ => ret (.nx ρ)
  | x :: xs, ρ => bnd (opt (asg tg x ρ)) fun ρ2 => bnd (b ρ2) fun f => match f with
    | .nx ρ3 => forL tg b xs ρ3
    | .ct ρ3 => forL tg b xs ρ3
    | .bk ρ3 => ret (.nx ρ3)
    | .rt d => ret (.rt d)
def forR (tg : Tg) (b : Env → M Fl) (en : Bool) (k : Nat) : Nat → Nat → Env → M Fl
  | 0, _, _ => bad
  | n + 1, i, ρ => bnd (getC k) fun xs => match xs[i]? with
    | none => ret (.nx ρ)
    | some x => bnd (opt (asg tg (stepA en i x) ρ)) fun ρ2 => bnd (b ρ2) fun f => match f with
      | .nx ρ3 => forR tg b en k n (i + 1) ρ3
      | .ct ρ3 => forR tg b en k n (i + 1) ρ3
      | .bk ρ3 => ret (.nx ρ3)
      | .rt d => ret (.rt d)
def forAD (tg : Tg) (b : Env → M Fl) (en : Bool) (n : Nat) (x : D) (ρ : Env) : M Fl := match x with
  | .tup xs => forL tg b (if en then enmL 0 xs else xs) ρ
  | .lst xs => forL tg b (if en then enmL 0 xs else xs) ρ
  | .ref k => forR tg b en k n 0 ρ
  | _ => bad
def whL (c : Env → M Bool) (b : Env → M Fl) : Nat → Env → M Fl
  | 0, _ => bad
  | n + 1, ρ => bnd (c ρ) fun k => if k then bnd (b ρ) fun f => match f with
    | .nx ρ3 => whL c b n ρ3
    | .ct ρ3 => whL c b n ρ3
    | .bk ρ3 => ret (.nx ρ3)
    | .rt d => ret (.rt d) else ret (.nx ρ)
def setIx (o i v : D) : M Unit := match o, i with
  | .ref k, .int j => bnd (getC k) fun xs => match L2.ixN xs.length j with
    | some n => setC k (xs.set n v)
    | none => bad
  | _, _ => bad
def appD (o v : D) : M Unit := match o with
  | .ref k => bnd (getC k) fun xs => need (small xs.length) (setC k (xs ++ [v]))
  | _ => bad
/-- a list put behind -/
def extD (o v : D) : M Unit := match o, v with
  | .ref k, .lst zs => bnd (getC k) fun xs => need (small xs.length && small zs.length) (setC k (xs ++ zs))
  | _, _ => bad
/-- a dict changes no more -/
def setfD (ρ : Env) (i : Nat) : M Env := fun S => match ρ[i]? with
  | some (some (.dct true k)) => match S[k]? with
    | some (some [.dic true ks vs]) => .ok (ρ.set i (some (.frd ks vs))) (S.set k none)
    | _ => .bad
  | _ => .bad
def setlD (ρ : Env) (i : Nat) : M Env := fun S => match ρ[i]? with
  | some (some (.ref k)) => match S[k]? with
    | some (some xs) => .ok (ρ.set i (some (.lst xs))) (S.set k none)
    | _ => .bad
  | _ => .bad
variable (fu : Nat)
mutual
def ex : Sm → Env → M Fl
  | .set i e => fun ρ => bnd (ev Φ e ρ) fun x => ret (.nx (ρ.set i (some x)))
  | .unp is e => fun ρ => bnd (ev Φ e ρ) fun x => bnd (opt (asg (.tup is) x ρ)) fun ρ2 => ret (.nx ρ2)
  | .par i j a b => fun ρ => bnd (ev Φ a ρ) fun x => bnd (ev Φ b ρ) fun y => ret (.nx ((ρ.set i (some x)).set j (some y)))
  | .setix o i e => fun ρ => bnd (ev Φ e ρ) fun v => bnd (ev Φ o ρ) fun x => bnd (ev Φ i ρ) fun y => bnd (setIx x y v) fun _ => ret (.nx ρ)
  | .setfl c f o e => fun ρ => bnd (ev Φ e ρ) fun v => bnd (ev Φ o ρ) fun x => bnd (setflD c f x v) fun _ => ret (.nx ρ)
  | .dput o k e => fun ρ => bnd (ev Φ e ρ) fun v => bnd (ev Φ o ρ) fun x => bnd (ev Φ k ρ) fun y => bnd (dputD x y v) fun _ => ret (.nx ρ)
  | .app o e => fun ρ => bnd (ev Φ o ρ) fun x => bnd (isC x) fun _ => bnd (ev Φ e ρ) fun v => bnd (appD x v) fun _ => ret (.nx ρ)
  | .expr e => fun ρ => bnd (ev Φ e ρ) fun _ => ret (.nx ρ)
  | .ret e => fun ρ => bnd (ev Φ e ρ) fun x => ret (.rt x)
  | .ife c a b => fun ρ => bnd (evt Φ c ρ) fun k => if k then exs a ρ else exs b ρ
  | .for tg it b => fun ρ => bnd (evi Φ it ρ) fun xs => forL tg (exs b) xs ρ
  | .while c b => fun ρ => whL (evt Φ c) (exs b) fu ρ
  | .forA tg en e b => fun ρ => bnd (ev Φ e ρ) fun x => forAD tg (exs b) en fu x ρ
  | .opq => fun _ => bad
  | .pass => fun ρ => ret (.nx ρ)
  | .brk => fun ρ => ret (.bk ρ)
  | .cont => fun ρ => ret (.ct ρ)
  | .extd o e => fun ρ => bnd (ev Φ o ρ) fun x => bnd (isC x) fun _ => bnd (ev Φ e ρ) fun v => bnd (extD x v) fun _ => ret (.nx ρ)
  | .settle i s => fun ρ => bnd (setlD ρ i) fun ρ2 => ex s ρ2
  | .frz i s => fun ρ => bnd (setfD ρ i) fun ρ2 => ex s ρ2
  | .rai _ _ => fun _ => bad
  | .xset _ _ => fun _ => bad
  | .xunp _ _ => fun _ => bad
  | .xret _ => fun _ => bad
  | .xexp _ => fun _ => bad
  | .xtry _ _ _ _ _ => fun _ => bad
  | .xb _ => fun _ => bad
def exs : Sms → Env → M Fl
  | .nil => fun ρ => ret (.nx ρ)
  | .cons s r => fun ρ => bnd (ex s ρ) fun f => match f with
    | .nx ρ2 => exs r ρ2
    | f => ret f
end
/-! exceptions -/
/-- what a raised text shows: a number that is not too great, or nothing -/
def raiOk (o : Option Int) : Bool := match o with
  | none => true
  | some i => decide (i.natAbs < 1000000)
def evX : Xe → Env → M D
  | .pl e => fun ρ => noX (ev Φ e ρ)
  | .call f es => fun ρ => bnd (noX (evs Φ es ρ)) fun xs => Φ f xs
  | .ife c a b => fun ρ => bnd (noX (evt Φ c ρ)) fun k => if k then evX a ρ else evX b ρ
/-- a statement's end, or an exception -/
inductive FlX where
  | fl (f : Fl) | xc (c : String) (ρ : Env)
def catX (m : M D) (ρ : Env) (f : D → M FlX) : M FlX := fun S => match m S with
  | .bad => .bad
  | .ok d S1 => f d S1
  | .exc c S1 => .ok (.xc c ρ) S1
/-- what classes an exception's class is below -/
def subX (c t : String) : Bool := c == t || t == "HandError" || t == "ValueError"
def hdX (h : Hd) (c : String) (n : Option Nat) (ρ : Env) : M FlX :=
  let un : Env → Env := fun ρ => match n with
    | none => ρ
    | some i => ρ.set i none
  match h with
  | .set i d => bnd (ev Φ d ρ) fun x => ret (.fl (.nx (un (ρ.set i (some x)))))
  | .ret d => bnd (ev Φ d ρ) fun x => ret (.fl (.rt x))
  | .isx i ts a b => bnd (ev Φ (if ts.all (subX c) then a else b) ρ) fun x => ret (.fl (.nx (un (ρ.set i (some x)))))
def plX (s : Sm) (ρ : Env) : M FlX := bnd (noX (ex Φ fu s ρ)) fun f => ret (.fl f)
mutual
def exX : Sm → Env → M FlX
  | .rai c v => fun ρ => bnd (noX (evo Φ v ρ)) fun o => need (raiOk o) (ret (.xc c ρ))
  | .xset i e => fun ρ => catX (evX Φ e ρ) ρ fun x => ret (.fl (.nx (ρ.set i (some x))))
  | .xunp is e => fun ρ => catX (evX Φ e ρ) ρ fun x => bnd (opt (asg (.tup is) x ρ)) fun ρ2 => ret (.fl (.nx ρ2))
  | .xret e => fun ρ => catX (evX Φ e ρ) ρ fun x => ret (.fl (.rt x))
  | .xexp e => fun ρ => catX (evX Φ e ρ) ρ fun _ => ret (.fl (.nx ρ))
  | .ife c a b => fun ρ => bnd (noX (evt Φ c ρ)) fun k => if k then exsX a ρ else exsX b ρ
  | .xtry b n c ks h => fun ρ => bnd (exsX b ρ) fun f => match f with
    | .xc c' ρ2 => need (decide (c' ∈ ks)) (if subX c' c then hdX Φ h c' n ρ2 else ret (.xc c' ρ2))
    | .fl f => ret (.fl f)
  | .xb _ => fun _ => bad
  | .set i e => plX Φ fu (.set i e)
  | .unp is e => plX Φ fu (.unp is e)
  | .par i j a b => plX Φ fu (.par i j a b)
  | .setix o i e => plX Φ fu (.setix o i e)
  | .setfl c f o e => plX Φ fu (.setfl c f o e)
  | .dput o k e => plX Φ fu (.dput o k e)
  | .app o e => plX Φ fu (.app o e)
  | .expr e => plX Φ fu (.expr e)
  | .ret e => plX Φ fu (.ret e)
  | .for tg it b => plX Φ fu (.for tg it b)
  | .while c b => plX Φ fu (.while c b)
  | .pass => plX Φ fu .pass
  | .opq => plX Φ fu .opq
  | .brk => fun _ => bad
  | .cont => fun _ => bad
  | .extd o e => plX Φ fu (.extd o e)
  | .forA tg en e b => plX Φ fu (.forA tg en e b)
  | .settle i s => plX Φ fu (.settle i s)
  | .frz i s => plX Φ fu (.frz i s)
def exsX : Sms → Env → M FlX
  | .nil => fun ρ => ret (.fl (.nx ρ))
  | .cons s r => fun ρ => bnd (exX s ρ) fun f => match f with
    | .fl (.nx ρ2) => exsX r ρ2
    | f => ret f
end
/-- a def out of which an exception may go -/
def runX (n : Nat) (b : Sms) (ds : List D) : M D := bnd (noX (exsX Φ fu b (ds.map some ++ List.replicate (n - ds.length) none))) fun f => match f with
  | .fl (.nx _) => ret .non
  | .fl (.rt d) => ret d
  | .fl _ => bad
  | .xc c _ => fun S => .exc c S
/-- a def by its body: n names in all -/
def runF (n : Nat) (b : Sms) (ds : List D) : M D := bnd (exs Φ fu b (ds.map some ++ List.replicate (n - ds.length) none)) fun f => match f with
  | .nx _ => ret .non
  | .rt d => ret d
  | _ => bad
def runB (n : Nat) : Sms → List D → M D
  | .cons (.xb ss) .nil => runX Φ fu n ss
  | b => runF Φ fu n b
end
end AG
namespace AG
open PySem PySem.Spec PyProof.Rows L2

/-- a cell's kind: a list, a dict, an object of a class -/
inductive Kd where
  | lst | dic (t : Bool) | obj (c : String)
structure Wd where
  H : Hp
  S : Sto
  as : List (Addr × Kd)
  lk : Addr → Prop
def Live (W : Wd) (a : Addr) : Prop := ∃ (k : Nat) (xs : List D) (kd : Kd), W.S[k]? = some (some xs) ∧ W.as[k]? = some (a, kd)
def kK : List Ky → Option (List Key)
  | [] => some []
  | .i i :: r => (kK r).map (Sum.inl i :: ·)
  | .s s :: r => (kK r).map (Sum.inr s :: ·)
  | .t _ :: _ => none
def kT : List Ky → Option (List (List Key))
  | [] => some []
  | .t is :: r => (kT r).map (is.map Sum.inl :: ·)
  | _ :: _ => none
def kS : List Ky → Option (List Str)
  | [] => some []
  | .s s :: r => (kS r).map (s :: ·)
  | _ :: _ => none
def dicO (t : Bool) (ks : List Ky) (us : List V) : Option HO := match t with
  | true => (kT ks).map fun l => .dT (l.zip us)
  | false => (kK ks).map fun l => .dK (l.zip us)
/-- what may be a cell's object -/
def isCel : HO → Prop
  | .lst _ => True
  | .dK _ => True
  | .dT _ => True
  | .ins _ _ _ => True
  | _ => False
def CelO (K : PySem.W.Frag) : Kd → List D → List D → List V → HO → Prop
  | .lst, xs, ds, us, o => ds = xs ∧ o = .lst us
  | .dic t, xs, ds, us, o => ∃ ks, xs = [.dic t ks ds] ∧ us.length = ks.length ∧ dicO t ks us = some o
  | .obj c, xs, ds, us, o => ∃ ks ns C dx, xs = [.dic false ks ds] ∧ kS ks = some ns ∧ us.length = ks.length ∧ PySem.W.nsIn K mainGlobals (Str.ofString c) = some (some (.ref C)) ∧ o = .ins C dx (ns.zip us)
theorem dicO_cel {t : Bool} {ks : List Ky} {us : List V} {o : HO} (h : dicO t ks us = some o) : isCel o := by
  unfold dicO at h
  cases t with
  | true =>
    simp only [] at h
    obtain ⟨l, _, rfl⟩ := Option.map_eq_some_iff.mp h
    exact trivial
  | false =>
    simp only [] at h
    obtain ⟨l, _, rfl⟩ := Option.map_eq_some_iff.mp h
    exact trivial
theorem dicO_nolst {t : Bool} {ks : List Ky} {us vs : List V} {o : HO} (h : dicO t ks us = some o) (z : o = .lst vs) : False := by
  subst z
  unfold dicO at h
  cases t with
  | true =>
    simp only [] at h
    obtain ⟨l, _, z⟩ := Option.map_eq_some_iff.mp h
    cases z
  | false =>
    simp only [] at h
    obtain ⟨l, _, z⟩ := Option.map_eq_some_iff.mp h
    cases z
theorem dicO_K {ks : List Ky} {us : List V} {o : HO} (h : dicO false ks us = some o) : ∃ l, kK ks = some l ∧ o = .dK (l.zip us) := by
  unfold dicO at h
  simp only [] at h
  obtain ⟨l, h1, rfl⟩ := Option.map_eq_some_iff.mp h
  exact ⟨l, h1, rfl⟩
theorem dicO_T {ks : List Ky} {us : List V} {o : HO} (h : dicO true ks us = some o) : ∃ l, kT ks = some l ∧ o = .dT (l.zip us) := by
  unfold dicO at h
  simp only [] at h
  obtain ⟨l, h1, rfl⟩ := Option.map_eq_some_iff.mp h
  exact ⟨l, h1, rfl⟩
theorem celO_cel {K : PySem.W.Frag} {kd : Kd} {xs ds : List D} {us : List V} {o : HO} (h : CelO K kd xs ds us o) : isCel o := by
  cases kd with
  | lst => obtain ⟨_, rfl⟩ := h; exact trivial
  | dic t => obtain ⟨ks, _, _, h⟩ := h; exact dicO_cel h
  | obj c => obtain ⟨ks, ns, C, dx, _, _, _, _, rfl⟩ := h; exact trivial
/-- a locked list -/
def SqF (K : PySem.W.Frag) (H : Hp) (a : Addr) (vs : List V) : Prop :=
  (∃ its n, H a = some (.frz { cls := .type "list", data := .seq its n } (.lst vs))) ∨ (SqL K (fun _ => none) a vs ∧ ∃ its n, K.lookup a = some { cls := .type "list", data := .seq its n })
section
variable (K : PySem.W.Frag)
mutual
def Rep (W : Wd) : D → V → Prop
  | .non, v => v = .non
  | .bl b, v => v = .bl b
  | .int i, v => v = .int i
  | .str s, v => v = .str s
  | .ty n, v => v = .ty n
  | .dic t ks ds, v => ∃ a us o, v = .ref a ∧ W.H a = some o ∧ us.length = ks.length ∧ dicO t ks us = some o ∧ ¬ Live W a ∧ Reps W ds us
  | .ref k, v => ∃ a, v = .ref a ∧ W.as[k]? = some (a, .lst)
  | .obj c k, v => ∃ a, v = .ref a ∧ W.as[k]? = some (a, .obj c)
  | .dct t k, v => ∃ a, v = .ref a ∧ W.as[k]? = some (a, .dic t)
  | .frd ks ds, v => ∃ a ob us l, v = .ref a ∧ W.H a = some (.frz ob (.dT (l.zip us))) ∧ kT ks = some l ∧ us.length = ks.length ∧ Reps W ds us
  | .set is, v => ∃ a n, v = .ref a ∧ W.H a = some (.set (fun i => decide (i ∈ is)) n)
  | .exc _, _ => False
  | .tup ds, v => ∃ a vs, v = .ref a ∧ W.H a = some (.tup vs) ∧ Reps W ds vs
  | .lst ds, v => ∃ a vs, v = .ref a ∧ W.H a = some (.lst vs) ∧ ¬ Live W a ∧ ¬ W.lk a ∧ Reps W ds vs
  | .fro ds, v => ∃ a vs, v = .ref a ∧ SqF K W.H a vs ∧ Reps W ds vs
def Reps (W : Wd) : List D → List V → Prop
  | [], vs => vs = []
  | d :: ds, vs => ∃ v r, vs = v :: r ∧ Rep W d v ∧ Reps W ds r
end
structure Abs (W : Wd) : Prop where
  len : W.as.length = W.S.length
  inj : ∀ (i j : Nat) (a : Addr) (kd kd' : Kd) (xs ys : List D), W.S[i]? = some (some xs) → W.S[j]? = some (some ys) → W.as[i]? = some (a, kd) → W.as[j]? = some (a, kd') → i = j
  cell : ∀ (k : Nat) (xs : List D), W.S[k]? = some (some xs) → ∃ a kd ds us o, W.as[k]? = some (a, kd) ∧ W.H a = some o ∧ CelO K kd xs ds us o ∧ Reps K W ds us
  res : ∀ a, W.lk a → (∃ vs, W.H a = some (.lst vs)) ∧ ¬ Live W a
end
structure Ext (W W' : Wd) : Prop where
  keep : ∀ b o, W.H b = some o → ¬ Live W b → W'.H b = some o ∧ ¬ Live W' b ∧ (¬ W.lk b → ¬ W'.lk b)
  pre : ∀ (k : Nat) (a : Addr × Kd), W.as[k]? = some a → W'.as[k]? = some a
theorem Ext.refl (W : Wd) : Ext W W := ⟨fun b o h n => ⟨h, n, id⟩, fun _ _ h => h⟩
theorem Ext.trans {W1 W2 W3 : Wd} (a : Ext W1 W2) (b : Ext W2 W3) : Ext W1 W3 :=
  ⟨fun c o h n => let ⟨h1, n1, l1⟩ := a.keep c o h n; let ⟨h2, n2, l2⟩ := b.keep c o h1 n1; ⟨h2, n2, fun z => l2 (l1 z)⟩, fun k c h => b.pre k c (a.pre k c h)⟩
section
variable {K : PySem.W.Frag} {W W' W1 : Wd}
theorem Abs.nolive (A : Abs K W) {a : Addr} {o : HO} (h : W.H a = some o) (hn : ¬ isCel o) : ¬ Live W a := by
  rintro ⟨k, xs, kd, e1, e2⟩
  obtain ⟨b, kd', ds, us, o', e3, e4, e5, _⟩ := A.cell k xs e1
  rw [e2] at e3
  cases e3
  rw [h] at e4
  cases e4
  exact hn (celO_cel e5)
theorem SqF.ext {vs : List V} {a : Addr} (A : Abs K W) (E : Ext W W') (h : SqF K W.H a vs) : SqF K W'.H a vs := by
  rcases h with ⟨o, n, h⟩ | h
  · exact .inl ⟨o, n, (E.keep a _ h (A.nolive h (fun z => z))).1⟩
  · exact .inr h
mutual
theorem Rep.ext (A : Abs K W) (E : Ext W W') : ∀ (d : D) (v : V), Rep K W d v → Rep K W' d v
  | .non, v, h => by simpa only [Rep] using h
  | .bl b, v, h => by simpa only [Rep] using h
  | .int i, v, h => by simpa only [Rep] using h
  | .str s, v, h => by simpa only [Rep] using h
  | .ty n, v, h => by simpa only [Rep] using h
  | .dic t ks ds, v, h => by
    simp only [Rep] at h ⊢
    obtain ⟨a, us, o, e, h, h2, h3, n, r⟩ := h
    obtain ⟨q1, q2, _⟩ := E.keep a _ h n
    exact ⟨a, us, o, e, q1, h2, h3, q2, Reps.ext A E ds us r⟩
  | .frd ks ds, v, h => by
    simp only [Rep] at h ⊢
    obtain ⟨a, ob, us, l, e, h, h2, h3, r⟩ := h
    exact ⟨a, ob, us, l, e, (E.keep a _ h (A.nolive h (fun z => z))).1, h2, h3, Reps.ext A E ds us r⟩
  | .set is, v, h => by
    simp only [Rep] at h ⊢
    obtain ⟨a, n, e, h⟩ := h
    exact ⟨a, n, e, (E.keep a _ h (A.nolive h (fun z => z))).1⟩
  | .exc c, v, h => by simp only [Rep] at h
  | .obj c k, v, h => by
    simp only [Rep] at h ⊢
    obtain ⟨a, e, h⟩ := h
    exact ⟨a, e, E.pre k _ h⟩
  | .dct t k, v, h => by
    simp only [Rep] at h ⊢
    obtain ⟨a, e, h⟩ := h
    exact ⟨a, e, E.pre k _ h⟩
  | .ref k, v, h => by
    simp only [Rep] at h ⊢
    obtain ⟨a, e, h⟩ := h
    exact ⟨a, e, E.pre k _ h⟩
  | .tup ds, v, h => by
    simp only [Rep] at h ⊢
    obtain ⟨a, vs, e, h, r⟩ := h
    exact ⟨a, vs, e, (E.keep a _ h (A.nolive h (fun z => z))).1, Reps.ext A E ds vs r⟩
  | .lst ds, v, h => by
    simp only [Rep] at h ⊢
    obtain ⟨a, vs, e, h, n, l, r⟩ := h
    obtain ⟨h1, n1, l1⟩ := E.keep a _ h n
    exact ⟨a, vs, e, h1, n1, l1 l, Reps.ext A E ds vs r⟩
  | .fro ds, v, h => by
    simp only [Rep] at h ⊢
    obtain ⟨a, vs, e, h, r⟩ := h
    exact ⟨a, vs, e, h.ext A E, Reps.ext A E ds vs r⟩
theorem Reps.ext (A : Abs K W) (E : Ext W W') : ∀ (ds : List D) (vs : List V), Reps K W ds vs → Reps K W' ds vs
  | [], vs, h => by simpa only [Reps] using h
  | d :: ds, vs, h => by
    simp only [Reps] at h ⊢
    obtain ⟨v, r, e, h1, h2⟩ := h
    exact ⟨v, r, e, Rep.ext A E d v h1, Reps.ext A E ds r h2⟩
end
/-- as Ext, but for the lists under work -/
structure ExtL (W W' : Wd) : Prop where
  keep : ∀ b o, W.H b = some o → ¬ Live W b → ¬ W.lk b → W'.H b = some o ∧ ¬ Live W' b ∧ ¬ W'.lk b
  pre : ∀ (k : Nat) (a : Addr × Kd), W.as[k]? = some a → W'.as[k]? = some a
theorem Ext.toL (E : Ext W W') : ExtL W W' := ⟨fun b o h n l => let ⟨h1, h2, h3⟩ := E.keep b o h n; ⟨h1, h2, h3 l⟩, E.pre⟩
theorem ExtL.trans {W1 W2 W3 : Wd} (a : ExtL W1 W2) (b : ExtL W2 W3) : ExtL W1 W3 :=
  ⟨fun c o h n l => let ⟨h1, n1, l1⟩ := a.keep c o h n l; b.keep c o h1 n1 l1, fun k c h => b.pre k c (a.pre k c h)⟩
theorem Abs.nolk (A : Abs K W) {a : Addr} {o : HO} (h : W.H a = some o) (hn : ∀ vs, o ≠ .lst vs) : ¬ W.lk a := fun z => by
  obtain ⟨⟨vs, e⟩, _⟩ := A.res a z
  rw [h] at e
  exact hn vs (Option.some.inj e)
mutual
theorem Rep.extL (A : Abs K W) (E : ExtL W W') : ∀ (d : D) (v : V), Rep K W d v → Rep K W' d v
  | .non, v, h => by simpa only [Rep] using h
  | .bl b, v, h => by simpa only [Rep] using h
  | .int i, v, h => by simpa only [Rep] using h
  | .str s, v, h => by simpa only [Rep] using h
  | .ty n, v, h => by simpa only [Rep] using h
  | .dic t ks ds, v, h => by
    simp only [Rep] at h ⊢
    obtain ⟨a, us, o, e, h, h2, h3, n, r⟩ := h
    obtain ⟨q1, q2, _⟩ := E.keep a _ h n (A.nolk h (fun vs z => dicO_nolst h3 z))
    exact ⟨a, us, o, e, q1, h2, h3, q2, Reps.extL A E ds us r⟩
  | .frd ks ds, v, h => by
    simp only [Rep] at h ⊢
    obtain ⟨a, ob, us, l, e, h, h2, h3, r⟩ := h
    exact ⟨a, ob, us, l, e, (E.keep a _ h (A.nolive h (fun z => z)) (A.nolk h (fun _ z => nomatch z))).1, h2, h3, Reps.extL A E ds us r⟩
  | .set is, v, h => by
    simp only [Rep] at h ⊢
    obtain ⟨a, n, e, h⟩ := h
    exact ⟨a, n, e, (E.keep a _ h (A.nolive h (fun z => z)) (A.nolk h (fun _ z => nomatch z))).1⟩
  | .exc c, v, h => by simp only [Rep] at h
  | .obj c k, v, h => by
    simp only [Rep] at h ⊢
    obtain ⟨a, e, h⟩ := h
    exact ⟨a, e, E.pre k _ h⟩
  | .dct t k, v, h => by
    simp only [Rep] at h ⊢
    obtain ⟨a, e, h⟩ := h
    exact ⟨a, e, E.pre k _ h⟩
  | .ref k, v, h => by
    simp only [Rep] at h ⊢
    obtain ⟨a, e, h⟩ := h
    exact ⟨a, e, E.pre k _ h⟩
  | .tup ds, v, h => by
    simp only [Rep] at h ⊢
    obtain ⟨a, vs, e, h, r⟩ := h
    exact ⟨a, vs, e, (E.keep a _ h (A.nolive h (fun z => z)) (A.nolk h (fun _ z => nomatch z))).1, Reps.extL A E ds vs r⟩
  | .lst ds, v, h => by
    simp only [Rep] at h ⊢
    obtain ⟨a, vs, e, h, n, l, r⟩ := h
    obtain ⟨h1, n1, l1⟩ := E.keep a _ h n l
    exact ⟨a, vs, e, h1, n1, l1, Reps.extL A E ds vs r⟩
  | .fro ds, v, h => by
    simp only [Rep] at h ⊢
    obtain ⟨a, vs, e, h, r⟩ := h
    refine ⟨a, vs, e, ?_, Reps.extL A E ds vs r⟩
    rcases h with ⟨o, n, h⟩ | h
    · exact .inl ⟨o, n, (E.keep a _ h (A.nolive h (fun z => z)) (A.nolk h (fun _ z => nomatch z))).1⟩
    · exact .inr h
theorem Reps.extL (A : Abs K W) (E : ExtL W W') : ∀ (ds : List D) (vs : List V), Reps K W ds vs → Reps K W' ds vs
  | [], vs, h => by simpa only [Reps] using h
  | d :: ds, vs, h => by
    simp only [Reps] at h ⊢
    obtain ⟨v, r, e, h1, h2⟩ := h
    exact ⟨v, r, e, Rep.extL A E d v h1, Reps.extL A E ds r h2⟩
end
/-- the next world, with that store -/
structure Nxt (K : PySem.W.Frag) (W : Wd) (S' : Sto) (W' : Wd) : Prop where
  st : W'.S = S'
  lk : W'.lk = W.lk
  ab : Abs K W'
  ext : Ext W W'
theorem Nxt.refl (A : Abs K W) : Nxt K W W.S W := ⟨rfl, rfl, A, Ext.refl W⟩
theorem Nxt.trans {S1 S2 : Sto} {W2 : Wd} (a : Nxt K W S1 W1) (b : Nxt K W1 S2 W2) : Nxt K W S2 W2 := ⟨b.st, b.lk.trans a.lk, b.ab, a.ext.trans b.ext⟩
theorem Nxt.at_ {S1 : Sto} {W2 : Wd} (a : Nxt K W S1 W1) (b : Nxt K W1 W1.S W2) : Nxt K W S1 W2 := ⟨b.st.trans a.st, b.lk.trans a.lk, b.ab, a.ext.trans b.ext⟩
theorem reps_len : ∀ (ds : List D) (vs : List V), Reps K W ds vs → vs.length = ds.length
  | [], vs, h => by simp only [Reps] at h; subst h; rfl
  | d :: ds, vs, h => by
    simp only [Reps] at h
    obtain ⟨v, r, rfl, _, h2⟩ := h
    rw [List.length_cons, List.length_cons, reps_len ds r h2]
theorem reps_get : ∀ (ds : List D) (vs : List V) (i : Nat), Reps K W ds vs → ∀ d, ds[i]? = some d → ∃ v, vs[i]? = some v ∧ Rep K W d v
  | [], vs, i, h, d, e => by simp at e
  | d0 :: ds, vs, 0, h, d, e => by
    simp only [Reps] at h
    obtain ⟨v, r, rfl, h1, h2⟩ := h
    have e' : d0 = d := by simpa using e
    subst e'
    exact ⟨v, rfl, h1⟩
  | d0 :: ds, vs, i + 1, h, d, e => by
    simp only [Reps] at h
    obtain ⟨v, r, rfl, h1, h2⟩ := h
    obtain ⟨v', h3, h4⟩ := reps_get ds r i h2 d (by simpa using e)
    exact ⟨v', by simpa using h3, h4⟩
theorem reps_app : ∀ (ds es : List D) (vs us : List V), Reps K W ds vs → Reps K W es us → Reps K W (ds ++ es) (vs ++ us)
  | [], es, vs, us, h, h' => by simp only [Reps] at h; subst h; simpa using h'
  | d :: ds, es, vs, us, h, h' => by
    simp only [Reps] at h
    obtain ⟨v, r, rfl, h1, h2⟩ := h
    show Reps K W (d :: (ds ++ es)) (v :: (r ++ us))
    simp only [Reps]
    exact ⟨v, _, rfl, h1, reps_app ds es r us h2 h'⟩
theorem reps_one {d : D} {v : V} (h : Rep K W d v) : Reps K W [d] [v] := by
  simp only [Reps]
  exact ⟨v, [], rfl, h, rfl⟩
theorem reps_take : ∀ (n : Nat) (ds : List D) (vs : List V), Reps K W ds vs → Reps K W (ds.take n) (vs.take n)
  | 0, ds, vs, h => by simp [Reps]
  | n + 1, [], vs, h => by simp only [Reps] at h; subst h; simp [Reps]
  | n + 1, d :: ds, vs, h => by
    simp only [Reps] at h
    obtain ⟨v, r, rfl, h1, h2⟩ := h
    simp only [List.take_succ_cons, Reps]
    exact ⟨v, _, rfl, h1, reps_take n ds r h2⟩
theorem reps_drop : ∀ (n : Nat) (ds : List D) (vs : List V), Reps K W ds vs → Reps K W (ds.drop n) (vs.drop n)
  | 0, ds, vs, h => by simpa using h
  | n + 1, [], vs, h => by simp only [Reps] at h; subst h; simp [Reps]
  | n + 1, d :: ds, vs, h => by
    simp only [Reps] at h
    obtain ⟨v, r, rfl, h1, h2⟩ := h
    simpa using reps_drop n ds r h2
theorem reps_set : ∀ (n : Nat) (ds : List D) (vs : List V) (d : D) (v : V), Reps K W ds vs → Rep K W d v → Reps K W (ds.set n d) (vs.set n v)
  | n, [], vs, d, v, h, q => by simp only [Reps] at h; subst h; simp [Reps]
  | 0, d0 :: ds, vs, d, v, h, q => by
    simp only [Reps] at h
    obtain ⟨v0, r, rfl, h1, h2⟩ := h
    simp only [List.set_cons_zero, Reps]
    exact ⟨v, _, rfl, q, h2⟩
  | n + 1, d0 :: ds, vs, d, v, h, q => by
    simp only [Reps] at h
    obtain ⟨v0, r, rfl, h1, h2⟩ := h
    simp only [List.set_cons_succ, Reps]
    exact ⟨v0, _, rfl, h1, reps_set n ds r d v h2 q⟩
theorem reps_erase : ∀ (n : Nat) (ds : List D) (vs : List V), Reps K W ds vs → Reps K W (ds.eraseIdx n) (vs.eraseIdx n)
  | n, [], vs, h => by simp only [Reps] at h; subst h; simp [Reps]
  | 0, d0 :: ds, vs, h => by
    simp only [Reps] at h
    obtain ⟨v0, r, rfl, h1, h2⟩ := h
    simpa using h2
  | n + 1, d0 :: ds, vs, h => by
    simp only [Reps] at h
    obtain ⟨v0, r, rfl, h1, h2⟩ := h
    simp only [List.eraseIdx_cons_succ, Reps]
    exact ⟨v0, _, rfl, h1, reps_erase n ds r h2⟩
theorem reps_rng (i : Int) (n : Nat) : Reps K W (rngL i n) ((List.range n).map fun k => V.int (i + (k : Nat))) := by
  unfold rngL
  generalize List.range n = l
  induction l with
  | nil => simp [Reps]
  | cons k l ih =>
    simp only [List.map_cons, Reps]
    exact ⟨_, _, rfl, by simp only [Rep], ih⟩

/-! ### new objects, changed cells -/
theorem new_obj (A : Abs K W) {p : Addr} (hp : W.H p = none) (o : HO) : Nxt K W W.S { W with H := upd W.H p o } ∧ ¬ Live { W with H := upd W.H p o } p ∧ ¬ W.lk p := by
  have lv : ∀ b, Live { W with H := upd W.H p o } b ↔ Live W b := fun b => Iff.rfl
  have E : Ext W { W with H := upd W.H p o } := ⟨fun b u h n => ⟨by show upd W.H p o b = some u; rw [upd_ne (ne_of_none h hp)]; exact h, n, id⟩, fun _ _ h => h⟩
  have nl : ¬ Live W p := by
    rintro ⟨k, xs, kd, e1, e2⟩
    obtain ⟨b, _, ds, vs, _, e3, e4, _⟩ := A.cell k xs e1
    rw [e2] at e3
    cases e3
    rw [hp] at e4
    cases e4
  refine ⟨⟨rfl, rfl, ⟨A.len, A.inj, fun k xs e => ?_, fun a h => ?_⟩, E⟩, nl, fun h => ?_⟩
  · obtain ⟨a, kd, ds, vs, o', e1, e2, e3, r⟩ := A.cell k xs e
    exact ⟨a, kd, ds, vs, o', e1, by show upd W.H p o a = _; rw [upd_ne (ne_of_none e2 hp)]; exact e2, e3, Reps.ext A E _ _ r⟩
  · obtain ⟨⟨vs, e⟩, n⟩ := A.res a h
    exact ⟨⟨vs, by show upd W.H p o a = _; rw [upd_ne (ne_of_none e hp)]; exact e⟩, n⟩
  · obtain ⟨⟨vs, e⟩, n⟩ := A.res p h
    rw [hp] at e
    cases e
theorem new_tup (A : Abs K W) {p : Addr} (hp : W.H p = none) {ds : List D} {vs : List V} (r : Reps K W ds vs) : Nxt K W W.S { W with H := upd W.H p (.tup vs) } ∧ Rep K { W with H := upd W.H p (.tup vs) } (.tup ds) (.ref p) := by
  obtain ⟨N, _, _⟩ := new_obj A hp (.tup vs)
  refine ⟨N, ?_⟩
  simp only [Rep]
  exact ⟨p, vs, rfl, upd_same, Reps.ext A N.ext _ _ r⟩
theorem new_dic (A : Abs K W) {p : Addr} (hp : W.H p = none) {t : Bool} {ks : List Ky} {ds : List D} {us : List V} {o : HO} (h1 : us.length = ks.length) (h2 : dicO t ks us = some o) (r : Reps K W ds us) : Nxt K W W.S { W with H := upd W.H p o } ∧ Rep K { W with H := upd W.H p o } (.dic t ks ds) (.ref p) := by
  obtain ⟨N, n, _⟩ := new_obj A hp o
  refine ⟨N, ?_⟩
  simp only [Rep]
  exact ⟨p, us, o, rfl, upd_same, h1, h2, n, Reps.ext A N.ext _ _ r⟩
theorem new_lst (A : Abs K W) {p : Addr} (hp : W.H p = none) {ds : List D} {vs : List V} (r : Reps K W ds vs) : Nxt K W W.S { W with H := upd W.H p (.lst vs) } ∧ Rep K { W with H := upd W.H p (.lst vs) } (.lst ds) (.ref p) := by
  obtain ⟨N, n1, n2⟩ := new_obj A hp (.lst vs)
  refine ⟨N, ?_⟩
  simp only [Rep]
  exact ⟨p, vs, rfl, upd_same, n1, n2, Reps.ext A N.ext _ _ r⟩
theorem live_app (A : Abs K W) {p b : Addr} {kd : Kd} {ds : List D} {H' : Hp} {l : Addr → Prop} (h : Live { H := H', S := W.S ++ [some ds], as := W.as ++ [(p, kd)], lk := l } b) : Live W b ∨ b = p := by
  obtain ⟨k, xs, kd', h1, h2⟩ := h
  have h1 : (W.S ++ [some ds])[k]? = some (some xs) := h1
  have h2 : (W.as ++ [(p, kd)])[k]? = some (b, kd') := h2
  by_cases hk : k < W.S.length
  · rw [List.getElem?_append_left hk] at h1
    rw [List.getElem?_append_left (by rw [A.len]; exact hk)] at h2
    exact .inl ⟨k, xs, kd', h1, h2⟩
  · rw [List.getElem?_append_right (by rw [A.len]; omega)] at h2
    have := (List.getElem?_eq_some_iff.mp h2).1
    simp at this
    rw [show k - W.as.length = 0 by omega] at h2
    simp at h2
    exact .inr h2.1.symm
/-- a new cell of any kind -/
theorem new_cellK (A : Abs K W) {p : Addr} (hp : W.H p = none) {kd : Kd} {xs ds : List D} {us : List V} {o : HO} (hc : CelO K kd xs ds us o) (r : Reps K W ds us) :
    Nxt K W (W.S ++ [some xs]) { H := upd W.H p o, S := W.S ++ [some xs], as := W.as ++ [(p, kd)], lk := W.lk } ∧ (W.as ++ [(p, kd)])[W.S.length]? = some (p, kd) := by
  obtain ⟨N, n1, n2⟩ := new_obj A hp o
  have E : Ext W { H := upd W.H p o, S := W.S ++ [some xs], as := W.as ++ [(p, kd)], lk := W.lk } := by
    refine ⟨fun b u h n => ⟨(N.ext.keep b u h n).1, fun z => ?_, id⟩, fun k a h => ?_⟩
    · rcases live_app A z with q | q
      · exact n q
      · subst q
        rw [hp] at h
        cases h
    · show (W.as ++ [(p, kd)])[k]? = some a
      rw [List.getElem?_append_left (List.getElem?_eq_some_iff.mp h).1]
      exact h
  -- the cells, one by one
  have ap : (W.as ++ [(p, kd)])[W.S.length]? = some (p, kd) := by rw [← A.len]; simp
  have cs : ∀ {k : Nat} {ys : List D}, (W.S ++ [some xs])[k]? = some (some ys) → W.S[k]? = some (some ys) ∨ (k = W.S.length ∧ ys = xs) := fun {k ys} e => by
    by_cases hk : k < W.S.length
    · rw [List.getElem?_append_left hk] at e
      exact .inl e
    · rw [List.getElem?_append_right (by omega)] at e
      have : k - W.S.length = 0 := by
        have := (List.getElem?_eq_some_iff.mp e).1
        simp at this
        omega
      rw [this] at e
      simp at e
      exact .inr ⟨by omega, e.symm⟩
  have lb : ∀ {k : Nat} {ys : List D}, W.S[k]? = some (some ys) → ∀ {a}, (W.as ++ [(p, kd)])[k]? = some a → W.as[k]? = some a := fun {k ys} e {a} h => by
    rw [List.getElem?_append_left (by rw [A.len]; exact (List.getElem?_eq_some_iff.mp e).1)] at h
    exact h
  refine ⟨⟨rfl, rfl, ?_, E⟩, ap⟩
  refine ⟨by simp [A.len], fun i j a k1 k2 ys zs h1 h2 h3 h4 => ?_, fun k ys h => ?_, fun a h => ?_⟩
  · rcases cs h1 with q1 | ⟨q1, _⟩
    · rcases cs h2 with q2 | ⟨q2, _⟩
      · exact A.inj i j a k1 k2 ys zs q1 q2 (lb q1 h3) (lb q2 h4)
      · subst q2
        have h4 : (W.as ++ [(p, kd)])[W.S.length]? = some (a, k2) := h4
        rw [ap] at h4
        cases h4
        exact absurd ⟨i, ys, k1, q1, lb q1 h3⟩ n1
    · subst q1
      have h3 : (W.as ++ [(p, kd)])[W.S.length]? = some (a, k1) := h3
      rw [ap] at h3
      cases h3
      rcases cs h2 with q2 | ⟨q2, _⟩
      · exact absurd ⟨j, zs, k2, q2, lb q2 h4⟩ n1
      · exact q2.symm
  · rcases cs h with q | ⟨q, e⟩
    · obtain ⟨a, kd1, ds1, us1, o1, e1, e2, e3, r1⟩ := A.cell k ys q
      exact ⟨a, kd1, ds1, us1, o1, E.pre k _ e1, by show upd W.H p _ a = _; rw [upd_ne (ne_of_none e2 hp)]; exact e2, e3, Reps.ext A E _ _ r1⟩
    · subst q e
      exact ⟨p, kd, ds, us, o, ap, upd_same, hc, Reps.ext A E _ _ r⟩
  · obtain ⟨⟨us, e⟩, q2⟩ := A.res a h
    refine ⟨⟨us, by show upd W.H p _ a = _; rw [upd_ne (ne_of_none e hp)]; exact e⟩, fun z => ?_⟩
    rcases live_app A z with q | q
    · exact q2 q
    · subst q
      rw [hp] at e
      cases e
theorem new_cell (A : Abs K W) {p : Addr} (hp : W.H p = none) {ds : List D} {vs : List V} (r : Reps K W ds vs) :
    Nxt K W (W.S ++ [some ds]) { H := upd W.H p (.lst vs), S := W.S ++ [some ds], as := W.as ++ [(p, .lst)], lk := W.lk } ∧ Rep K { H := upd W.H p (.lst vs), S := W.S ++ [some ds], as := W.as ++ [(p, .lst)], lk := W.lk } (.ref W.S.length) (.ref p) := by
  obtain ⟨N, q⟩ := new_cellK A hp (kd := .lst) (xs := ds) (o := .lst vs) ⟨rfl, rfl⟩ r
  refine ⟨N, ?_⟩
  simp only [Rep]
  exact ⟨p, rfl, q⟩
theorem set_cellK (A : Abs K W) {k : Nat} {xs0 xs ds : List D} {a : Addr} {kd : Kd} {us : List V} {o : HO} (hk : W.S[k]? = some (some xs0)) (ha : W.as[k]? = some (a, kd)) (hc : CelO K kd xs ds us o) (r : Reps K W ds us) :
    Nxt K W (W.S.set k (some xs)) { W with H := upd W.H a o, S := W.S.set k (some xs) } := by
  have hkl : k < W.S.length := (List.getElem?_eq_some_iff.mp hk).1
  have la : Live W a := ⟨k, xs0, kd, hk, ha⟩
  have cs : ∀ {j : Nat} {ys : List D}, (W.S.set k (some xs))[j]? = some (some ys) → (j = k ∧ ys = xs) ∨ (j ≠ k ∧ W.S[j]? = some (some ys)) := fun {j ys} e => by
    by_cases hj : j = k
    · subst hj
      rw [List.getElem?_set_self hkl] at e
      cases e
      exact .inl ⟨rfl, rfl⟩
    · rw [List.getElem?_set_ne (Ne.symm hj)] at e
      exact .inr ⟨hj, e⟩
  have lv : ∀ b, Live { W with H := upd W.H a o, S := W.S.set k (some xs) } b → Live W b := fun b ⟨j, ys, kd', h1, h2⟩ => by
    rcases cs h1 with ⟨q, _⟩ | ⟨_, q⟩
    · subst q
      exact ⟨j, xs0, kd', hk, h2⟩
    · exact ⟨j, ys, kd', q, h2⟩
  have E : Ext W { W with H := upd W.H a o, S := W.S.set k (some xs) } := by
    refine ⟨fun b u h n => ⟨?_, fun z => n (lv b z), id⟩, fun _ _ h => h⟩
    show upd W.H a _ b = some u
    rw [upd_ne (fun z : b = a => n (by rw [z]; exact la))]
    exact h
  refine ⟨rfl, rfl, ⟨by simp [A.len], fun i j b k1 k2 xs' ys h1 h2 h3 h4 => ?_, fun j ys h => ?_, fun b h => ?_⟩, E⟩
  · have g : ∀ {i : Nat} {zs : List D}, (W.S.set k (some xs))[i]? = some (some zs) → ∃ ws, W.S[i]? = some (some ws) := fun {i zs} e => by
      rcases cs e with ⟨q, _⟩ | ⟨_, q⟩
      · subst q; exact ⟨xs0, hk⟩
      · exact ⟨zs, q⟩
    obtain ⟨w1, g1⟩ := g h1
    obtain ⟨w2, g2⟩ := g h2
    exact A.inj i j b k1 k2 w1 w2 g1 g2 h3 h4
  · rcases cs h with ⟨q, e⟩ | ⟨hj, q⟩
    · subst q e
      exact ⟨a, kd, ds, us, o, ha, upd_same, hc, Reps.ext A E _ _ r⟩
    · obtain ⟨b, kd1, ds1, us1, o1, e1, e2, e3, r1⟩ := A.cell j ys q
      refine ⟨b, kd1, ds1, us1, o1, e1, ?_, e3, Reps.ext A E _ _ r1⟩
      show upd W.H a _ b = _
      rw [upd_ne (fun z : b = a => hj (A.inj j k b kd1 kd ys xs0 q hk e1 (by rw [z]; exact ha)))]
      exact e2
  · obtain ⟨⟨us, e⟩, q⟩ := A.res b h
    refine ⟨⟨us, ?_⟩, fun z => q (lv b z)⟩
    show upd W.H a _ b = _
    rw [upd_ne (fun z : b = a => q (by rw [z]; exact la))]
    exact e
theorem set_cell (A : Abs K W) {k : Nat} {xs ds : List D} {a : Addr} {vs : List V} (hk : W.S[k]? = some (some xs)) (ha : W.as[k]? = some (a, .lst)) (r : Reps K W ds vs) :
    Nxt K W (W.S.set k (some ds)) { W with H := upd W.H a (.lst vs), S := W.S.set k (some ds) } := set_cellK A hk ha (kd := .lst) (o := .lst vs) ⟨rfl, rfl⟩ r

/-- a cell's list is settled: it changes no more -/
theorem settle_cell (A : Abs K W) {k : Nat} {xs : List D} {a : Addr} {vs : List V} (hk : W.S[k]? = some (some xs)) (ha : W.as[k]? = some (a, .lst)) (hH : W.H a = some (.lst vs)) (r : Reps K W xs vs) :
    Abs K { W with S := W.S.set k none } ∧ Ext W { W with S := W.S.set k none } ∧ Rep K { W with S := W.S.set k none } (.lst xs) (.ref a) := by
  have cs : ∀ {j : Nat} {ys : List D}, (W.S.set k none)[j]? = some (some ys) → j ≠ k ∧ W.S[j]? = some (some ys) := fun {j ys} e => by
    by_cases hj : j = k
    · subst hj
      rw [List.getElem?_set_self (List.getElem?_eq_some_iff.mp hk).1] at e
      cases e
    · rw [List.getElem?_set_ne (Ne.symm hj)] at e
      exact ⟨hj, e⟩
  have lv : ∀ b, Live { W with S := W.S.set k none } b → Live W b := fun b ⟨j, ys, kd, h1, h2⟩ => ⟨j, ys, kd, (cs h1).2, h2⟩
  have E : Ext W { W with S := W.S.set k none } := ⟨fun b o h n => ⟨h, fun z => n (lv b z), id⟩, fun _ _ h => h⟩
  refine ⟨⟨by simp [A.len], fun i j b k1 k2 ys zs h1 h2 h3 h4 => A.inj i j b k1 k2 ys zs (cs h1).2 (cs h2).2 h3 h4, fun j ys h => ?_, fun b h => ?_⟩, E, ?_⟩
  · obtain ⟨b, kd, ds, us, o, e1, e2, e3, r1⟩ := A.cell j ys (cs h).2
    exact ⟨b, kd, ds, us, o, e1, e2, e3, Reps.ext A E _ _ r1⟩
  · obtain ⟨h1, h2⟩ := A.res b h
    exact ⟨h1, fun z => h2 (lv b z)⟩
  · simp only [Rep]
    refine ⟨a, vs, rfl, hH, ?_, fun z => (A.res a z).2 ⟨k, xs, _, hk, ha⟩, Reps.ext A E _ _ r⟩
    rintro ⟨j, ys, kd, h1, h2⟩
    obtain ⟨h3, h4⟩ := cs h1
    exact h3 (A.inj j k a kd .lst ys xs h4 hk h2 ha)
/-- a cell's dict is locked: it changes no more -/
theorem frz_cell (A : Abs K W) {k : Nat} {ks : List Ky} {ds : List D} {a : Addr} {us : List V} {l : List (List Key)} {ob : Obj} (hk : W.S[k]? = some (some [.dic true ks ds])) (ha : W.as[k]? = some (a, .dic true)) (hH : W.H a = some (.dT (l.zip us)))
    (h1 : kT ks = some l) (h2 : us.length = ks.length) (r : Reps K W ds us) :
    Abs K { W with H := upd W.H a (.frz ob (.dT (l.zip us))), S := W.S.set k none } ∧ Ext W { W with H := upd W.H a (.frz ob (.dT (l.zip us))), S := W.S.set k none } ∧ Rep K { W with H := upd W.H a (.frz ob (.dT (l.zip us))), S := W.S.set k none } (.frd ks ds) (.ref a) := by
  have cs : ∀ {j : Nat} {ys : List D}, (W.S.set k none)[j]? = some (some ys) → j ≠ k ∧ W.S[j]? = some (some ys) := fun {j ys} e => by
    by_cases hj : j = k
    · subst hj
      rw [List.getElem?_set_self (List.getElem?_eq_some_iff.mp hk).1] at e
      cases e
    · rw [List.getElem?_set_ne (Ne.symm hj)] at e
      exact ⟨hj, e⟩
  have lv : ∀ b, Live { W with H := upd W.H a (.frz ob (.dT (l.zip us))), S := W.S.set k none } b → Live W b := fun b ⟨j, ys, kd, q1, q2⟩ => ⟨j, ys, kd, (cs q1).2, q2⟩
  have la : Live W a := ⟨k, _, _, hk, ha⟩
  have E : Ext W { W with H := upd W.H a (.frz ob (.dT (l.zip us))), S := W.S.set k none } := ⟨fun b o h n => ⟨by show upd W.H a _ b = _; rw [upd_ne (fun z : b = a => n (by rw [z]; exact la))]; exact h, fun z => n (lv b z), id⟩, fun _ _ h => h⟩
  refine ⟨⟨by simp [A.len], fun i j b k1 k2 ys zs q1 q2 q3 q4 => A.inj i j b k1 k2 ys zs (cs q1).2 (cs q2).2 q3 q4, fun j ys h => ?_, fun b h => ?_⟩, E, ?_⟩
  · obtain ⟨hjk, hj⟩ := cs h
    obtain ⟨b, kd, ds', vs, o, e1, e2, e3, r1⟩ := A.cell j ys hj
    refine ⟨b, kd, ds', vs, o, e1, ?_, e3, Reps.ext A E _ _ r1⟩
    show upd W.H a _ b = _
    rw [upd_ne (fun z : b = a => hjk (A.inj j k a kd _ ys _ hj hk (by rw [← z]; exact e1) ha))]
    exact e2
  · obtain ⟨⟨vs, q1⟩, q2⟩ := A.res b h
    exact ⟨⟨vs, by show upd W.H a _ b = _; rw [upd_ne (fun z : b = a => q2 (by rw [z]; exact la))]; exact q1⟩, fun z => q2 (lv b z)⟩
  · simp only [Rep]
    exact ⟨a, ob, us, l, rfl, upd_same, h1, h2, Reps.ext A E _ _ r⟩
/-! ### a list under work: its place is locked -/
theorem res_start (A : Abs K W) {p : Addr} (hp : W.H p = none) : Abs K { W with H := upd W.H p (.lst []), lk := fun a => a = p ∨ W.lk a } ∧ Ext W { W with H := upd W.H p (.lst []), lk := fun a => a = p ∨ W.lk a } := by
  obtain ⟨N, n1, n2⟩ := new_obj A hp (.lst [])
  have E : Ext W { W with H := upd W.H p (.lst []), lk := fun a => a = p ∨ W.lk a } := by
    refine ⟨fun b u h n => ⟨(N.ext.keep b u h n).1, n, fun z q => ?_⟩, fun _ _ h => h⟩
    rcases q with q | q
    · subst q
      rw [hp] at h
      cases h
    · exact z q
  refine ⟨⟨A.len, A.inj, fun k xs e => ?_, fun a h => ?_⟩, E⟩
  · obtain ⟨a, kd, ds, vs, o, e1, e2, e3, r⟩ := A.cell k xs e
    exact ⟨a, kd, ds, vs, o, e1, by show upd W.H p _ a = _; rw [upd_ne (ne_of_none e2 hp)]; exact e2, e3, Reps.ext A E _ _ r⟩
  · rcases h with h | h
    · subst h
      exact ⟨⟨[], upd_same⟩, n1⟩
    · obtain ⟨⟨vs, e⟩, n⟩ := A.res a h
      exact ⟨⟨vs, by show upd W.H p _ a = _; rw [upd_ne (ne_of_none e hp)]; exact e⟩, n⟩
mutual
theorem Rep.upd (A : Abs K W) {p : Addr} (hl : W.lk p) (us : List V) : ∀ (d : D) (v : V), Rep K W d v → Rep K { W with H := upd W.H p (.lst us) } d v
  | .non, v, h => by simpa only [Rep] using h
  | .bl b, v, h => by simpa only [Rep] using h
  | .int i, v, h => by simpa only [Rep] using h
  | .str s, v, h => by simpa only [Rep] using h
  | .ty n, v, h => by simpa only [Rep] using h
  | .dic t ks ds, v, h => by
    simp only [Rep] at h ⊢
    obtain ⟨a, us', o, e, h, h2, h3, n, r⟩ := h
    refine ⟨a, us', o, e, ?_, h2, h3, n, Reps.upd A hl us ds us' r⟩
    obtain ⟨⟨ws, e2⟩, _⟩ := A.res p hl
    rw [upd_ne (ne_of h e2 (fun z => dicO_nolst h3 z))]
    exact h
  | .frd ks ds, v, h => by
    simp only [Rep] at h ⊢
    obtain ⟨a, ob, us', l, e, h, h2, h3, r⟩ := h
    refine ⟨a, ob, us', l, e, ?_, h2, h3, Reps.upd A hl us ds us' r⟩
    obtain ⟨⟨ws, e2⟩, _⟩ := A.res p hl
    rw [upd_ne (ne_of h e2 (fun z => nomatch z))]
    exact h
  | .set is, v, h => by
    simp only [Rep] at h ⊢
    obtain ⟨a, n, e, h⟩ := h
    refine ⟨a, n, e, ?_⟩
    obtain ⟨⟨ws, e2⟩, _⟩ := A.res p hl
    rw [upd_ne (ne_of h e2 (fun z => nomatch z))]
    exact h
  | .exc c, v, h => by simp only [Rep] at h
  | .obj c k, v, h => by simpa only [Rep] using h
  | .dct t k, v, h => by simpa only [Rep] using h
  | .ref k, v, h => by simpa only [Rep] using h
  | .tup ds, v, h => by
    simp only [Rep] at h ⊢
    obtain ⟨a, vs, e, h, r⟩ := h
    refine ⟨a, vs, e, ?_, Reps.upd A hl us ds vs r⟩
    obtain ⟨⟨ws, e2⟩, _⟩ := A.res p hl
    rw [upd_ne (ne_of h e2 (fun z => nomatch z))]
    exact h
  | .lst ds, v, h => by
    simp only [Rep] at h ⊢
    obtain ⟨a, vs, e, h, n, l, r⟩ := h
    refine ⟨a, vs, e, ?_, n, l, Reps.upd A hl us ds vs r⟩
    rw [upd_ne (fun z : a = p => l (by rw [z]; exact hl))]
    exact h
  | .fro ds, v, h => by
    simp only [Rep] at h ⊢
    obtain ⟨a, vs, e, h, r⟩ := h
    refine ⟨a, vs, e, ?_, Reps.upd A hl us ds vs r⟩
    rcases h with ⟨o, n, h⟩ | h
    · obtain ⟨⟨ws, e2⟩, _⟩ := A.res p hl
      refine .inl ⟨o, n, ?_⟩
      rw [upd_ne (ne_of h e2 (fun z => nomatch z))]
      exact h
    · exact .inr h
theorem Reps.upd (A : Abs K W) {p : Addr} (hl : W.lk p) (us : List V) : ∀ (ds : List D) (vs : List V), Reps K W ds vs → Reps K { W with H := upd W.H p (.lst us) } ds vs
  | [], vs, h => by simpa only [Reps] using h
  | d :: ds, vs, h => by
    simp only [Reps] at h ⊢
    obtain ⟨v, r, e, h1, h2⟩ := h
    exact ⟨v, r, e, Rep.upd A hl us d v h1, Reps.upd A hl us ds r h2⟩
end
theorem res_upd (A : Abs K W) {p : Addr} (hl : W.lk p) (us : List V) : Abs K { W with H := upd W.H p (.lst us) } := by
  obtain ⟨⟨ws, e0⟩, nl⟩ := A.res p hl
  refine ⟨A.len, A.inj, fun k xs e => ?_, fun a h => ?_⟩
  · obtain ⟨a, kd, ds, vs, o, e1, e2, e3, r⟩ := A.cell k xs e
    refine ⟨a, kd, ds, vs, o, e1, ?_, e3, Reps.upd A hl us _ _ r⟩
    show L2.upd W.H p _ a = _
    rw [upd_ne (fun z : a = p => nl (by rw [← z]; exact ⟨k, xs, kd, e, e1⟩))]
    exact e2
  · obtain ⟨⟨vs, e⟩, n⟩ := A.res a h
    refine ⟨?_, n⟩
    by_cases ha : a = p
    · subst ha
      exact ⟨us, upd_same⟩
    · exact ⟨vs, by show L2.upd W.H p _ a = _; rw [upd_ne ha]; exact e⟩
mutual
theorem Rep.lkm {l : Addr → Prop} (hl : ∀ a, l a → W.lk a) : ∀ (d : D) (v : V), Rep K W d v → Rep K { W with lk := l } d v
  | .non, v, h => by simpa only [Rep] using h
  | .bl b, v, h => by simpa only [Rep] using h
  | .int i, v, h => by simpa only [Rep] using h
  | .str s, v, h => by simpa only [Rep] using h
  | .ty n, v, h => by simpa only [Rep] using h
  | .dic t ks ds, v, h => by
    simp only [Rep] at h ⊢
    obtain ⟨a, us, o, e, h, h2, h3, n, r⟩ := h
    exact ⟨a, us, o, e, h, h2, h3, n, Reps.lkm hl ds us r⟩
  | .frd ks ds, v, h => by
    simp only [Rep] at h ⊢
    obtain ⟨a, ob, us, l, e, h, h2, h3, r⟩ := h
    exact ⟨a, ob, us, l, e, h, h2, h3, Reps.lkm hl ds us r⟩
  | .set is, v, h => by simpa only [Rep] using h
  | .exc c, v, h => by simpa only [Rep] using h
  | .obj c k, v, h => by simpa only [Rep] using h
  | .dct t k, v, h => by simpa only [Rep] using h
  | .ref k, v, h => by simpa only [Rep] using h
  | .tup ds, v, h => by
    simp only [Rep] at h ⊢
    obtain ⟨a, vs, e, h, r⟩ := h
    exact ⟨a, vs, e, h, Reps.lkm hl ds vs r⟩
  | .lst ds, v, h => by
    simp only [Rep] at h ⊢
    obtain ⟨a, vs, e, h, n, k, r⟩ := h
    exact ⟨a, vs, e, h, n, fun z => k (hl a z), Reps.lkm hl ds vs r⟩
  | .fro ds, v, h => by
    simp only [Rep] at h ⊢
    obtain ⟨a, vs, e, h, r⟩ := h
    exact ⟨a, vs, e, h, Reps.lkm hl ds vs r⟩
theorem Reps.lkm {l : Addr → Prop} (hl : ∀ a, l a → W.lk a) : ∀ (ds : List D) (vs : List V), Reps K W ds vs → Reps K { W with lk := l } ds vs
  | [], vs, h => by simpa only [Reps] using h
  | d :: ds, vs, h => by
    simp only [Reps] at h ⊢
    obtain ⟨v, r, e, h1, h2⟩ := h
    exact ⟨v, r, e, Rep.lkm hl d v h1, Reps.lkm hl ds r h2⟩
end
theorem res_end (A : Abs K W) {l : Addr → Prop} (hl : ∀ a, l a → W.lk a) : Abs K { W with lk := l } :=
  ⟨A.len, A.inj, fun k xs e => let ⟨a, kd, ds, vs, o, e1, e2, e3, r⟩ := A.cell k xs e; ⟨a, kd, ds, vs, o, e1, e2, e3, Reps.lkm hl _ _ r⟩, fun a h => A.res a (hl a h)⟩
/-! ### an object of another kind is changed -/
theorem dicO_noext {t : Bool} {ks : List Ky} {us : List V} {φ : Heap → Prop} (h : dicO t ks us = some (.ext φ)) : False := by
  cases t with
  | true => obtain ⟨_, _, z⟩ := dicO_T h; cases z
  | false => obtain ⟨_, _, z⟩ := dicO_K h; cases z
theorem upd_ext {H : Hp} {q a : Addr} {φ : Heap → Prop} {o u : HO} (hD : H q = some (.ext φ)) (h : H a = some u) (hn : u ≠ .ext φ) : upd H q o a = some u := by
  rw [upd_ne (fun z : a = q => by rw [z, hD] at h; exact hn (Option.some.inj h).symm)]
  exact h
mutual
theorem Rep.updE {q : Addr} {φ : Heap → Prop} (hD : W.H q = some (.ext φ)) (o : HO) : ∀ (d : D) (v : V), Rep K W d v → Rep K { W with H := upd W.H q o } d v
  | .non, v, h => by simpa only [Rep] using h
  | .bl b, v, h => by simpa only [Rep] using h
  | .int i, v, h => by simpa only [Rep] using h
  | .str s, v, h => by simpa only [Rep] using h
  | .ty n, v, h => by simpa only [Rep] using h
  | .dic t ks ds, v, h => by
    simp only [Rep] at h ⊢
    obtain ⟨a, us, u, e, h, h2, h3, n, r⟩ := h
    exact ⟨a, us, u, e, upd_ext hD h (fun z => dicO_noext (by rw [z] at h3; exact h3)), h2, h3, n, Reps.updE hD o ds us r⟩
  | .frd ks ds, v, h => by
    simp only [Rep] at h ⊢
    obtain ⟨a, ob, us, l, e, h, h2, h3, r⟩ := h
    exact ⟨a, ob, us, l, e, upd_ext hD h (fun z => nomatch z), h2, h3, Reps.updE hD o ds us r⟩
  | .set is, v, h => by
    simp only [Rep] at h ⊢
    obtain ⟨a, n, e, h⟩ := h
    exact ⟨a, n, e, upd_ext hD h (fun z => nomatch z)⟩
  | .exc c, v, h => by simpa only [Rep] using h
  | .obj c k, v, h => by simpa only [Rep] using h
  | .dct t k, v, h => by simpa only [Rep] using h
  | .ref k, v, h => by simpa only [Rep] using h
  | .tup ds, v, h => by
    simp only [Rep] at h ⊢
    obtain ⟨a, vs, e, h, r⟩ := h
    exact ⟨a, vs, e, upd_ext hD h (fun z => nomatch z), Reps.updE hD o ds vs r⟩
  | .lst ds, v, h => by
    simp only [Rep] at h ⊢
    obtain ⟨a, vs, e, h, n, l, r⟩ := h
    exact ⟨a, vs, e, upd_ext hD h (fun z => nomatch z), n, l, Reps.updE hD o ds vs r⟩
  | .fro ds, v, h => by
    simp only [Rep] at h ⊢
    obtain ⟨a, vs, e, h, r⟩ := h
    refine ⟨a, vs, e, ?_, Reps.updE hD o ds vs r⟩
    rcases h with ⟨u, n, h⟩ | h
    · exact .inl ⟨u, n, upd_ext hD h (fun z => nomatch z)⟩
    · exact .inr h
theorem Reps.updE {q : Addr} {φ : Heap → Prop} (hD : W.H q = some (.ext φ)) (o : HO) : ∀ (ds : List D) (vs : List V), Reps K W ds vs → Reps K { W with H := upd W.H q o } ds vs
  | [], vs, h => by simpa only [Reps] using h
  | d :: ds, vs, h => by
    simp only [Reps] at h ⊢
    obtain ⟨v, r, e, h1, h2⟩ := h
    exact ⟨v, r, e, Rep.updE hD o d v h1, Reps.updE hD o ds r h2⟩
end
theorem cel_ne {u : HO} {φ : Heap → Prop} (h : isCel u) : u ≠ .ext φ := fun z => by rw [z] at h; exact h
theorem abs_updE (A : Abs K W) {q : Addr} {φ : Heap → Prop} (hD : W.H q = some (.ext φ)) (o : HO) : Abs K { W with H := upd W.H q o } := by
  refine ⟨A.len, A.inj, fun k xs e => ?_, fun a h => ?_⟩
  · obtain ⟨a, kd, ds, vs, u, e1, e2, e3, r⟩ := A.cell k xs e
    exact ⟨a, kd, ds, vs, u, e1, upd_ext hD e2 (cel_ne (celO_cel e3)), e3, Reps.updE hD o _ _ r⟩
  · obtain ⟨⟨vs, e⟩, n⟩ := A.res a h
    exact ⟨⟨vs, upd_ext hD e (fun z => nomatch z)⟩, n⟩
end
end AG
namespace AG
open PySem PySem.Spec PyProof.Rows L2

section
open PySem.SeqAt
theorem dict_eq_str (l : Addr) (es : Array DictEntry) (n : Nat) (sl : Array (Option Value)) (b : Str) (u : Tok) :
    Meets (Builtin.«dict.__eq__» ⟨[.ref l, .str b u], []⟩) (fun _ R s => s.heap.get? l = some { cls := .type "dict", dict := none, data := .dict es n, slots := sl } ∧ R (.ok (.ret .notImplemented)) s) :=
  .of_wp fun prog w A R s h => by obtain ⟨hp, g, d, tk, os⟩ := s; obtain ⟨hl, h⟩ := h; have f1 := F.sub_str_dict; wp_walk using wpAny_load hl; exact ⟨_, rfl, h⟩
theorem dict_ne_str (l : Addr) (es : Array DictEntry) (n : Nat) (sl : Array (Option Value)) (b : Str) (u : Tok) :
    Meets (Builtin.«dict.__ne__» ⟨[.ref l, .str b u], []⟩) (fun _ R s => s.heap.get? l = some { cls := .type "dict", dict := none, data := .dict es n, slots := sl } ∧ R (.ok (.ret .notImplemented)) s) :=
  .of_wp fun prog w A R s h => by obtain ⟨hp, g, d, tk, os⟩ := s; obtain ⟨hl, h⟩ := h; have f1 := F.sub_str_dict; wp_walk using wpAny_load hl; exact ⟨_, rfl, h⟩
theorem str_eq_dict (b : Str) (u : Tok) (l : Addr) (es : Array DictEntry) (n : Nat) (sl : Array (Option Value)) :
    Meets (Builtin.«str.__eq__» ⟨[.str b u, .ref l], []⟩) (fun _ R s => s.heap.get? l = some { cls := .type "dict", dict := none, data := .dict es n, slots := sl } ∧ R (.ok (.ret .notImplemented)) s) :=
  .of_wp fun prog w A R s h => by obtain ⟨hp, g, d, tk, os⟩ := s; obtain ⟨hl, h⟩ := h; wp_walk using wpAny_load hl; exact ⟨_, rfl, h⟩
theorem str_ne_dict (b : Str) (u : Tok) (l : Addr) (es : Array DictEntry) (n : Nat) (sl : Array (Option Value)) :
    Meets (Builtin.«str.__ne__» ⟨[.str b u, .ref l], []⟩) (fun _ R s => s.heap.get? l = some { cls := .type "dict", dict := none, data := .dict es n, slots := sl } ∧ R (.ok (.ret .notImplemented)) s) :=
  .of_wp fun prog w A R s h => by obtain ⟨hp, g, d, tk, os⟩ := s; obtain ⟨hl, h⟩ := h; wp_walk using wpAny_load hl; exact ⟨_, rfl, h⟩
section
variable {A : Around} {s : Shared}
theorem rcE_dict_str {l : Addr} {es : Array DictEntry} {n : Nat} {sl : Array (Option Value)} (b : Str) (u : Tok) (ho : s.heap.get? l = some { cls := .type "dict", dict := none, data := .dict es n, slots := sl }) (hu : A.units < cLine) : RcAt A s (.ref l) (.str b u) false := fun prog w E Q h =>
  rc_eq_decline_or (k := false) ⟨_, ho, rfl⟩ (typeIs_str s b u) (by decide) F.sub_str_dict F.slot_dict_eq F.slot_str_eq_refl
    (fun _ hq => call_meets F.slot_dict_eq ⟨_, ho, rfl⟩ F.entry_dict_eq (F.args_dict_eq_2 _ _) (dict_eq_str l es n sl b u) ⟨ho, hq⟩)
    (fun _ hq => call_meets F.slot_str_eq_refl (typeIs_str s b u) F.entry_str_eq (F.args_str_eq_2 _ _) (str_eq_dict b u l es n sl) ⟨ho, hq⟩)
    (fun _ hq => wpAny_of_eq (rfl : isSame (.ref l) (.str b u) = pure false) hq) (.inr hu) h
theorem rcN_dict_str {l : Addr} {es : Array DictEntry} {n : Nat} {sl : Array (Option Value)} (b : Str) (u : Tok) (ho : s.heap.get? l = some { cls := .type "dict", dict := none, data := .dict es n, slots := sl }) (hu : A.units < cLine) : RcNeAt A s (.ref l) (.str b u) true := fun prog w E Q h =>
  rc_ne_decline_or (k := false) ⟨_, ho, rfl⟩ (typeIs_str s b u) (by decide) F.sub_str_dict F.slot_dict_ne F.slot_str_ne_refl
    (fun _ hq => call_meets F.slot_dict_ne ⟨_, ho, rfl⟩ F.entry_dict_ne (F.args_dict_ne_2 _ _) (dict_ne_str l es n sl b u) ⟨ho, hq⟩)
    (fun _ hq => call_meets F.slot_str_ne_refl (typeIs_str s b u) F.entry_str_ne (F.args_str_ne_2 _ _) (str_ne_dict b u l es n sl) ⟨ho, hq⟩)
    (fun _ hq => wpAny_of_eq (rfl : isSame (.ref l) (.str b u) = pure false) hq) (.inr hu) h
end
end
def Sl (K : PySem.W.Frag) (W : Wd) (ρ : Env) (σ : L2.St) : Prop := ρ.length = σ.length ∧ ∀ (i : Nat) (d : D), ρ[i]? = some (some d) → ∃ v, σ[i]? = some (some v) ∧ Rep K W d v
theorem Sl.ext {K : PySem.W.Frag} {W W' : Wd} {ρ : Env} {σ : L2.St} (A : Abs K W) (E : Ext W W') (h : Sl K W ρ σ) : Sl K W' ρ σ :=
  ⟨h.1, fun i d e => let ⟨v, h1, h2⟩ := h.2 i d e; ⟨v, h1, Rep.ext A E d v h2⟩⟩
theorem Sl.extL {K : PySem.W.Frag} {W W' : Wd} {ρ : Env} {σ : L2.St} (A : Abs K W) (E : ExtL W W') (h : Sl K W ρ σ) : Sl K W' ρ σ :=
  ⟨h.1, fun i d e => let ⟨v, h1, h2⟩ := h.2 i d e; ⟨v, h1, Rep.extL A E d v h2⟩⟩
theorem Sl.set {K : PySem.W.Frag} {W : Wd} {ρ : Env} {σ : L2.St} {d : D} {v : V} (h : Sl K W ρ σ) (i : Nat) (r : Rep K W d v) : Sl K W (ρ.set i (some d)) (σ.set i (some v)) := by
  refine ⟨by simp [h.1], fun j d' e => ?_⟩
  by_cases hj : j = i
  · subst hj
    have hl : j < ρ.length := by
      have := (List.getElem?_eq_some_iff.mp e).1
      simpa using this
    rw [List.getElem?_set_self hl] at e
    cases e
    exact ⟨v, by rw [List.getElem?_set_self (by rw [← h.1]; exact hl)], r⟩
  · rw [List.getElem?_set_ne (Ne.symm hj)] at e
    obtain ⟨v', h1, h2⟩ := h.2 j d' e
    exact ⟨v', by rw [List.getElem?_set_ne (Ne.symm hj)]; exact h1, h2⟩
/-! ### readings -/
section
variable (K : PySem.W.Frag)
def tI (m : Env → M D) : TE := fun σ H Q => ∃ (W : Wd) (ρ : Env), W.H = H ∧ Abs K W ∧ Sl K W ρ σ ∧ ∃ d S', m ρ W.S = .ok d S' ∧ ∀ W' v, Nxt K W S' W' → Rep K W' d v → Q v W'.H
def tT (m : Env → M Bool) : TT := fun σ H Q => ∃ (W : Wd) (ρ : Env), W.H = H ∧ Abs K W ∧ Sl K W ρ σ ∧ ∃ k S', m ρ W.S = .ok k S' ∧ ∀ W', Nxt K W S' W' → Q k W'.H
def tAs (m : Env → M (List D)) : TA := fun σ H Q => ∃ (W : Wd) (ρ : Env), W.H = H ∧ Abs K W ∧ Sl K W ρ σ ∧ ∃ ds S', m ρ W.S = .ok ds S' ∧ ∀ W' vs, Nxt K W S' W' → Reps K W' ds vs → Q vs W'.H
def tOi (m : Env → M (Option Int)) : TO := fun σ H Q => ∃ (W : Wd) (ρ : Env), W.H = H ∧ Abs K W ∧ Sl K W ρ σ ∧ ∃ o S', m ρ W.S = .ok o S' ∧ ∀ W', Nxt K W S' W' → Q o W'.H
end
section
variable {X : Cx} {a b c e : Expr} {ta : TE} {pos : Pos} {ma mb mc : Env → M D}
theorem _root_.L2.PE.weak {t t' : TE} (h : PE X e t) (w : ∀ σ H Q, t' σ H Q → t σ H Q) : PE X e t' := ⟨fun pins s σ H Q I q => h.run pins s σ H Q I (w σ H Q q)⟩
theorem _root_.L2.PT.weak {t t' : TT} (h : PT X e t) (w : ∀ σ H Q, t' σ H Q → t σ H Q) : PT X e t' := ⟨fun pins s σ H Q I q => h.run pins s σ H Q I (w σ H Q q)⟩
theorem _root_.L2.PW.weak {t t' : TT} (h : PW X e t) (w : ∀ σ H Q, t' σ H Q → t σ H Q) : PW X e t' := ⟨fun wh pins s σ H Q I q => h.run wh pins s σ H Q I (w σ H Q q)⟩
theorem _root_.L2.PA.weak {es : List Expr} {t t' : TA} (h : PA X es t) (w : ∀ σ H Q, t' σ H Q → t σ H Q) : PA X es t' := ⟨fun p pins s σ H Q I q => h.run p pins s σ H Q I (w σ H Q q)⟩
theorem _root_.L2.PS.weak {st : Stmt} {t t' : TS} (h : PS X st t) (w : ∀ D σ H, t' D σ H → t D σ H) : PS X st t' := ⟨fun pins s σ H D I q => h.run pins s σ H D I (w D σ H q)⟩
theorem _root_.L2.PSs.weak {st : List Stmt} {t t' : TS} (h : PSs X st t) (w : ∀ D σ H, t' D σ H → t D σ H) : PSs X st t' := ⟨fun pins s σ H D I q => h.run pins s σ H D I (w D σ H q)⟩

/-- a rule of two values, by data -/
def OpOk (K : PySem.W.Frag) (r : R2) (g : D → D → M D) : Prop :=
  ∀ (W : Wd) (d1 d2 : D) (v1 v2 : V) (d : D) (S' : Sto) (Q : VK), Abs K W → Rep K W d1 v1 → Rep K W d2 v2 → g d1 d2 W.S = .ok d S' → (∀ W' v, Nxt K W S' W' → Rep K W' d v → Q v W'.H) → r v1 v2 W.H Q
theorem s_op2 {r : R2} {g : D → D → M D} (hk : OpOk X.K r g) : ∀ σ H Q, tI X.K (fun ρ => bnd (ma ρ) fun x => bnd (mb ρ) fun y => g x y) σ H Q → tOp r (tI X.K ma) (tI X.K mb) σ H Q := by
  rintro σ H Q ⟨W, ρ, rfl, A, sl, d, S', e, k⟩
  obtain ⟨x, S1, e1, e⟩ := bnd_ok e
  obtain ⟨y, S2, e2, e⟩ := bnd_ok e
  refine ⟨W, ρ, rfl, A, sl, x, S1, e1, fun W1 v1 N1 r1 => ?_⟩
  refine ⟨W1, ρ, rfl, N1.ab, sl.ext A N1.ext, y, S2, by rw [N1.st]; exact e2, fun W2 v2 N2 r2 => ?_⟩
  exact hk W2 x y v1 v2 d S' Q N2.ab (Rep.ext N1.ab N2.ext _ _ r1) r2 (by rw [N2.st]; exact e) fun W3 v N3 r3 => k W3 v ((N1.trans N2).trans N3) r3
theorem s_bin {op : Operator} {r : R2} {g : D → D → M D} (ho : OpR X (binaryOp op) r) (hk : OpOk X.K r g) (ha : PE X a (tI X.K ma)) (hb : PE X b (tI X.K mb)) :
    PE X (.BinOp a op b pos) (tI X.K fun ρ => bnd (ma ρ) fun x => bnd (mb ρ) fun y => g x y) := (pe_op ho ha hb).weak (s_op2 hk)
theorem rep_int {K : PySem.W.Frag} {W : Wd} {i : Int} {v : V} (h : Rep K W (.int i) v) : v = .int i := by simpa only [Rep] using h
theorem rep_bl {K : PySem.W.Frag} {W : Wd} {i : Bool} {v : V} (h : Rep K W (.bl i) v) : v = .bl i := by simpa only [Rep] using h
theorem int_rep {K : PySem.W.Frag} {W : Wd} (i : Int) : Rep K W (.int i) (.int i) := by simp only [Rep]
theorem bl_rep {K : PySem.W.Frag} {W : Wd} (i : Bool) : Rep K W (.bl i) (.bl i) := by simp only [Rep]
theorem str_rep {K : PySem.W.Frag} {W : Wd} (i : Str) : Rep K W (.str i) (.str i) := by simp only [Rep]
theorem small_le {n : Nat} (h : AG.small n = true) : n ≤ 1000000 := of_decide_eq_true h
theorem line_1M {n : Nat} (h : n ≤ 3000000) : n ≤ sizeLine := by rw [sizeLine_eq]; omega
theorem big_lt {i : Int} (h : big i = true) : i.natAbs < 2 ^ 200 := of_decide_eq_true h
theorem and2 {a b : Bool} (h : (a && b) = true) : a = true ∧ b = true := by
  cases a <;> cases b <;> simp_all
/-! ### the operators -/
/-- a locked list and a list -/
def rCatF (K : PySem.W.Frag) : R2 := fun x y H Q => ∃ l b xs zs, x = .ref l ∧ y = .ref b ∧ SqF K H l xs ∧ H b = some (.lst zs) ∧ xs.length + zs.length ≤ 2000000 ∧ ∀ p, H p = none → Q (.ref p) (upd H p (.lst (xs ++ zs)))
theorem op_catF : OpR X (binaryOp .Add) (rCatF X.K) := by
  intro pins s σ H x y v u Q I rx ry h
  obtain ⟨l, b, xs, zs, hx, hy, hF, hB, few, q⟩ := h
  subst hx hy
  cases rx
  cases ry
  have key : ∃ (its : List Value) (n : Nat), Vals xs its ∧ s.heap.get? l = some { cls := .type "list", data := .seq its.toArray n } := by
    rcases hF with ⟨o, n, h⟩ | ⟨h, its, n, hk⟩
    · obtain ⟨_, _, its, n, r, e⟩ := I.hok l _ h
      exact ⟨its, n, r, e⟩
    · have h2 : SqL X.K H l xs := by
        rcases h with h | h
        · rcases h with h | ⟨o, h⟩ <;> cases h
        · exact .inr h
      obtain ⟨its', r, ⟨o, m, e1, _, _, hd⟩, _⟩ := I.list h2
      have e2 := I.kIn l _ hk
      rw [e1] at e2
      cases e2
      cases hd
      exact ⟨its', n, r, e1⟩
  obtain ⟨its, n, r, e⟩ := key
  obtain ⟨_, its2, n2, r2, hl2, e2⟩ := I.lstM hB
  have h1 := r.length
  have hsz : xs.length + zs.length ≤ sizeLine := by rw [sizeLine_eq]; omega
  refine PySem.P.add_list e e2 ?_ (by rw [List.size_toArray, List.size_toArray, ← h1, ← hl2]; exact hsz)
  rw [show its.toArray ++ its2.toArray = (its ++ its2).toArray by simp]
  exact ⟨.ref _, _, I.lnew (t' := s.toks) (r.append r2) (by rw [List.length_append]; exact hsz), rfl, q _ I.fresh⟩
def rAdd (K : PySem.W.Frag) : R2 := fun x y H Q => (∃ i j, x = .int i ∧ y = .int j ∧ Q (.int (i + j)) H) ∨ (rCatA K x y H Q ∨ (rCat x y H Q ∨ rCatF K x y H Q))
theorem o_add : OpR X (binaryOp .Add) (rAdd X.K) := OpR.or op_add (OpR.or op_catA (OpR.or op_cat op_catF))
theorem k_add {K : PySem.W.Frag} : OpOk K (rAdd K) (binD .Add) := by
  intro W d1 d2 v1 v2 d S' Q A r1 r2 e k
  change addD d1 d2 W.S = _ at e
  unfold addD at e
  split at e
  · obtain ⟨rfl, rfl⟩ := ret_ok e
    rw [rep_int r1, rep_int r2]
    exact .inl ⟨_, _, rfl, rfl, k W _ (Nxt.refl A) (int_rep _)⟩
  · rename_i xs ys
    obtain ⟨c, e⟩ := need_ok e
    obtain ⟨rfl, rfl⟩ := ret_ok e
    obtain ⟨c1, c2⟩ := and2 c
    have r1' := r1
    have r2' := r2
    simp only [Rep] at r1 r2
    obtain ⟨p, vs, rfl, hp, q1⟩ := r1
    obtain ⟨p2, us, rfl, hp2, q2⟩ := r2
    refine .inr (.inl ⟨p, p2, vs, us, rfl, rfl, SqT.of hp, SqT.of hp2, ?_, fun z => ?_, fun z z2 => ?_, fun z z2 q hq => ?_⟩)
    · rw [reps_len _ _ q1, reps_len _ _ q2]
      have := small_le c1; have := small_le c2
      exact line_1M (by omega)
    · subst z
      have hx : xs = [] := by
        have := reps_len _ _ q1
        cases xs with
        | nil => rfl
        | cons _ _ => simp at this
      subst hx
      exact k W _ (Nxt.refl A) (by simpa using r2')
    · subst z2
      have hx : ys = [] := by
        have := reps_len _ _ q2
        cases ys with
        | nil => rfl
        | cons _ _ => simp at this
      subst hx
      exact k W _ (Nxt.refl A) (by simpa using r1')
    · obtain ⟨N, r⟩ := new_tup A hq (reps_app _ _ _ _ q1 q2)
      exact k _ _ N r
  · obtain ⟨c, e⟩ := need_ok e
    obtain ⟨rfl, rfl⟩ := ret_ok e
    obtain ⟨c1, c2⟩ := and2 c
    simp only [Rep] at r1 r2
    obtain ⟨p, vs, rfl, hp, _, _, q1⟩ := r1
    obtain ⟨p2, us, rfl, hp2, _, _, q2⟩ := r2
    refine .inr (.inr (.inl ⟨p, p2, vs, us, rfl, rfl, hp, hp2, ?_, fun q hq => ?_⟩))
    · rw [reps_len _ _ q1, reps_len _ _ q2]
      have := small_le c1; have := small_le c2
      exact line_1M (by omega)
    · obtain ⟨N, r⟩ := new_lst A hq (reps_app _ _ _ _ q1 q2)
      exact k _ _ N r
  · obtain ⟨c, e⟩ := need_ok e
    obtain ⟨rfl, rfl⟩ := ret_ok e
    obtain ⟨c1, c2⟩ := and2 c
    simp only [Rep] at r1 r2
    obtain ⟨p, vs, rfl, hp, q1⟩ := r1
    obtain ⟨p2, us, rfl, hp2, _, _, q2⟩ := r2
    refine .inr (.inr (.inr ⟨p, p2, vs, us, rfl, rfl, hp, hp2, ?_, fun q hq => ?_⟩))
    · rw [reps_len _ _ q1, reps_len _ _ q2]
      have := small_le c1; have := small_le c2
      omega
    · obtain ⟨N, r⟩ := new_lst A hq (reps_app _ _ _ _ q1 q2)
      exact k _ _ N r
  · cases e
theorem k_sub {K : PySem.W.Frag} : OpOk K (rI0 fun i j => .int (i - j)) (binD .Sub) := by
  intro W d1 d2 v1 v2 d S' Q A r1 r2 e k
  change subD d1 d2 W.S = _ at e
  unfold subD at e
  split at e
  · obtain ⟨rfl, rfl⟩ := ret_ok e
    rw [rep_int r1, rep_int r2]
    exact ⟨_, _, rfl, rfl, k W _ (Nxt.refl A) (int_rep _)⟩
  · cases e
theorem k_div {K : PySem.W.Frag} : OpOk K (rI CDivW fun i j => .int (i / j)) (binD .FloorDiv) := by
  intro W d1 d2 v1 v2 d S' Q A r1 r2 e k
  change divD d1 d2 W.S = _ at e
  unfold divD at e
  split at e
  · obtain ⟨c, e⟩ := need_ok e
    obtain ⟨rfl, rfl⟩ := ret_ok e
    obtain ⟨c1, c2⟩ := and2 c
    rw [rep_int r1, rep_int r2]
    exact ⟨_, _, rfl, rfl, wide_div (of_decide_eq_true c1) (big_lt c2) (by decide) (by decide), k W _ (Nxt.refl A) (int_rep _)⟩
  · cases e
theorem k_mod {K : PySem.W.Frag} : OpOk K (rI (fun _ j => 0 < j) fun i j => .int (i % j)) (binD .Mod) := by
  intro W d1 d2 v1 v2 d S' Q A r1 r2 e k
  change modD d1 d2 W.S = _ at e
  unfold modD at e
  split at e
  · obtain ⟨c, e⟩ := need_ok e
    obtain ⟨rfl, rfl⟩ := ret_ok e
    rw [rep_int r1, rep_int r2]
    exact ⟨_, _, rfl, rfl, of_decide_eq_true c, k W _ (Nxt.refl A) (int_rep _)⟩
  · cases e
def CPw (i j : Int) : Prop := 0 ≤ j ∧ (Builtin.Int.intBits i : Int) * j ≤ 2 ^ 27
theorem o_powW : OpR X (binaryOp .Pow) (rI CPw fun i j => .int (i ^ j.toNat)) := opI fun _ _ _ _ _ _ _ hc q => pow_int hc.1 hc.2 q
theorem k_powW {K : PySem.W.Frag} : OpOk K (rI CPw fun i j => .int (i ^ j.toNat)) powWD := by
  intro W d1 d2 v1 v2 d S' Q A r1 r2 e k
  unfold powWD at e
  split at e
  · obtain ⟨c, e⟩ := need_ok e
    obtain ⟨rfl, rfl⟩ := ret_ok e
    obtain ⟨c1, c2⟩ := and2 c
    rw [rep_int r1, rep_int r2]
    exact ⟨_, _, rfl, rfl, ⟨of_decide_eq_true c1, of_decide_eq_true c2⟩, k W _ (Nxt.refl A) (int_rep _)⟩
  · cases e
theorem k_pow {K : PySem.W.Frag} : OpOk K (rI CPow fun i j => .int (i ^ j.toNat)) (binD .Pow) := by
  intro W d1 d2 v1 v2 d S' Q A r1 r2 e k
  change powD d1 d2 W.S = _ at e
  unfold powD at e
  split at e
  · obtain ⟨c, e⟩ := need_ok e
    obtain ⟨rfl, rfl⟩ := ret_ok e
    obtain ⟨c, c3⟩ := and2 c
    obtain ⟨c1, c2⟩ := and2 c
    rw [rep_int r1, rep_int r2]
    have := of_decide_eq_true c2
    exact ⟨_, _, rfl, rfl, ⟨of_decide_eq_true c1, by omega, of_decide_eq_true c3⟩, k W _ (Nxt.refl A) (int_rep _)⟩
  · cases e
theorem k_band {K : PySem.W.Frag} : OpOk K (rI0 fun i j => .int (Builtin.bitAnd i j)) (binD .BitAnd) := by
  intro W d1 d2 v1 v2 d S' Q A r1 r2 e k
  change bandD d1 d2 W.S = _ at e
  unfold bandD at e
  split at e
  · obtain ⟨rfl, rfl⟩ := ret_ok e
    rw [rep_int r1, rep_int r2]
    exact ⟨_, _, rfl, rfl, k W _ (Nxt.refl A) (int_rep _)⟩
  · cases e
set_option maxHeartbeats 4000000 in
theorem tuple_mul1 (l : Addr) (items : Array Value) (n : Nat) (dd : Option Addr) (sl : Array (Option Value)) (x : Int) (u : Tok) (c0 : (decide (x < -(2 ^ 63)) || decide (x ≥ 2 ^ 63)) = false) (c1 : (items.isEmpty || x == 1) = true) :
    Meets (Builtin.«tuple.__mul__» ⟨[.ref l, .int x u], []⟩) (fun _ R s => s.heap.get? l = some { cls := .type "tuple", dict := dd, data := .seq items n, slots := sl } ∧
      R (.ok (.ret (Value.ref l))) s) :=
  .of_wp fun prog w A R s h => by
    obtain ⟨hp, g, d, tk, os⟩ := s
    obtain ⟨hl, h⟩ := h
    have f1 := AutoSeq1.idx_int
    wp_walk using wpAny_loadPart' hl
    repeat (first
      | (refine wpAny_ite_false (decide_eq_false (by rw [c0]; exact Bool.false_ne_true)) ?_; wp_walk using wpAny_loadPart' hl)
      | (refine wpAny_ite_true (decide_eq_true c1) ?_; wp_walk using wpAny_loadPart' hl))
    exact ⟨_, rfl, h⟩
/-- a tuple once, or an empty one: it itself -/
def rOneT (K : PySem.W.Frag) : R2 := fun x y H Q => ∃ l k xs, x = .ref l ∧ y = .int k ∧ SqT K H l xs ∧ (xs = [] ∨ k = 1) ∧ -1000000 ≤ k ∧ k ≤ 1000000 ∧ Q x H
theorem op_oneT : OpR X (binaryOp .Mult) (rOneT X.K) := by
  intro pins s σ H x y v u Q I rx ry h
  obtain ⟨l, k, xs, rfl, rfl, hT, hk, h1, h2, q⟩ := h
  cases rx
  obtain ⟨t, rfl⟩ := ry
  obtain ⟨its, r, ⟨⟨cls, dd, data, sl⟩, ho, hc, n, hd⟩, hs⟩ := I.tuple hT
  simp only at hc hd
  subst hc hd
  have hle : its.length = xs.length := r.length.symm
  have c0 : (decide (k < -(2 ^ 63)) || decide (k ≥ 2 ^ 63)) = false := by
    rw [decide_eq_false (by omega), decide_eq_false (by omega)] <;> rfl
  have c1 : (its.toArray.isEmpty || k == 1) = true := by
    rcases hk with hk | hk
    · subst hk
      have : its = [] := List.eq_nil_of_length_eq_zero (by simpa using hle)
      subst this
      rfl
    · subst hk
      simp
  exact wpAny_binaryOp_repeat_ref (T := "tuple") (U := "int") (by decide) ⟨_, ho, rfl⟩ (fun s' => typeIs_int s' k t) noFill_tuple_mul F.fills_int_mul F.slot_int_rmul repeat_tuple F.slot_int_index.lookup
    (call_meets F.slot_int_rmul (typeIs_int s k t) F.entry_int_rmul (F.args_int_rmul_2 _ _) (int_rmul_tuple k t l its.toArray n dd sl)
      ⟨ho, rfl, ⟨_, ho, rfl⟩, call_meets F.slot_tuple_mul ⟨_, ho, rfl⟩ F.entry_tuple_mul (F.args_tuple_mul_2 _ _) (tuple_mul1 l its.toArray n dd sl k t c0 c1) ⟨ho, .ref l, H, I, rfl, q⟩⟩)
/-- a tuple so many times, as long as it is no more than a million items -/
def rManyT (K : PySem.W.Frag) : R2 := fun x y H Q => ∃ (l : Addr) (k : Int) (xs : List V), x = .ref l ∧ y = .int k ∧ SqT K H l xs ∧ xs ≠ [] ∧ 2 ≤ k ∧ k.toNat * xs.length ≤ 1000000 ∧ ∀ p, H p = none → Q (.ref p) (upd H p (.tup (List.replicate k.toNat xs).flatten))
theorem op_manyT : OpR X (binaryOp .Mult) (rManyT X.K) := by
  rintro pins s σ H x y v u Q I rx ry ⟨l, k, xs, rfl, rfl, hT, hne, h1, hz, q⟩
  cases rx
  obtain ⟨t, rfl⟩ := ry
  obtain ⟨its, r, ⟨⟨cls, dd, dat, sl⟩, ho, hc, n, hd⟩, hs⟩ := I.tuple hT
  simp only at hc hd
  subst hc hd
  have hle : xs.length = its.length := r.length
  have hl1 : 1 ≤ its.length := by
    rw [← hle]
    cases xs with
    | nil => exact absurd rfl hne
    | cons _ _ => simp
  rw [hle] at hz
  have hmul : ((its.length : Nat) : Int) * k = ((k.toNat * its.length : Nat) : Int) := by
    rw [Int.natCast_mul, Int.toNat_of_nonneg (by omega), Int.mul_comm]
  have hk : k.toNat ≤ 1000000 := Nat.le_trans (Nat.le_mul_of_pos_right _ hl1) hz
  have hss : its.toArray.size = its.length := List.size_toArray ..
  have hemp : its.toArray.isEmpty = false := by
    cases its with
    | nil => simp at hl1
    | cons _ _ => rfl
  have hfl : (List.replicate k.toNat its).flatten.length ≤ sizeLine := by
    rw [PyProof.Rows.lm_len_rep_flat, sizeLine_eq]
    omega
  have d0 : (decide (k < -(2 ^ 63)) || decide (k ≥ 2 ^ 63)) = false := by
    rw [decide_eq_false (show ¬ k < -(2 ^ 63) by omega), decide_eq_false (show ¬ k ≥ 2 ^ 63 by omega)]
    rfl
  have d1 : (its.toArray.isEmpty || k == 1) = false := by
    rw [hemp, beq_eq_false_iff_ne.mpr (show k ≠ 1 by omega)]
    rfl
  have d2 : (decide (k ≤ 0) || its.toArray.isEmpty) = false := by
    rw [hemp, decide_eq_false (show ¬ k ≤ 0 by omega)]
    rfl
  have d3 : ¬ ((its.toArray.size : Nat) : Int) * k > (2 ^ 63 - 1) / 8 := by
    rw [hss, hmul]
    omega
  have d4 : Builtin.Tuple.tupleTooMany (((its.toArray.size : Nat) : Int) * k) = false := by
    unfold Builtin.Tuple.tupleTooMany
    rw [hss, hmul, sizeLine_eq]
    exact decide_eq_false (by omega)
  have d5 : (List.foldl (fun x1 x2 => x1 ++ x2) #[] (List.replicate k.toNat its.toArray)).size ≤ sizeLine := by
    rw [size_rep, List.size_toArray]
    exact hfl
  have key := tuple_mulW l its.toArray n dd sl k t d0 d1 d2 d3 d4 d5
  rw [size_rep] at key
  exact wpAny_binaryOp_repeat_ref (T := "tuple") (U := "int") (by decide) ⟨_, ho, rfl⟩ (fun s' => typeIs_int s' k t) noFill_tuple_mul F.fills_int_mul F.slot_int_rmul repeat_tuple F.slot_int_index.lookup
    (call_meets F.slot_int_rmul (typeIs_int s k t) F.entry_int_rmul (F.args_int_rmul_2 _ _) (int_rmul_tuple k t l its.toArray n dd sl)
      ⟨ho, rfl, ⟨_, ho, rfl⟩, call_meets F.slot_tuple_mul ⟨_, ho, rfl⟩ F.entry_tuple_mul (F.args_tuple_mul_2 _ _) key ⟨ho, .ref s.heap.objs.size, _, I.laid (t' := s.toks) (o := .tup (List.replicate k.toNat xs).flatten) (fun b ob q => Heap.get?_push_of_some _ q) (Nat.le_refl _) ⟨by rw [PyProof.Rows.lm_len_rep_flat, sizeLine_eq, hle]; omega, _, r.rep k.toNat, IsTup.new _ _⟩, rfl, q _ (I.hok.fresh (Nat.le_refl _))⟩⟩)
def rMul (K : PySem.W.Frag) : R2 := fun x y H Q => rI CMulW (fun i j => .int (i * j)) x y H Q ∨ (rManyT K x y H Q ∨ (rOneT K x y H Q ∨ rRep x y H Q))
theorem o_mul : OpR X (binaryOp .Mult) (rMul X.K) := OpR.or op_mulW (OpR.or op_manyT (OpR.or op_oneT op_rep))
theorem reps_flat {K : PySem.W.Frag} {W : Wd} {ds : List D} {vs : List V} (r : Reps K W ds vs) : ∀ n : Nat, Reps K W (List.replicate n ds).flatten (List.replicate n vs).flatten
  | 0 => by simp [Reps]
  | n + 1 => by
    rw [List.replicate_succ, List.replicate_succ, List.flatten_cons, List.flatten_cons]
    exact reps_app _ _ _ _ r (reps_flat r n)
theorem k_mul {K : PySem.W.Frag} : OpOk K (rMul K) (binD .Mult) := by
  intro W d1 d2 v1 v2 d S' Q A r1 r2 e k
  change mulD d1 d2 W.S = _ at e
  unfold mulD at e
  split at e
  · obtain ⟨c, e⟩ := need_ok e
    obtain ⟨rfl, rfl⟩ := ret_ok e
    obtain ⟨c1, c2⟩ := and2 c
    rw [rep_int r1, rep_int r2]
    exact .inl ⟨_, _, rfl, rfl, wide_mul (big_lt c1) (big_lt c2) (by decide) (by decide) (by decide), k W _ (Nxt.refl A) (int_rep _)⟩
  · rename_i xs n
    obtain ⟨c, e⟩ := need_ok e
    obtain ⟨rfl, rfl⟩ := ret_ok e
    obtain ⟨c, c4⟩ := and2 c
    obtain ⟨c, c3⟩ := and2 c
    obtain ⟨c1, c2⟩ := and2 c
    rw [rep_int r2]
    simp only [Rep] at r1
    obtain ⟨p, vs, rfl, hp, q1⟩ := r1
    have hl := reps_len _ _ q1
    have hne : xs = [] → vs = [] := by
      intro z
      subst z
      exact List.eq_nil_of_length_eq_zero hl
    by_cases h1 : xs = [] ∨ n = 1
    · have h0 := of_decide_eq_true c1
      have h9 := of_decide_eq_true c3
      refine .inr (.inr (.inl ⟨p, n, vs, rfl, rfl, SqT.of hp, h1.imp hne id, h0, by omega, ?_⟩))
      have e1 : (List.replicate n.toNat xs).flatten = xs := by
        rcases h1 with h1 | h1
        · subst h1; simp
        · subst h1; simp
      rw [e1] at k
      exact k W _ (Nxt.refl A) (by simp only [Rep]; exact ⟨p, vs, rfl, hp, q1⟩)
    · have h2 : xs ≠ [] ∧ n ≠ 1 := ⟨fun z => h1 (.inl z), fun z => h1 (.inr z)⟩
      have h3 : 1 ≤ n := by
        rcases Bool.or_eq_true_iff.mp c2 with z | z
        · exact absurd (List.isEmpty_iff.mp z) h2.1
        · exact of_decide_eq_true z
      refine .inr (.inl ⟨p, n, vs, rfl, rfl, SqT.of hp, fun z => h2.1 (List.eq_nil_of_length_eq_zero (by rw [← hl, z]; rfl)), by omega, by rw [hl, Nat.mul_comm]; exact of_decide_eq_true c4, fun q hq => ?_⟩)
      obtain ⟨N, r⟩ := new_tup A hq (reps_flat q1 n.toNat)
      exact k _ _ N r
  · rename_i xs n
    obtain ⟨c, e⟩ := need_ok e
    obtain ⟨rfl, rfl⟩ := ret_ok e
    obtain ⟨c, c3⟩ := and2 c
    obtain ⟨c1, c2⟩ := and2 c
    have h1 := of_decide_eq_true c1
    have h2 := of_decide_eq_true c2
    have h3 := of_decide_eq_true c3
    rw [rep_int r2]
    simp only [Rep] at r1
    obtain ⟨p, vs, rfl, hp, _, _, q1⟩ := r1
    have hl := reps_len _ _ q1
    refine .inr (.inr (.inr ⟨p, n, vs, rfl, rfl, hp, by omega, by omega, by rw [hl]; exact line_1M (by omega), fun q hq => ?_⟩))
    obtain ⟨N, r⟩ := new_lst A hq (reps_flat q1 n.toNat)
    exact k _ _ N r
  · cases e
theorem mulLD_ok {K : PySem.W.Frag} {m : Bool} {W : Wd} {d1 d2 : D} {v1 v2 : V} {d : D} {S' : Sto} {Q : VK} (A : Abs K W) (r1 : Rep K W d1 v1) (r2 : Rep K W d2 v2) (e : mulLD m d1 d2 W.S = .ok d S') (k : ∀ W' v, Nxt K W S' W' → Rep K W' d v → Q v W'.H) : rMul K v1 v2 W.H Q := by
  unfold mulLD at e
  obtain ⟨d0, S1, e1, e⟩ := bnd_ok e
  unfold mulD at e1
  split at e1
  · obtain ⟨c, e1⟩ := need_ok e1
    obtain ⟨rfl, rfl⟩ := ret_ok e1
    cases e
  · obtain ⟨c, e1⟩ := need_ok e1
    obtain ⟨rfl, rfl⟩ := ret_ok e1
    cases e
  · rename_i xs n
    obtain ⟨c, e1⟩ := need_ok e1
    obtain ⟨rfl, rfl⟩ := ret_ok e1
    obtain ⟨c, c3⟩ := and2 c
    obtain ⟨c1, c2⟩ := and2 c
    have h1 := of_decide_eq_true c1
    have h2 := of_decide_eq_true c2
    have h3 := of_decide_eq_true c3
    rw [rep_int r2]
    simp only [Rep] at r1
    obtain ⟨p, vs, rfl, hp, _, _, q1⟩ := r1
    have hl := reps_len _ _ q1
    refine .inr (.inr (.inr ⟨p, n, vs, rfl, rfl, hp, by omega, by omega, by rw [hl]; exact line_1M (by omega), fun q hq => ?_⟩))
    cases m with
    | false =>
      obtain ⟨rfl, rfl⟩ := ret_ok (show ret _ W.S = _ from e)
      obtain ⟨N, r⟩ := new_lst A hq (reps_flat q1 n.toNat)
      exact k _ _ N r
    | true =>
      simp only [if_true] at e
      cases e
      obtain ⟨N, r⟩ := new_cell A hq (reps_flat q1 n.toNat)
      exact k _ _ N r
  · cases e1

/-! ### comparisons -/
def OpB (K : PySem.W.Frag) (r : R2) (g : D → D → M Bool) : Prop := OpOk K r (fun x y => bnd (g x y) fun k => ret (.bl k))
theorem opB_of {K : PySem.W.Frag} {r : R2} {g : D → D → M Bool}
    (h : ∀ (W : Wd) (d1 d2 : D) (v1 v2 : V) (c : Bool) (S' : Sto) (Q : VK), Abs K W → Rep K W d1 v1 → Rep K W d2 v2 → g d1 d2 W.S = .ok c S' → (∀ W', Nxt K W S' W' → Q (.bl c) W'.H) → r v1 v2 W.H Q) : OpB K r g := by
  intro W d1 d2 v1 v2 d S' Q A r1 r2 e k
  obtain ⟨c, S1, e1, e2⟩ := bnd_ok e
  obtain ⟨rfl, rfl⟩ := ret_ok e2
  exact h W d1 d2 v1 v2 c S1 Q A r1 r2 e1 fun W' N => k W' _ N (bl_rep _)
theorem s_cmp {op : CmpOp} {r : R2} {g : D → D → M Bool} (ho : OpR X (compareOp op) r) (hk : OpB X.K r g) (ha : PE X a (tI X.K ma)) (hb : PE X b (tI X.K mb)) (hm : behindInMarks op b = false) :
    PE X (.Compare a [op] [b] pos) (tI X.K fun ρ => bnd (ma ρ) fun x => bnd (mb ρ) fun y => bnd (g x y) fun k => ret (.bl k)) := (pe_cmpR ho ha hb hm).weak (s_op2 hk)
/-- the test of a value that is a bool -/
theorem tT_of {m : Env → M Bool} {t : TE} (h : ∀ σ H Q, tI X.K (fun ρ => bnd (m ρ) fun k => ret (.bl k)) σ H Q → t σ H Q) : ∀ σ H Q, tT X.K m σ H Q → tTest t σ H Q := by
  rintro σ H Q ⟨W, ρ, rfl, A, sl, k, S', e, q⟩
  refine h σ W.H _ ⟨W, ρ, rfl, A, sl, .bl k, S', bnd_mk e rfl, fun W' v N r => ?_⟩
  rw [rep_bl r]
  exact ⟨k, rfl, q W' N⟩
theorem bnd_assoc {α β γ : Type} (m : M α) (f : α → M β) (g : β → M γ) : bnd (bnd m f) g = bnd m fun x => bnd (f x) g := by
  funext S
  unfold bnd
  cases m S <;> rfl
theorem bnd_ret {α β : Type} (a : α) (f : α → M β) : bnd (ret a) f = f a := rfl
theorem t_cmp {op : CmpOp} {r : R2} {g : D → D → M Bool} (ho : OpR X (compareOp op) r) (hk : OpB X.K r g) (ha : PE X a (tI X.K ma)) (hb : PE X b (tI X.K mb)) (hm : behindInMarks op b = false) :
    PT X (.Compare a [op] [b] pos) (tT X.K fun ρ => bnd (ma ρ) fun x => bnd (mb ρ) fun y => g x y) := by
  refine (pt_cmpR ho ha hb hm).weak (tT_of (t := tOp r (tI X.K ma) (tI X.K mb)) fun σ H Q h => s_op2 hk σ H Q ?_)
  simpa only [bnd_assoc] using h
theorem chain_ok {r r' : R2} {g g' : D → D → M Bool} (hk : OpB X.K r g) (hk' : OpB X.K r' g') : ∀ σ H Q,
    tI X.K (fun ρ => bnd (ma ρ) fun x => bnd (mb ρ) fun y => bnd (g x y) fun k => if k then bnd (mc ρ) fun z => bnd (g' y z) fun k' => ret (.bl k') else ret (.bl false)) σ H Q → tChain r r' (tI X.K ma) (tI X.K mb) (tI X.K mc) σ H Q := by
  rintro σ H Q ⟨W, ρ, rfl, A, sl, d, S', e, k⟩
  obtain ⟨x, S1, e1, e⟩ := bnd_ok e
  obtain ⟨y, S2, e2, e⟩ := bnd_ok e
  obtain ⟨c, S3, e3, e⟩ := bnd_ok e
  refine ⟨W, ρ, rfl, A, sl, x, S1, e1, fun W1 v1 N1 r1 => ?_⟩
  refine ⟨W1, ρ, rfl, N1.ab, sl.ext A N1.ext, y, S2, by rw [N1.st]; exact e2, fun W2 v2 N2 r2 => ?_⟩
  refine hk W2 x y v1 v2 (.bl c) S3 _ N2.ab (Rep.ext N1.ab N2.ext _ _ r1) r2 (by rw [N2.st]; exact bnd_mk e3 rfl) fun W3 v3 N3 r3 => ?_
  rw [rep_bl r3]
  refine ⟨c, rfl, ?_⟩
  cases c with
  | true =>
    simp only [if_true] at e ⊢
    obtain ⟨z, S4, e4, e⟩ := bnd_ok e
    have N13 := N2.trans N3
    refine ⟨W3, ρ, rfl, N3.ab, (sl.ext A N1.ext).ext N1.ab N13.ext, z, S4, by rw [N3.st]; exact e4, fun W4 v4 N4 r4 => ?_⟩
    exact hk' W4 y z v2 v4 d S' Q N4.ab (Rep.ext N2.ab (N3.trans N4).ext _ _ r2) r4 (by rw [N4.st]; exact e) fun W5 v N5 r5 => k W5 v ((N1.trans N13).trans (N4.trans N5)) r5
  | false =>
    simp only [Bool.false_eq_true, if_false] at e ⊢
    obtain ⟨rfl, rfl⟩ := ret_ok e
    exact k W3 _ ((N1.trans N2).trans N3) (bl_rep _)
theorem rep_dp {K : PySem.W.Frag} {W : Wd} : (∀ (d : D) (v : V) (p : PyData), Rep K W d v → toPy d = some p → Dp K W.H v p) ∧ True := by
  refine ⟨?_, trivial⟩
  intro d
  induction d using D.rec (motive_2 := fun ds => ∀ (vs : List V) (ps : List PyData), Reps K W ds vs → toPys ds = some ps → DpAll K W.H vs ps) with
  | non => intro v p h e; simp only [Rep] at h; simp only [toPy, Option.some.injEq] at e; subst h e; exact .non
  | bl b => intro v p h e; simp only [Rep] at h; simp only [toPy, Option.some.injEq] at e; subst h e; exact .bl b
  | int i => intro v p h e; simp only [Rep] at h; simp only [toPy, Option.some.injEq] at e; subst h e; exact .int i
  | str s => intro v p h e; simp only [Rep] at h; simp only [toPy, Option.some.injEq] at e; subst h e; exact .str s
  | tup xs ih =>
    intro v p h e
    simp only [Rep] at h
    obtain ⟨a, vs, rfl, hp, r⟩ := h
    simp only [toPy] at e
    cases q : toPys xs with
    | none => rw [q] at e; cases e
    | some ps => rw [q] at e; cases e; exact .tup (SqT.of hp) (ih vs ps r q)
  | lst xs ih =>
    intro v p h e
    simp only [Rep] at h
    obtain ⟨a, vs, rfl, hp, _, _, r⟩ := h
    simp only [toPy] at e
    cases q : toPys xs with
    | none => rw [q] at e; cases e
    | some ps => rw [q] at e; cases e; exact .lst (SqL.of hp) (ih vs ps r q)
  | fro xs ih => intro v p h e; simp only [toPy] at e; cases e
  | ref k => intro v p h e; simp only [toPy] at e; cases e
  | ty n => intro v p h e; simp only [toPy] at e; cases e
  | dic t ks vs ih => intro v p h e; simp only [toPy] at e; cases e
  | frd ks vs ih => intro v p h e; simp only [toPy] at e; cases e
  | obj c k => intro v p h e; simp only [toPy] at e; cases e
  | dct t k => intro v p h e; simp only [toPy] at e; cases e
  | set is => intro v p h e; simp only [toPy] at e; cases e
  | exc c => intro v p h e; simp only [toPy] at e; cases e
  | nil => rename_i vs ps h e; simp only [Reps] at h; simp only [toPys, Option.some.injEq] at e; subst h e; exact .nil
  | cons d ds ih1 ih2 =>
    rename_i vs ps h e
    simp only [Reps] at h
    obtain ⟨v, r, rfl, h1, h2⟩ := h
    simp only [toPys] at e
    cases q : toPy d with
    | none => rw [q] at e; cases e
    | some p =>
      cases q2 : toPys ds with
      | none => rw [q, q2] at e; cases e
      | some ps' => rw [q, q2] at e; cases e; exact .cons (ih1 v p h1 q) (ih2 r ps' h2 q2)
theorem reps_dp {K : PySem.W.Frag} {W : Wd} : ∀ (xs : List D) (vs : List V) (ps : List PyData), Reps K W xs vs → toPys xs = some ps → DpAll K W.H vs ps
  | [], vs, ps, h, e => by simp only [Reps] at h; simp only [toPys, Option.some.injEq] at e; subst h e; exact .nil
  | d :: ds, vs, ps, h, e => by
    simp only [Reps] at h
    obtain ⟨v, r, rfl, h1, h2⟩ := h
    simp only [toPys] at e
    cases q : toPy d with
    | none => rw [q] at e; cases e
    | some p =>
      cases q2 : toPys ds with
      | none => rw [q, q2] at e; cases e
      | some ps' => rw [q, q2] at e; cases e; exact .cons (rep_dp.1 d v p h1 q) (reps_dp ds r ps' h2 q2)
/-- two that are unlike by their kinds or lengths alone -/
def Apart (H : Hp) (x y : V) : Prop := ∃ a, x = .ref a ∧ ((∃ b xs, y = .ref b ∧ H a = some (.lst xs) ∧ H b = some (.lst []) ∧ 0 < xs.length) ∨ (∃ b xs, y = .ref b ∧ H a = some (.tup xs) ∧ H b = some (.tup []) ∧ 0 < xs.length) ∨ ∃ t, y = .str t ∧ ((∃ kvs, H a = some (.dK kvs)) ∨ (∃ vs, H a = some (.tup vs)) ∨ ∃ vs, H a = some (.lst vs)))
def rEqL : R2 := fun x y H Q => Apart H x y ∧ Q (.bl false) H
def rNeL : R2 := fun x y H Q => Apart H x y ∧ Q (.bl true) H
theorem op_eqL (hu : X.A.units + 64 < cLine) : OpR X (compareOp .Eq) rEqL := by
  intro pins s σ H x y v u Q I rx ry h
  obtain ⟨⟨a, rfl, h⟩, q⟩ := h
  cases rx
  rcases h with ⟨b, xs, rfl, ha, hb, hne⟩ | ⟨b, xs, rfl, ha, hb, hne⟩ | ⟨t, rfl, ⟨kvs, ha⟩ | ⟨vs, ha⟩ | ⟨vs, ha⟩⟩
  · cases ry
    obtain ⟨its, n, r1, e1, z1⟩ := I.lst ha
    obtain ⟨it2, n2, r2, e2, z2⟩ := I.lst hb
    have l1 := r1.length
    have l2 := r2.length
    refine PySem.SeqAt.eq_list_lengthsAt (PySem.IsL.isList e1) (PySem.IsL.isList e2) ?_ (by omega) ⟨.bl _, H, I, rfl, q⟩
    rw [List.length_nil] at l2
    simp only [List.size_toArray, bne_iff_ne, ne_eq]
    omega
  · cases ry
    obtain ⟨its, r1, ht, _⟩ := I.tuple (.inl (.inl ha))
    obtain ⟨it2, r2, ht2, _⟩ := I.tuple (.inl (.inl hb))
    have l1 := r1.length
    have l2 := r2.length
    rw [List.length_nil] at l2
    refine PySem.SeqAt.RcAt.tuples (e := fun _ => true) ht ht2 (by omega) (fun j h1 h2 => absurd h2 (by simp only [List.size_toArray]; omega)) _ _ _ _ ⟨.bl _, H, I, rfl, ?_⟩
    have hne2 : (its.toArray.size == it2.toArray.size) = false := by simp only [List.size_toArray, beq_eq_false_iff_ne, ne_eq]; omega
    rw [hne2, Bool.and_false]
    exact q
  · obtain ⟨tk, rfl⟩ := ry
    obtain ⟨_, _, vs, _, dd⟩ := dk_of I.hok ha
    obtain ⟨ob, es, ep, h1, h2, h3, _⟩ := dd
    obtain ⟨c1, c2, c3⟩ := h2
    obtain ⟨cl, dc, da, sl⟩ := ob
    simp only at c1 c2 c3 h3
    subst c1 c2 h3
    exact rcE_dict_str t tk h1 (by omega) _ _ _ _ ⟨.bl _, H, I, rfl, q⟩
  · obtain ⟨tk, rfl⟩ := ry
    obtain ⟨its, _, ht, _⟩ := I.tuple (.inl (.inl ha))
    exact PySem.SeqAt.RcAt.tuple_str t tk ht (by omega) _ _ _ _ ⟨.bl _, H, I, rfl, q⟩
  · obtain ⟨tk, rfl⟩ := ry
    obtain ⟨its, n, r1, e1, z1⟩ := I.lst ha
    exact PySem.SeqAt.RcAt.list_str t tk (PySem.IsL.isList e1) (by omega) _ _ _ _ ⟨.bl _, H, I, rfl, q⟩
theorem op_neL (hu : X.A.units + 64 < cLine) : OpR X (compareOp .NotEq) rNeL := by
  intro pins s σ H x y v u Q I rx ry h
  obtain ⟨⟨a, rfl, h⟩, q⟩ := h
  cases rx
  rcases h with ⟨b, xs, rfl, ha, hb, hne⟩ | ⟨b, xs, rfl, ha, hb, hne⟩ | ⟨t, rfl, ⟨kvs, ha⟩ | ⟨vs, ha⟩ | ⟨vs, ha⟩⟩
  · cases ry
    obtain ⟨its, n, r1, e1, z1⟩ := I.lst ha
    obtain ⟨it2, n2, r2, e2, z2⟩ := I.lst hb
    have l1 := r1.length
    have l2 := r2.length
    refine PySem.SeqAt.RcNeAt.lists_lengths (PySem.IsL.isList e1) (PySem.IsL.isList e2) ?_ (by omega) _ _ _ _ ⟨.bl _, H, I, rfl, q⟩
    rw [List.length_nil] at l2
    simp only [List.size_toArray, bne_iff_ne, ne_eq]
    omega
  · cases ry
    obtain ⟨its, r1, ht, _⟩ := I.tuple (.inl (.inl ha))
    obtain ⟨it2, r2, ht2, _⟩ := I.tuple (.inl (.inl hb))
    have l1 := r1.length
    have l2 := r2.length
    rw [List.length_nil] at l2
    refine PySem.SeqAt.RcNeAt.tuples (e := fun _ => true) ht ht2 (by omega) (fun j h1 h2 => absurd h2 (by simp only [List.size_toArray]; omega)) _ _ _ _ ⟨.bl _, H, I, rfl, ?_⟩
    have hne2 : (its.toArray.size == it2.toArray.size) = false := by simp only [List.size_toArray, beq_eq_false_iff_ne, ne_eq]; omega
    rw [hne2, Bool.and_false]
    exact q
  · obtain ⟨tk, rfl⟩ := ry
    obtain ⟨_, _, vs, _, dd⟩ := dk_of I.hok ha
    obtain ⟨ob, es, ep, h1, h2, h3, _⟩ := dd
    obtain ⟨c1, c2, c3⟩ := h2
    obtain ⟨cl, dc, da, sl⟩ := ob
    simp only at c1 c2 c3 h3
    subst c1 c2 h3
    exact rcN_dict_str t tk h1 (by omega) _ _ _ _ ⟨.bl _, H, I, rfl, q⟩
  · obtain ⟨tk, rfl⟩ := ry
    obtain ⟨its, _, ht, _⟩ := I.tuple (.inl (.inl ha))
    exact PySem.SeqAt.RcNeAt.tuple_str t tk ht (by omega) _ _ _ _ ⟨.bl _, H, I, rfl, q⟩
  · obtain ⟨tk, rfl⟩ := ry
    obtain ⟨its, n, r1, e1, z1⟩ := I.lst ha
    exact PySem.SeqAt.RcNeAt.list_str t tk (PySem.IsL.isList e1) (by omega) _ _ _ _ ⟨.bl _, H, I, rfl, q⟩
def rEq2 (K : PySem.W.Frag) : R2 := fun x y H Q => rEq x y H Q ∨ rEqD K x y H Q ∨ rEqL x y H Q
def rNe2 (K : PySem.W.Frag) : R2 := fun x y H Q => rNe x y H Q ∨ rNeD K x y H Q ∨ rNeL x y H Q
theorem o_eq (hu : X.A.units + 64 < cLine) : OpR X (compareOp .Eq) (rEq2 X.K) := OpR.or op_eq (OpR.or (op_eqD hu) (op_eqL hu))
theorem o_ne (hu : X.A.units + 64 < cLine) : OpR X (compareOp .NotEq) (rNe2 X.K) := OpR.or op_ne (OpR.or (op_neD hu) (op_neL hu))
/-- what a list's cell is -/
theorem getC_ok {K : PySem.W.Frag} {W : Wd} (A : Abs K W) {k : Nat} {xs : List D} {S' : Sto} {v : V} (r : Rep K W (.ref k) v) (e : getC k W.S = .ok xs S') : S' = W.S ∧ W.S[k]? = some (some xs) ∧ ∃ p vs, v = .ref p ∧ W.as[k]? = some (p, .lst) ∧ W.H p = some (.lst vs) ∧ Reps K W xs vs := by
  unfold getC at e
  split at e
  · rename_i ys h
    cases e
    obtain ⟨a, kd, ds, vs, o, h1, h2, h4, q⟩ := A.cell k _ h
    simp only [Rep] at r
    obtain ⟨b, rfl, h3⟩ := r
    rw [h1] at h3
    cases h3
    obtain ⟨rfl, rfl⟩ := h4
    exact ⟨rfl, h, a, vs, rfl, h1, h2, q⟩
  · cases e
/-- two data compared -/
theorem dps_opt {K : PySem.W.Frag} {W : Wd} {f : D → Option PyData} (h : ∀ (d : D) (v : V) (p : PyData), Rep K W d v → f d = some p → Dp K W.H v p) : ∀ (xs : List D) (vs : List V) (ps : List PyData), Reps K W xs vs → optAll (xs.map f) = some ps → DpAll K W.H vs ps
  | [], vs, ps, r, e => by
    simp only [Reps] at r
    simp only [List.map_nil, optAll, Option.some.injEq] at e
    subst r e
    exact .nil
  | d :: ds, vs, ps, r, e => by
    simp only [Reps] at r
    obtain ⟨v, us, rfl, h1, h2⟩ := r
    rw [List.map_cons] at e
    cases q : f d with
    | none => rw [q] at e; cases e
    | some p =>
      rw [q] at e
      obtain ⟨ps', e', rfl⟩ := Option.map_eq_some_iff.mp (show (optAll (ds.map f)).map (p :: ·) = some ps from e)
      exact .cons (h d v p h1 q) (dps_opt h ds us ps' h2 e')
theorem repN_dp {K : PySem.W.Frag} {W : Wd} (A : Abs K W) : ∀ (n : Nat) (d : D) (v : V) (p : PyData), Rep K W d v → toPyN W.S n d = some p → Dp K W.H v p
  | 0, d, v, p, r, e => nomatch e
  | n + 1, d, v, p, r, e => by
    have ih := repN_dp A n
    have other : toPy d = some p → Dp K W.H v p := fun e => rep_dp.1 d v p r e
    cases d with
    | tup xs =>
      obtain ⟨ps, q, rfl⟩ := Option.map_eq_some_iff.mp (show (optAll (xs.map (toPyN W.S n))).map PyData.tuple = some p from e)
      simp only [Rep] at r
      obtain ⟨a, vs, rfl, hp, r⟩ := r
      exact .tup (SqT.of hp) (dps_opt ih xs vs ps r q)
    | lst xs =>
      obtain ⟨ps, q, rfl⟩ := Option.map_eq_some_iff.mp (show (optAll (xs.map (toPyN W.S n))).map PyData.list = some p from e)
      simp only [Rep] at r
      obtain ⟨a, vs, rfl, hp, _, _, r⟩ := r
      exact .lst (SqL.of hp) (dps_opt ih xs vs ps r q)
    | ref k =>
      simp only [toPyN] at e
      split at e
      · rename_i xs hx
        obtain ⟨ps, q, rfl⟩ := Option.map_eq_some_iff.mp e
        obtain ⟨_, _, a, vs, rfl, h1, h2, q2⟩ := getC_ok A r (show getC k W.S = .ok xs W.S by unfold getC; rw [hx])
        exact .lst (SqL.of h2) (dps_opt ih xs vs ps q2 q)
      · cases e
    | _ => exact other e
theorem eqG_dp {K : PySem.W.Frag} {W : Wd} (A : Abs K W) {a b : D} {v1 v2 : V} {S' : Sto} {c : Bool} (r1 : Rep K W a v1) (r2 : Rep K W b v2) (e : eqG a b W.S = .ok c S') : ∃ p q, Dp K W.H v1 p ∧ Dp K W.H v2 q ∧ SeqAt.shaped p = true ∧ SeqAt.shaped q = true ∧ c = PyData.eqv p q ∧ S' = W.S := by
  unfold eqG at e
  have other : (match toPyN W.S 50 a, toPyN W.S 50 b with
    | some p, some q => need (SeqAt.shaped p && SeqAt.shaped q) (ret (PyData.eqv p q)) W.S
    | _, _ => .bad) = Rs.ok c S' → ∃ p q, Dp K W.H v1 p ∧ Dp K W.H v2 q ∧ SeqAt.shaped p = true ∧ SeqAt.shaped q = true ∧ c = PyData.eqv p q ∧ S' = W.S := fun e => by
    cases h1 : toPyN W.S 50 a with
    | none => rw [h1] at e; cases e
    | some p =>
      cases h2 : toPyN W.S 50 b with
      | none => rw [h1, h2] at e; cases e
      | some q =>
        rw [h1, h2] at e
        obtain ⟨c1, e⟩ := need_ok e
        obtain ⟨c1, c2⟩ := and2 c1
        obtain ⟨e1, e2⟩ := ret_ok e
        exact ⟨p, q, repN_dp A _ _ _ _ r1 h1, repN_dp A _ _ _ _ r2 h2, c1, c2, e1.symm, e2.symm⟩
  cases h1 : toPy a with
  | none => rw [h1] at e; exact other e
  | some p =>
    cases h2 : toPy b with
    | none => rw [h1, h2] at e; exact other e
    | some q =>
      rw [h1, h2] at e
      obtain ⟨c1, e⟩ := need_ok e
      obtain ⟨c1, c2⟩ := and2 c1
      obtain ⟨e1, e2⟩ := ret_ok e
      exact ⟨p, q, rep_dp.1 _ _ _ r1 h1, rep_dp.1 _ _ _ r2 h2, c1, c2, e1.symm, e2.symm⟩
theorem eqD_two {K : PySem.W.Frag} {W : Wd} (A : Abs K W) {a b : D} {v1 v2 : V} {S' : Sto} {c : Bool} (r1 : Rep K W a v1) (r2 : Rep K W b v2) (e : eqD a b W.S = .ok c S') : S' = W.S ∧ ((scal v1 v2 = true ∧ c = decide (v1 = v2)) ∨ (∃ p q, Dp K W.H v1 p ∧ Dp K W.H v2 q ∧ SeqAt.shaped p = true ∧ SeqAt.shaped q = true ∧ c = PyData.eqv p q) ∨ (Apart W.H v1 v2 ∧ c = false)) := by
  unfold eqD at e
  split at e
  · obtain ⟨e1, e2⟩ := ret_ok e
    rw [rep_int r1, rep_int r2]
    refine ⟨e2.symm, .inl ⟨rfl, ?_⟩⟩
    rw [← e1, dec_int, Bool.beq_eq_decide_eq]
  · obtain ⟨e1, e2⟩ := ret_ok e
    simp only [Rep] at r1 r2
    subst r1 r2
    refine ⟨e2.symm, .inl ⟨rfl, ?_⟩⟩
    rw [← e1, dec_str, Bool.beq_eq_decide_eq]
  · obtain ⟨e1, e2⟩ := ret_ok e
    rw [rep_bl r1, rep_bl r2]
    refine ⟨e2.symm, .inl ⟨rfl, ?_⟩⟩
    rw [← e1, dec_bl, Bool.beq_eq_decide_eq]
  · obtain ⟨e1, e2⟩ := ret_ok e
    simp only [Rep] at r1 r2
    obtain ⟨a, vs, q1, q2, _, _, q3⟩ := r1
    obtain ⟨b, ws, q4, q5, _, _, q6⟩ := r2
    simp only [Reps] at q3 q6
    obtain ⟨y, r, rfl, _, _⟩ := q3
    subst q6
    exact ⟨e2.symm, .inr (.inr ⟨⟨a, q1, .inl ⟨b, _, q4, q2, q5, by rw [List.length_cons]; omega⟩⟩, e1.symm⟩)⟩
  · obtain ⟨e1, e2⟩ := ret_ok e
    simp only [Rep] at r1 r2
    obtain ⟨a, vs, q1, q2, q3⟩ := r1
    obtain ⟨b, ws, q4, q5, q6⟩ := r2
    simp only [Reps] at q3 q6
    obtain ⟨y, r, rfl, _, _⟩ := q3
    subst q6
    exact ⟨e2.symm, .inr (.inr ⟨⟨a, q1, .inr (.inl ⟨b, _, q4, q2, q5, by rw [List.length_cons]; omega⟩)⟩, e1.symm⟩)⟩
  · obtain ⟨e1, e2⟩ := ret_ok e
    simp only [Rep] at r1 r2
    obtain ⟨a, us, o, q1, q2, _, q3, _, _⟩ := r1
    obtain ⟨l, _, q4⟩ : ∃ l, kK _ = some l ∧ some (HO.dK (l.zip us)) = some o := Option.map_eq_some_iff.mp q3 |>.elim fun l h => ⟨l, h.1, congrArg some h.2⟩
    cases q4
    exact ⟨e2.symm, .inr (.inr ⟨⟨a, q1, .inr (.inr ⟨_, r2, .inl ⟨_, q2⟩⟩)⟩, e1.symm⟩)⟩
  · obtain ⟨e1, e2⟩ := ret_ok e
    simp only [Rep] at r1 r2
    obtain ⟨a, vs, q1, q2, _⟩ := r1
    exact ⟨e2.symm, .inr (.inr ⟨⟨a, q1, .inr (.inr ⟨_, r2, .inr (.inl ⟨_, q2⟩)⟩)⟩, e1.symm⟩)⟩
  · obtain ⟨e1, e2⟩ := ret_ok e
    simp only [Rep] at r1 r2
    obtain ⟨a, vs, q1, q2, _⟩ := r1
    exact ⟨e2.symm, .inr (.inr ⟨⟨a, q1, .inr (.inr ⟨_, r2, .inr (.inr ⟨_, q2⟩)⟩)⟩, e1.symm⟩)⟩
  · obtain ⟨xs, S1, e1, e⟩ := bnd_ok e
    obtain ⟨e2, e3⟩ := ret_ok e
    obtain ⟨h1, _, b, us, q1, _, q2, q3⟩ := getC_ok A r1 e1
    simp only [Rep] at r2
    obtain ⟨b', ws, q4, q5, _, _, q6⟩ := r2
    simp only [Reps] at q6
    subst q6
    refine ⟨e3.symm.trans h1, ?_⟩
    cases xs with
    | nil =>
      simp only [Reps] at q3
      subst q3
      subst q1 q4
      refine .inr (.inl ⟨.list [], .list [], .lst (SqL.of q2) .nil, .lst (SqL.of q5) .nil, by decide, by decide, ?_⟩)
      rw [← e2]
      rfl
    | cons y ys =>
      simp only [Reps] at q3
      obtain ⟨z, r, rfl, _, _⟩ := q3
      exact .inr (.inr ⟨⟨b, q1, .inl ⟨b', _, q4, q2, q5, by rw [List.length_cons]; omega⟩⟩, e2.symm⟩)
  · obtain ⟨p, q, e1, e2, c1, c2, h, hS⟩ := eqG_dp A r1 r2 e
    exact ⟨hS, .inr (.inl ⟨p, q, e1, e2, c1, c2, h⟩)⟩
theorem k_eq {K : PySem.W.Frag} : OpB K (rEq2 K) (cmpD .Eq) := opB_of fun W d1 d2 v1 v2 c S' Q A r1 r2 e k => by
  obtain ⟨rfl, h⟩ := eqD_two A r1 r2 (show eqD d1 d2 W.S = _ from e)
  rcases h with ⟨h1, rfl⟩ | ⟨p, q, h1, h2, h3, h4, rfl⟩ | ⟨h1, rfl⟩
  · exact .inl ⟨h1, k W (Nxt.refl A)⟩
  · exact .inr (.inl ⟨p, q, h1, h2, h3, h4, k W (Nxt.refl A)⟩)
  · exact .inr (.inr ⟨h1, k W (Nxt.refl A)⟩)
theorem notB_ok {m : M Bool} {S S' : Sto} {c : Bool} (e : notB m S = .ok c S') : m S = .ok (!c) S' := by
  unfold notB at e
  obtain ⟨c', S1, h, e3⟩ := bnd_ok e
  obtain ⟨rfl, rfl⟩ := ret_ok e3
  rw [Bool.not_not]
  exact h
theorem k_ne {K : PySem.W.Frag} : OpB K (rNe2 K) (cmpD .NotEq) := opB_of fun W d1 d2 v1 v2 c S' Q A r1 r2 e k => by
  obtain ⟨rfl, h⟩ := eqD_two A r1 r2 (notB_ok (show notB (eqD d1 d2) W.S = _ from e))
  rcases h with ⟨h1, h⟩ | ⟨p, q, h1, h2, h3, h4, h⟩ | ⟨h1, h⟩
  · refine .inl ⟨h1, ?_⟩
    rw [← h, Bool.not_not]
    exact k W (Nxt.refl A)
  · refine .inr (.inl ⟨p, q, h1, h2, h3, h4, ?_⟩)
    rw [← h, Bool.not_not]
    exact k W (Nxt.refl A)
  · refine .inr (.inr ⟨h1, ?_⟩)
    have h : c = true := by cases c <;> first | rfl | cases h
    rw [← h]
    exact k W (Nxt.refl A)
theorem k_lt {K : PySem.W.Frag} : OpB K (rI0 fun i j => .bl (decide (i < j))) (cmpD .Lt) := opB_of fun W d1 d2 v1 v2 c S' Q A r1 r2 e k => by
  change ltD d1 d2 W.S = _ at e
  unfold ltD at e
  split at e
  · obtain ⟨rfl, rfl⟩ := ret_ok e
    rw [rep_int r1, rep_int r2]
    exact ⟨_, _, rfl, rfl, k W (Nxt.refl A)⟩
  · cases e
theorem k_le {K : PySem.W.Frag} : OpB K (rI0 fun i j => .bl (decide (i ≤ j))) (cmpD .LtE) := opB_of fun W d1 d2 v1 v2 c S' Q A r1 r2 e k => by
  change leD d1 d2 W.S = _ at e
  unfold leD at e
  split at e
  · obtain ⟨rfl, rfl⟩ := ret_ok e
    rw [rep_int r1, rep_int r2]
    exact ⟨_, _, rfl, rfl, k W (Nxt.refl A)⟩
  · cases e
theorem k_gt {K : PySem.W.Frag} : OpB K (rI0 fun i j => .bl (decide (j < i))) (cmpD .Gt) := opB_of fun W d1 d2 v1 v2 c S' Q A r1 r2 e k => by
  change ltD d2 d1 W.S = _ at e
  unfold ltD at e
  split at e
  · obtain ⟨rfl, rfl⟩ := ret_ok e
    rw [rep_int r1, rep_int r2]
    exact ⟨_, _, rfl, rfl, k W (Nxt.refl A)⟩
  · cases e
theorem k_ge {K : PySem.W.Frag} : OpB K (rI0 fun i j => .bl (decide (j ≤ i))) (cmpD .GtE) := opB_of fun W d1 d2 v1 v2 c S' Q A r1 r2 e k => by
  change leD d2 d1 W.S = _ at e
  unfold leD at e
  split at e
  · obtain ⟨rfl, rfl⟩ := ret_ok e
    rw [rep_int r1, rep_int r2]
    exact ⟨_, _, rfl, rfl, k W (Nxt.refl A)⟩
  · cases e
def rIs2 : R2 := fun x y H Q => rIsB x y H Q ∨ (y = .non ∧ Q (.bl (decide (x = .non))) H)
def rIsn2 : R2 := fun x y H Q => rNotB x y H Q ∨ (y = .non ∧ Q (.bl (!decide (x = .non))) H)
theorem o_is : OpR X (compareOp .Is) rIs2 := OpR.or op_isBl op_isN
theorem o_isn : OpR X (compareOp .IsNot) rIsn2 := OpR.or op_notBl op_notN
theorem rep_non {K : PySem.W.Frag} {W : Wd} {d : D} {v : V} (r : Rep K W d v) : decide (v = .non) = isNonD d := by
  cases d <;> simp only [Rep] at r
  case non => subst r; rfl
  case bl => subst r; rfl
  case int => subst r; rfl
  case str => subst r; rfl
  case ty => subst r; rfl
  all_goals (obtain ⟨a, r⟩ := r)
  case tup => obtain ⟨_, rfl, _⟩ := r; rfl
  case lst => obtain ⟨_, rfl, _⟩ := r; rfl
  case fro => obtain ⟨_, rfl, _⟩ := r; rfl
  case ref => obtain ⟨rfl, _⟩ := r; rfl
  case obj => obtain ⟨rfl, _⟩ := r; rfl
  case dct => obtain ⟨rfl, _⟩ := r; rfl
  case set => obtain ⟨_, rfl, _⟩ := r; rfl
  case frd => obtain ⟨_, _, _, rfl, _⟩ := r; rfl
  case dic => obtain ⟨_, _, rfl, _⟩ := r; rfl
theorem isD_ok {a b : D} {S S' : Sto} {c : Bool} (e : isD a b S = .ok c S') : S' = S ∧ ((∃ i j, a = .bl i ∧ b = .bl j ∧ c = decide (i = j)) ∨ (b = .non ∧ c = isNonD a)) := by
  unfold isD at e
  split at e
  · split at e
    · obtain ⟨e1, e2⟩ := ret_ok e
      exact ⟨e2.symm, .inl ⟨_, _, rfl, rfl, e1.symm⟩⟩
    · cases e
  · obtain ⟨e1, e2⟩ := ret_ok e
    exact ⟨e2.symm, .inr ⟨rfl, e1.symm⟩⟩
  · cases e
theorem k_is {K : PySem.W.Frag} : OpB K rIs2 (cmpD .Is) := opB_of fun W d1 d2 v1 v2 c S' Q A r1 r2 e k => by
  obtain ⟨rfl, ⟨i, j, rfl, rfl, rfl⟩ | ⟨rfl, rfl⟩⟩ := isD_ok (show isD d1 d2 W.S = _ from e)
  · rw [rep_bl r1, rep_bl r2]
    exact .inl ⟨_, _, rfl, rfl, k W (Nxt.refl A)⟩
  · refine .inr ⟨by simpa only [Rep] using r2, ?_⟩
    rw [rep_non r1]
    exact k W (Nxt.refl A)
theorem k_isn {K : PySem.W.Frag} : OpB K rIsn2 (cmpD .IsNot) := opB_of fun W d1 d2 v1 v2 c S' Q A r1 r2 e k => by
  obtain ⟨rfl, ⟨i, j, rfl, rfl, h⟩ | ⟨rfl, h⟩⟩ := isD_ok (notB_ok (show notB (isD d1 d2) W.S = _ from e))
  · rw [rep_bl r1, rep_bl r2]
    refine .inl ⟨_, _, rfl, rfl, ?_⟩
    rw [← h, Bool.not_not]
    exact k W (Nxt.refl A)
  · refine .inr ⟨by simpa only [Rep] using r2, ?_⟩
    rw [rep_non r1, ← h, Bool.not_not]
    exact k W (Nxt.refl A)
def rInD2 (K : PySem.W.Frag) (n : Bool) : R2 := fun x y H Q => ∃ d ds, Dp K H x d ∧ (Dp K H y (.list ds) ∨ Dp K H y (.tuple ds)) ∧ SeqAt.shaped d = true ∧ SeqAt.shaped (.list ds) = true ∧ Q (.bl ((ds.any fun z => PyData.eqv z d) != n)) H
theorem o_in (hu : X.A.units + 65 < cLine) : OpR X (compareOp .In) (rInD2 X.K false) := by
  intro pins s σ H x y v u Q I rx ry h
  obtain ⟨d, ds, hd, he, sd, se, q⟩ := h
  rw [Bool.bne_false] at q
  obtain ⟨as, r1⟩ := Dp.reads I d x v hd rx
  rcases he with he | he
  · obtain ⟨bs, r2⟩ := Dp.reads I (.list ds) y u he ry
    exact SeqAt.in_list_reads r2 r1 (SeqAt.canLay_of_shaped se) (SeqAt.canLay_of_shaped sd) (room_in_shaped sd hu) ⟨.bl _, H, I, rfl, q⟩
  · obtain ⟨bs, r2⟩ := Dp.reads I (.tuple ds) y u he ry
    exact SeqAt.in_tuple_reads r2 r1 (SeqAt.canLay_of_shaped se) (SeqAt.canLay_of_shaped sd) (room_in_shaped sd hu) ⟨.bl _, H, I, rfl, q⟩
theorem o_nin (hu : X.A.units + 65 < cLine) : OpR X (compareOp .NotIn) (rInD2 X.K true) := by
  intro pins s σ H x y v u Q I rx ry h
  obtain ⟨d, ds, hd, he, sd, se, q⟩ := h
  rw [Bool.bne_true] at q
  obtain ⟨as, r1⟩ := Dp.reads I d x v hd rx
  rcases he with he | he
  · obtain ⟨bs, r2⟩ := Dp.reads I (.list ds) y u he ry
    exact SeqAt.notIn_list_reads r2 r1 (SeqAt.canLay_of_shaped se) (SeqAt.canLay_of_shaped sd) (room_in_shaped sd hu) ⟨.bl _, H, I, rfl, q⟩
  · obtain ⟨bs, r2⟩ := Dp.reads I (.tuple ds) y u he ry
    exact SeqAt.notIn_tuple_reads r2 r1 (SeqAt.canLay_of_shaped se) (SeqAt.canLay_of_shaped sd) (room_in_shaped sd hu) ⟨.bl _, H, I, rfl, q⟩
theorem hasD_two {K : PySem.W.Frag} {W : Wd} (A : Abs K W) {a b : D} {v1 v2 : V} {S' : Sto} {c : Bool} (r1 : Rep K W a v1) (r2 : Rep K W b v2) (e : hasL a b W.S = .ok c S') : S' = W.S ∧ ∃ p ps, Dp K W.H v1 p ∧ (Dp K W.H v2 (.list ps) ∨ Dp K W.H v2 (.tuple ps)) ∧ SeqAt.shaped p = true ∧ SeqAt.shaped (.list ps) = true ∧ c = ps.any fun z => PyData.eqv z p := by
  unfold hasL at e
  obtain ⟨xs, S1, e1, e⟩ := bnd_ok e
  have key : S1 = W.S ∧ ∃ p vs, v2 = .ref p ∧ (W.H p = some (.lst vs) ∨ W.H p = some (.tup vs)) ∧ Reps K W xs vs := by
    unfold listD at e1
    split at e1
    · rename_i k
      obtain ⟨rfl, _, p, vs, rfl, _, h3, h4⟩ := getC_ok A r2 e1
      exact ⟨rfl, p, vs, rfl, .inl h3, h4⟩
    · obtain ⟨rfl, rfl⟩ := ret_ok e1
      simp only [Rep] at r2
      obtain ⟨p, vs, rfl, h1, _, _, h2⟩ := r2
      exact ⟨rfl, p, vs, rfl, .inl h1, h2⟩
    · obtain ⟨rfl, rfl⟩ := ret_ok e1
      simp only [Rep] at r2
      obtain ⟨p, vs, rfl, h1, h2⟩ := r2
      exact ⟨rfl, p, vs, rfl, .inr h1, h2⟩
    · cases e1
  obtain ⟨rfl, p, vs, rfl, h1, h2⟩ := key
  cases h3 : toPy a with
  | none => rw [h3] at e; cases e
  | some q =>
    cases h4 : toPys xs with
    | none => rw [h3, h4] at e; cases e
    | some ps =>
      rw [h3, h4] at e
      obtain ⟨c1, e⟩ := need_ok e
      obtain ⟨c1, c2⟩ := and2 c1
      obtain ⟨e1, e2⟩ := ret_ok e
      exact ⟨e2.symm, q, ps, rep_dp.1 _ _ _ r1 h3, h1.imp (fun h1 => .lst (SqL.of h1) (reps_dp xs vs ps h2 h4)) (fun h1 => .tup (SqT.of h1) (reps_dp xs vs ps h2 h4)), c1, c2, e1.symm⟩
/-- an int in a set of ints -/
def rInS (n : Bool) : R2 := fun x y H Q => ∃ k a T m, x = V.int k ∧ y = V.ref a ∧ H a = some (.set T m) ∧ Q (.bl (T k != n)) H
theorem o_inS : OpR X (compareOp .In) (rInS false) := by
  intro pins s σ H x y v u Q I rx ry h
  obtain ⟨k, a, T, n, rfl, rfl, ha, q⟩ := h
  obtain ⟨tk, rfl⟩ := rx
  cases ry
  rw [Bool.bne_false] at q
  exact wpAny_inSet_of (intKind_is _ _ _ _) rfl (I.hok a _ ha) ⟨.bl (T k), H, I.tok _, rfl, q⟩
theorem o_ninS : OpR X (compareOp .NotIn) (rInS true) := by
  intro pins s σ H x y v u Q I rx ry h
  obtain ⟨k, a, T, n, rfl, rfl, ha, q⟩ := h
  obtain ⟨tk, rfl⟩ := rx
  cases ry
  rw [Bool.bne_true] at q
  exact wpAny_notInSet_of (intKind_is _ _ _ _) rfl (I.hok a _ ha) ⟨.bl (!T k), H, I.tok _, rfl, q⟩
def rIn3 (K : PySem.W.Frag) (n : Bool) : R2 := fun x y H Q => rInD2 K n x y H Q ∨ rInS n x y H Q
theorem o_in3 (hu : X.A.units + 65 < cLine) : OpR X (compareOp .In) (rIn3 X.K false) := by
  intro pins s σ H x y v u Q I rx ry h
  rcases h with h | h
  · exact o_in hu pins s σ H x y v u Q I rx ry h
  · exact o_inS pins s σ H x y v u Q I rx ry h
theorem o_nin3 (hu : X.A.units + 65 < cLine) : OpR X (compareOp .NotIn) (rIn3 X.K true) := by
  intro pins s σ H x y v u Q I rx ry h
  rcases h with h | h
  · exact o_nin hu pins s σ H x y v u Q I rx ry h
  · exact o_ninS pins s σ H x y v u Q I rx ry h
theorem hasD_three {K : PySem.W.Frag} {W : Wd} (A : Abs K W) {a b : D} {v1 v2 : V} {S' : Sto} {c : Bool} (r1 : Rep K W a v1) (r2 : Rep K W b v2) (e : hasD a b W.S = .ok c S') : S' = W.S ∧
    ((∃ p ps, Dp K W.H v1 p ∧ (Dp K W.H v2 (.list ps) ∨ Dp K W.H v2 (.tuple ps)) ∧ SeqAt.shaped p = true ∧ SeqAt.shaped (.list ps) = true ∧ c = ps.any fun z => PyData.eqv z p) ∨ ∃ k q T m, v1 = V.int k ∧ v2 = V.ref q ∧ W.H q = some (.set T m) ∧ c = T k) := by
  have key : hasL a b W.S = .ok c S' ∨ ∃ is, b = .set is ∧ hasS a is W.S = .ok c S' := by
    unfold hasD at e
    split at e
    · exact .inr ⟨_, rfl, e⟩
    · exact .inl e
  clear e
  rcases key with e | ⟨is, rfl, e⟩
  · obtain ⟨h, q⟩ := hasD_two A r1 r2 e
    exact ⟨h, .inl q⟩
  · unfold hasS at e
    split at e
    · obtain ⟨e1, e2⟩ := ret_ok e
      rw [Rep] at r1
      simp only [Rep] at r2
      obtain ⟨q, n, rfl, hq⟩ := r2
      exact ⟨e2.symm, .inr ⟨_, q, _, n, r1, rfl, hq, e1.symm⟩⟩
    · cases e
theorem k_in {K : PySem.W.Frag} : OpB K (rIn3 K false) (cmpD .In) := opB_of fun W d1 d2 v1 v2 c S' Q A r1 r2 e k => by
  obtain ⟨rfl, ⟨p, ps, h1, h2, h3, h4, rfl⟩ | ⟨i, q, T, m, rfl, rfl, h3, rfl⟩⟩ := hasD_three A r1 r2 (show hasD d1 d2 W.S = _ from e)
  · exact .inl ⟨p, ps, h1, h2, h3, h4, by rw [Bool.bne_false]; exact k W (Nxt.refl A)⟩
  · exact .inr ⟨i, q, T, m, rfl, rfl, h3, by rw [Bool.bne_false]; exact k W (Nxt.refl A)⟩
theorem k_nin {K : PySem.W.Frag} : OpB K (rIn3 K true) (cmpD .NotIn) := opB_of fun W d1 d2 v1 v2 c S' Q A r1 r2 e k => by
  obtain ⟨rfl, ⟨p, ps, h1, h2, h3, h4, h⟩ | ⟨i, q, T, m, rfl, rfl, h3, h⟩⟩ := hasD_three A r1 r2 (notB_ok (show notB (hasD d1 d2) W.S = _ from e))
  · refine .inl ⟨p, ps, h1, h2, h3, h4, ?_⟩
    rw [Bool.bne_true, ← h, Bool.not_not]
    exact k W (Nxt.refl A)
  · refine .inr ⟨i, q, T, m, rfl, rfl, h3, ?_⟩
    rw [Bool.bne_true, ← h, Bool.not_not]
    exact k W (Nxt.refl A)
end
end AG
namespace AG
open PySem PySem.Spec PyProof.Rows L2

/-! ### how long a datum's text is -/
theorem join_len : ∀ ts : List Str, (Str.join ", " ts).length ≤ (ts.map fun t => t.length + 2).sum
  | [] => Nat.zero_le _
  | [x] => by
    show x.length ≤ _
    simp
  | x :: y :: r => by
    have ih := join_len (y :: r)
    have e : Str.join (", " : Str) (x :: y :: r) = x ++ (", " : Str) ++ Str.join ", " (y :: r) := rfl
    have h2 : ((", " : Str)).length = 2 := by decide +kernel
    rw [e, strLen_append, strLen_append, List.map_cons, List.sum_cons, h2]
    omega
mutual
theorem shown_le : ∀ p : PyData, p.showable = true → cost p ≤ 1000000 → p.shown.length ≤ cost p
  | .none, _, _ => by simp only [PyData.shown, cost]; decide +kernel
  | .bool b, _, _ => by simp only [PyData.shown, cost]; cases b <;> decide +kernel
  | .int i, _, h => by
    simp only [PyData.shown, cost] at h ⊢
    have h1 : (Str.ofString (toString i)).length = (toString i).length := PySem.ofString_length _
    rw [h1]
    split at h
    · rename_i hi
      rw [if_pos hi]
      have := int_text_length_le10 (a := i) (k := 6) (by decide) (Nat.lt_of_lt_of_le hi (by decide))
      omega
    · rename_i h0
      rw [if_neg h0]
      split at h
      · rename_i hi
        rw [if_pos hi]
        have := int_text_length_le10 (a := i) (k := 40) (by decide) (Nat.lt_of_lt_of_le hi (by decide))
        omega
      · omega
  | .str x, _, h => by
    simp only [PyData.shown, cost] at h ⊢
    split at h
    · rename_i hx
      rw [if_pos hx]
      have h2 := PySem.StrLaws.reprText_len x (fun c hc => by
        have h3 := of_decide_eq_true (List.all_eq_true.mp hx c hc)
        exact Nat.lt_of_lt_of_le h3 (by decide))
      omega
    · omega
  | .list xs, hs, h => by
    simp only [PyData.shown, cost, PyData.showable] at h hs ⊢
    rw [listText_eq_join, strLen_append, strLen_append]
    have := showns_le xs hs (by omega)
    have := join_len (PyData.shownAll xs)
    have e1 : (("[" : Str)).length = 1 := by decide +kernel
    have e2 : (("]" : Str)).length = 1 := by decide +kernel
    omega
  | .tuple xs, hs, h => by
    simp only [PyData.shown, cost, PyData.showable, tupleText] at h hs ⊢
    rw [strLen_append, strLen_append]
    have := showns_le xs hs (by omega)
    have := join_len (PyData.shownAll xs)
    have e1 : (("(" : Str)).length = 1 := by decide +kernel
    have e2 : (Str.ofString (if (PyData.shownAll xs).length == 1 then ",)" else ")")).length ≤ 2 := by
      split <;> decide +kernel
    omega
  | .dict [], _, _ => by
    have e : (PyData.dict []).shown.length = 2 := by decide +kernel
    rw [e]
    simp only [cost, List.isEmpty_nil, if_true]
    omega
  | .dict (_ :: _), _, h => by simp only [cost, List.isEmpty_cons, Bool.false_eq_true, if_false] at h; omega
theorem showns_le : ∀ ps : List PyData, PyData.showableAll ps = true → costs ps ≤ 1000000 → ((PyData.shownAll ps).map fun t => t.length + 2).sum ≤ costs ps
  | [], _, _ => by simp [PyData.shownAll, costs]
  | x :: xs, hs, h => by
    simp only [PyData.showableAll, costs, PyData.shownAll, List.map_cons, List.sum_cons] at h hs ⊢
    obtain ⟨h1, h2⟩ := and2 hs
    have := shown_le x h1 (by omega)
    have := showns_le xs h2 (by omega)
    omega
end
mutual
theorem dp_nodict {K : PySem.W.Frag} {H : Hp} : ∀ (p : PyData) (v : V), Dp K H v p → p.hasDict = false
  | .none, _, _ => by simp only [PyData.hasDict]
  | .bool b, _, _ => by simp only [PyData.hasDict]
  | .int i, _, _ => by simp only [PyData.hasDict]
  | .str x, _, _ => by simp only [PyData.hasDict]
  | .list xs, v, h => by cases h with | lst _ h => simp only [PyData.hasDict]; exact dps_nodict _ _ h
  | .tuple xs, v, h => by cases h with | tup _ h => simp only [PyData.hasDict]; exact dps_nodict _ _ h
  | .dict kvs, v, h => by cases h
theorem dps_nodict {K : PySem.W.Frag} {H : Hp} : ∀ (ps : List PyData) (vs : List V), DpAll K H vs ps → PyData.hasDictAll ps = false
  | [], _, _ => by simp only [PyData.hasDictAll]
  | x :: xs, vs, h => by
    cases h with
    | cons h1 h2 => simp only [PyData.hasDictAll, dp_nodict x _ h1, dps_nodict xs _ h2, Bool.or_false]
end

/-! how data with empty dicts are read and shown -/
mutual
inductive RdS (h : Heap) : Value → PyData → Prop
  | none : RdS h .none .none
  | bool (b) : RdS h (.bool b) (.bool b)
  | int (i t) : RdS h (.int i t) (.int i)
  | str (x t) : RdS h (.str x t) (.str x)
  | list {a o vs n xs} : h.get? a = some o → o.cls = .type "list" → o.data = .seq vs n → RdSs h vs.toList xs → RdS h (.ref a) (.list xs)
  | tuple {a o vs n xs} : h.get? a = some o → o.cls = .type "tuple" → o.data = .seq vs n → RdSs h vs.toList xs → RdS h (.ref a) (.tuple xs)
  | dict {a o es n} : h.get? a = some o → o.cls = .type "dict" → o.data = .dict es n → es.toList = [] → (a == sysModules) = false → RdS h (.ref a) (.dict [])
inductive RdSs (h : Heap) : List Value → List PyData → Prop
  | nil : RdSs h [] []
  | cons {v vs d ds} : RdS h v d → RdSs h vs ds → RdSs h (v :: vs) (d :: ds)
end
mutual
theorem RdS.reads {h : Heap} : ∀ {v : Value} {d : PyData}, RdS h v d → ∃ as, Reads h v d as
  | _, _, .none => ⟨_, .none⟩
  | _, _, .bool b => ⟨_, .bool b⟩
  | _, _, .int i t => ⟨_, .int i t⟩
  | _, _, .str x t => ⟨_, .str x t⟩
  | _, _, .list h1 h2 h3 h4 => let ⟨_, r⟩ := RdSs.reads h4; ⟨_, .list h1 h2 h3 r⟩
  | _, _, .tuple h1 h2 h3 h4 => let ⟨_, r⟩ := RdSs.reads h4; ⟨_, .tuple h1 h2 h3 r⟩
  | _, _, .dict h1 h2 h3 h4 _ => ⟨_, .dict (kvs := []) (as := []) (bs := []) h1 h2 h3 (by rw [h4]; exact .nil) (by rw [h4]; exact .nil)⟩
theorem RdSs.reads {h : Heap} : ∀ {vs : List Value} {ds : List PyData}, RdSs h vs ds → ∃ as, ReadsAll h vs ds as
  | _, _, .nil => ⟨_, .nil⟩
  | _, _, .cons r rs => let ⟨_, a⟩ := RdS.reads r; let ⟨_, b⟩ := RdSs.reads rs; ⟨_, .cons a b⟩
end
section
variable {prog : Program} {w : World} {h₀ : Heap}
mutual
theorem RdS.reprK : ∀ {v : Value} {d : PyData}, RdS h₀ v d → d.showable = true → d.shown.length ≤ sizeLine → ∃ bs, ReadAtMost h₀ d.depth bs ∧ ReprK prog w bs h₀ d.depth v d.shown
  | _, _, .none, _, _ => ⟨[], (fun _ h => nomatch h), by simp only [PyData.shown]; exact .of_is ReprIs.none _ _ _⟩
  | _, _, .bool b, _, _ => ⟨[], (fun _ h => nomatch h), by simp only [PyData.shown]; exact .of_is (ReprIs.bool b) _ _ _⟩
  | _, _, .int i t, hs, _ => ⟨[], (fun _ h => nomatch h), by simp only [PyData.shown]; exact .of_is (ReprIs.int t (by simpa [PyData.showable] using hs)) _ _ _⟩
  | _, _, .str x t, _, hz => ⟨[], (fun _ h => nomatch h), by simp only [PyData.shown]; exact .of_is (ReprIs.str x t (by simpa only [PyData.shown] using hz)) _ _ _⟩
  | _, _, .list (a := a) (vs := vs) (xs := xs) h1 h2 h3 h4, hs, hz => by
    have hz' : (listText (PyData.shownAll xs)).length ≤ sizeLine := by simpa only [PyData.shown] using hz
    obtain ⟨bs, hb, hk⟩ := RdSs.reprK h4 (by simpa [PyData.showable] using hs) (fun t ht => Nat.le_trans (listText_mem_le ht) hz')
    obtain ⟨as, r⟩ : ∃ as, Reads h₀ (.ref a) (.list xs) as := RdS.reads (.list h1 h2 h3 h4)
    have hna : a ∉ bs := not_mem_of_deeper r (by simp only [PyData.depth]; omega) hb
    refine ⟨a :: bs, ReadAtMost.cons r (by simp only [PyData.depth]; omega) hb, ?_⟩
    simp only [PyData.depth, PyData.shown]
    obtain ⟨l⟩ := vs
    cases l with
    | nil =>
      have h4' : RdSs h₀ [] xs := h4
      cases h4'
      simp only [PyData.shownAll, listText_nil]
      exact ReprK.listEmpty h1 h2 h3
    | cons x l => exact ReprK.list h1 h2 h3 hna (by simpa using hk.length_eq) (fun i y e => hk.item i y (by simpa using e))
  | _, _, .tuple (a := a) (xs := xs) h1 h2 h3 h4, hs, hz => by
    have hz' : (tupleText (PyData.shownAll xs)).length ≤ sizeLine := by simpa only [PyData.shown] using hz
    obtain ⟨bs, hb, hk⟩ := RdSs.reprK h4 (by simpa [PyData.showable] using hs) (fun t ht => Nat.le_trans (tupleText_mem_le ht) hz')
    obtain ⟨as, r⟩ : ∃ as, Reads h₀ (.ref a) (.tuple xs) as := RdS.reads (.tuple h1 h2 h3 h4)
    have hna : a ∉ bs := not_mem_of_deeper r (by simp only [PyData.depth]; omega) hb
    refine ⟨a :: bs, ReadAtMost.cons r (by simp only [PyData.depth]; omega) hb, ?_⟩
    simp only [PyData.depth, PyData.shown]
    exact ReprK.tuple h1 h2 h3 hna hk
  | _, _, .dict (a := a) (es := es) h1 h2 h3 h4 h5, hs, hz => by
    obtain ⟨as, r⟩ : ∃ as, Reads h₀ (.ref a) (.dict []) as := RdS.reads (.dict h1 h2 h3 h4 h5)
    have he : ReprEntriesK prog w [] h₀ (PyData.depthKv []) es.toList (PyData.shownKv []) := by
      rw [h4]
      simp only [PyData.shownKv]
      exact .nil
    refine ⟨a :: [], ReadAtMost.cons (n := 0) r (Nat.zero_le _) (fun _ h => nomatch h), ?_⟩
    simp only [PyData.depth, PyData.shown]
    exact ReprK.dict h1 h2 h3 h5 (fun h => nomatch h) he
theorem RdSs.reprK : ∀ {vs : List Value} {ds : List PyData}, RdSs h₀ vs ds → PyData.showableAll ds = true → (∀ t ∈ PyData.shownAll ds, t.length ≤ sizeLine) →
    ∃ bs, ReadAtMost h₀ (PyData.depthAll ds) bs ∧ ReprAllK prog w bs h₀ (PyData.depthAll ds) vs (PyData.shownAll ds)
  | _, _, .nil, _, _ => ⟨[], (fun _ h => nomatch h), by simp only [PyData.shownAll]; exact .nil⟩
  | _, _, .cons (d := d) (ds := ds) r rs, hs, hz => by
    have hs' : d.showable = true ∧ PyData.showableAll ds = true := by simpa [PyData.showableAll] using hs
    obtain ⟨b1, hb1, k1⟩ := RdS.reprK r hs'.1 (hz _ (by simp only [PyData.shownAll]; exact List.mem_cons_self ..))
    obtain ⟨b2, hb2, k2⟩ := RdSs.reprK rs hs'.2 (fun t ht => hz t (by simp only [PyData.shownAll]; exact List.mem_cons_of_mem _ ht))
    refine ⟨b1 ++ b2, ?_, ?_⟩
    · intro b hm
      simp only [PyData.depthAll]
      rcases List.mem_append.mp hm with hm | hm
      · obtain ⟨d', as', r', hd'⟩ := hb1 b hm
        exact ⟨d', as', r', Nat.le_trans hd' (Nat.le_max_left _ _)⟩
      · obtain ⟨d', as', r', hd'⟩ := hb2 b hm
        exact ⟨d', as', r', Nat.le_trans hd' (Nat.le_max_right _ _)⟩
    · simp only [PyData.depthAll, PyData.shownAll]
      exact .cons ((k1.more fun b hb => List.mem_append_left _ hb).level_le (Nat.le_max_left _ _)) (k2.more_le (fun b hb => List.mem_append_right _ hb) (Nat.le_max_right _ _))
end
theorem showsBy_S {a : Addr} {d : PyData} (r : RdS h₀ (.ref a) d) (hs : d.showable = true) (hsz : d.shown.length ≤ sizeLine) : ∃ T idr, ShowsBy prog w h₀ a d T idr := by
  cases r with
  | list h1 h2 h3 h4 =>
    rename_i o vs n xs
    have hz' : (listText (PyData.shownAll xs)).length ≤ sizeLine := by simpa only [PyData.shown] using hsz
    obtain ⟨bs, hb, hk⟩ := RdSs.reprK (prog := prog) (w := w) h4 (by simpa [PyData.showable] using hs) (fun t ht => Nat.le_trans (listText_mem_le ht) hz')
    obtain ⟨as, r⟩ : ∃ as, Reads h₀ (.ref a) (.list xs) as := RdS.reads (.list h1 h2 h3 h4)
    have hna : a ∉ bs := not_mem_of_deeper r (by simp only [PyData.depth]; omega) hb
    refine ⟨"list", "list.__repr__", F.slot_list_repr.toG, F.slot_list_str, F.slot_list_format, fun s hk0 => ⟨o, hk0 _ _ h1, h2⟩, fun A E s Q hg hu hk0 hQ => ?_⟩
    simp only [PyData.depth] at hu
    simp only [PyData.shown] at hQ
    obtain ⟨l⟩ := vs
    cases l with
    | nil =>
      have h4' : RdSs h₀ [] xs := h4
      cases h4'
      simp only [PyData.shownAll, listText_nil] at hQ
      exact call_list_repr_empty ⟨o, hk0 _ _ h1, h2⟩ (hk0 _ _ h1) h3 (hQ s.heap _ _ fun _ _ e => e)
    | cons x l =>
      exact call_list_reprK h1 h2 h3 hna (by simpa using hk.length_eq) (fun i y e => hk.item i y (by simpa using e)) hg (fun b _ => Clear.nil b) hu hk0 hQ hz'
  | tuple h1 h2 h3 h4 =>
    rename_i o vs n xs
    have hz' : (tupleText (PyData.shownAll xs)).length ≤ sizeLine := by simpa only [PyData.shown] using hsz
    obtain ⟨bs, hb, hk⟩ := RdSs.reprK (prog := prog) (w := w) h4 (by simpa [PyData.showable] using hs) (fun t ht => Nat.le_trans (tupleText_mem_le ht) hz')
    obtain ⟨as, r⟩ : ∃ as, Reads h₀ (.ref a) (.tuple xs) as := RdS.reads (.tuple h1 h2 h3 h4)
    have hna : a ∉ bs := not_mem_of_deeper r (by simp only [PyData.depth]; omega) hb
    refine ⟨"tuple", "tuple.__repr__", F.slot_tuple_repr, F.slot_tuple_str, F.slot_tuple_format, fun s hk0 => ⟨o, hk0 _ _ h1, h2⟩, fun A E s Q hg hu hk0 hQ => ?_⟩
    simp only [PyData.depth] at hu
    simp only [PyData.shown] at hQ
    exact call_tuple_reprK h1 h2 h3 hna hk hg (fun b _ => Clear.nil b) hu hk0 hQ hz'
  | dict h1 h2 h3 h4 h5 =>
    rename_i o es n
    have hz' : (dictText (PyData.shownKv [])).length ≤ sizeLine := by simpa only [PyData.shown] using hsz
    have he : ReprEntriesK prog w [] h₀ (PyData.depthKv []) es.toList (PyData.shownKv []) := by
      rw [h4]
      simp only [PyData.shownKv]
      exact .nil
    refine ⟨"dict", "dict.__repr__", F.slot_dict_repr, F.slot_dict_str, F.slot_dict_format, fun s hk0 => ⟨o, hk0 _ _ h1, h2⟩, fun A E s Q hg hu hk0 hQ => ?_⟩
    simp only [PyData.depth] at hu
    simp only [PyData.shown] at hQ
    exact call_dict_reprK h1 h2 h3 h5 (by simp) he hg (fun b _ => Clear.nil b) hu hk0 hQ hz'
theorem repr_S {a : Addr} {d : PyData} {A : Around} {E : Value → Shared → Prop} {s : Shared} {Q : Value → Shared → Prop} (r : RdS h₀ (.ref a) d) (hs : d.showable = true) (hg : A.guards = some []) (hu : A.units + (d.depth + 1) < cLine) (hk0 : ∀ b o, h₀.get? b = some o → s.heap.get? b = some o)
    (hQ : ∀ h' u tk, (∀ b o, s.heap.get? b = some o → h'.get? b = some o) → Q (.str d.shown u) { s with heap := h', toks := tk })
    (hsz : d.shown.length ≤ sizeLine) : wpAny (model prog w) A (call (.builtin "repr") [.ref a]) Q E s := by
  obtain ⟨T, idr, S⟩ := showsBy_S (prog := prog) (w := w) r hs hsz
  exact call_repr_slot (by omega) (S.typeIs s hk0) S.slotRepr (S.call A.in1 E s _ hg (by show A.units + 1 + d.depth < cLine; omega) hk0 fun h' u tk hk => ⟨_, _, rfl, hQ h' u tk hk⟩)
end
mutual
/-- data with empty dicts -/
inductive DpE (K : PySem.W.Frag) (H : Hp) : V → PyData → Prop
  | non : DpE K H .non .none
  | bl (b : Bool) : DpE K H (.bl b) (.bool b)
  | int (i : Int) : DpE K H (.int i) (.int i)
  | str (x : Str) : DpE K H (.str x) (.str x)
  | dic {a : Addr} : H a = some (.dK []) → DpE K H (.ref a) (.dict [])
  | tup {a : Addr} {xs : List V} {ds : List PyData} : SqT K H a xs → DpEs K H xs ds → DpE K H (.ref a) (.tuple ds)
  | lst {a : Addr} {xs : List V} {ds : List PyData} : SqL K H a xs → DpEs K H xs ds → DpE K H (.ref a) (.list ds)
inductive DpEs (K : PySem.W.Frag) (H : Hp) : List V → List PyData → Prop
  | nil : DpEs K H [] []
  | cons {v : V} {vs : List V} {d : PyData} {ds : List PyData} : DpE K H v d → DpEs K H vs ds → DpEs K H (v :: vs) (d :: ds)
end
section
variable {X : Cx} {pins : List (Addr × Obj)} {σ : L2.St} {H : Hp} {s : Shared}
mutual
theorem DpE.reads (I : Inv X pins σ H s) : ∀ (p : PyData) (v : V) (u : Value), DpE X.K H v p → RelV v u → RdS s.heap u p
  | .none, _, _, h, r => by
    cases h
    cases r
    exact .none
  | .bool b, _, _, h, r => by
    cases h
    cases r
    exact .bool b
  | .int i, _, _, h, r => by
    cases h
    obtain ⟨t, rfl⟩ := r
    exact .int i t
  | .str x, _, _, h, r => by
    cases h
    obtain ⟨t, rfl⟩ := r
    exact .str x t
  | .list ps, _, _, h, r => by
    cases h with
    | lst hs ha =>
      cases r
      obtain ⟨its, rv, ⟨o, n, ho, hc, _, hd⟩, _⟩ := I.list hs
      exact .list ho hc hd (DpEs.reads I ps _ its ha rv)
  | .tuple ps, _, _, h, r => by
    cases h with
    | tup hs ha =>
      cases r
      obtain ⟨its, rv, ⟨o, ho, hc, n, hd⟩, _⟩ := I.tuple hs
      exact .tuple ho hc hd (DpEs.reads I ps _ its ha rv)
  | .dict kvs, _, _, h, r => by
    cases h with
    | dic hd =>
      cases r
      obtain ⟨_, hne, vs, kv, o, es, ep, ho, hx, hdat, _, hp, _⟩ := dk_of I.hok hd
      cases kv
      have he : es.toList = [] := by
        generalize es.toList = l at hp
        cases hp
        rfl
      exact .dict ho hx.1 hdat he hne
theorem DpEs.reads (I : Inv X pins σ H s) : ∀ (ps : List PyData) (vs : List V) (us : List Value), DpEs X.K H vs ps → Vals vs us → RdSs s.heap us ps
  | [], _, _, h, r => by
    cases h
    cases r
    exact .nil
  | p :: ps, _, _, h, r => by
    cases h with
    | cons h1 h2 =>
      cases r with
      | cons r1 r2 => exact .cons (DpE.reads I p _ _ h1 r1) (DpEs.reads I ps _ _ h2 r2)
end
end
section
variable {X : Cx}
def rRepr (K : PySem.W.Frag) : List V → Hp → VK → Prop := fun xs H Q => ∃ x p, xs = [x] ∧ (Dp K H x p ∨ (DpE K H x p ∧ ∃ a, x = .ref a)) ∧ p.showable = true ∧ cost p ≤ 1000000 ∧ p.depth ≤ 60 ∧ Q (.str p.shown) H
/-- repr of a datum -/
theorem call_repr_dat (hg : X.A.guards = some []) (hu : X.A.units + 64 < cLine) : CallR X (.builtin "repr") (rRepr X.K) := by
  intro pins s σ H xs us Q I r h
  obtain ⟨x, p, rfl, hd, hs, hc, hdp, q⟩ := h
  obtain ⟨u, rfl, rx⟩ := vals1 r
  have hz : p.shown.length ≤ sizeLine := by
    have := shown_le p hs hc
    rw [sizeLine_eq]
    omega
  rcases hd with hd | ⟨hd, a, rfl⟩
  rotate_left
  · have hr := DpE.reads I p _ u hd rx
    cases rx
    refine repr_S hr hs hg (by omega) (fun _ _ e => e) (fun h' w tk hk => ?_) hz
    exact ⟨.str p.shown, H, I.kept hk, ⟨w, rfl⟩, q⟩
  have hnd := dp_nodict p x hd
  have go : ∀ a, x = .ref a → wpAny (model X.prog X.w) X.A (call (.builtin "repr") [u]) (EP X pins σ Q) X.xe s := fun a ha => by
    subst ha
    obtain ⟨as, hr⟩ := Dp.reads I p _ u hd rx
    cases rx
    refine repr_of_reads' hr hs (PyData.noDict_hsm hnd) hg (by omega) (fun _ _ e => e) (fun h' w tk hk => ?_) hz
    exact ⟨.str p.shown, H, I.kept hk, ⟨w, rfl⟩, q⟩
  cases hd with
  | non =>
    cases rx
    refine PySem.P.repr_of_none ?_
    have e : PyData.none.shown = ("None" : Str) := by simp only [PyData.shown]
    rw [e] at q
    exact ⟨.str _, H, I.tok _, ⟨_, rfl⟩, q⟩
  | bl b =>
    cases rx
    refine PySem.P.repr_of_bool ?_
    have e : (PyData.bool b).shown = ((if b then "True" else "False" : Str)) := by simp only [PyData.shown]
    rw [e] at q
    refine ⟨.str _, H, I.tok _, ⟨_, rfl⟩, ?_⟩
    cases b <;> exact q
  | int i =>
    obtain ⟨t, rfl⟩ := rx
    have hz' : i.natAbs.log2 < 1920 := by simpa only [PyData.showable, decide_eq_true_eq] using hs
    refine PySem.P.repr_of_int hz' ?_
    have e : (PyData.int i).shown = ((toString i : String) : Str) := by simp only [PyData.shown]
    rw [e] at q
    exact ⟨.str _, H, I.tok _, ⟨_, rfl⟩, q⟩
  | str z =>
    obtain ⟨t, rfl⟩ := rx
    have e : (PyData.str z).shown = reprText z := by simp only [PyData.shown]
    rw [e] at q hz
    refine PySem.P.repr_of_str ?_ hz
    exact ⟨.str _, H, I.tok _, ⟨_, rfl⟩, q⟩
  | lst h1 h2 => exact go _ rfl
  | tup h1 h2 => exact go _ rfl

/-! ### calls of builtins, by data -/
def CallOk (K : PySem.W.Frag) (r : List V → Hp → VK → Prop) (g : List D → M D) : Prop :=
  ∀ (W : Wd) (ds : List D) (vs : List V) (d : D) (S' : Sto) (Q : VK), Abs K W → Reps K W ds vs → g ds W.S = .ok d S' → (∀ W' v, Nxt K W S' W' → Rep K W' d v → Q v W'.H) → r vs W.H Q
theorem s_call {r : List V → Hp → VK → Prop} {g : List D → M D} {mas : Env → M (List D)} (hk : CallOk X.K r g) : ∀ σ H Q, tI X.K (fun ρ => bnd (mas ρ) g) σ H Q → tCB r (tAs X.K mas) σ H Q := by
  rintro σ H Q ⟨W, ρ, rfl, A, sl, d, S', e, k⟩
  obtain ⟨ds, S1, e1, e⟩ := bnd_ok e
  refine ⟨W, ρ, rfl, A, sl, ds, S1, e1, fun W1 vs N1 r1 => ?_⟩
  exact hk W1 ds vs d S' Q N1.ab r1 (by rw [N1.st]; exact e) fun W2 v N2 r2 => k W2 v (N1.trans N2) r2
theorem reps1 {K : PySem.W.Frag} {W : Wd} {d : D} {vs : List V} (h : Reps K W [d] vs) : ∃ v, vs = [v] ∧ Rep K W d v := by
  simp only [Reps] at h
  obtain ⟨v, r, rfl, h1, h2⟩ := h
  subst h2
  exact ⟨v, rfl, h1⟩
theorem reps2 {K : PySem.W.Frag} {W : Wd} {d e : D} {vs : List V} (h : Reps K W [d, e] vs) : ∃ v w, vs = [v, w] ∧ Rep K W d v ∧ Rep K W e w := by
  simp only [Reps] at h
  obtain ⟨v, r, rfl, h1, w, r', rfl, h2, h3⟩ := h
  subst h3
  exact ⟨v, w, rfl, h1, h2⟩
theorem SqF.toL {K : PySem.W.Frag} {H : Hp} {a : Addr} {vs : List V} (h : SqF K H a vs) : SqL K H a vs := by
  rcases h with ⟨o, n, h⟩ | ⟨h, _⟩
  · exact .inl (.inr ⟨_, h⟩)
  · rcases h with h | h
    · rcases h with h | ⟨o, h⟩ <;> cases h
    · exact .inr h
/-- what a sequence is -/
theorem items_ok {K : PySem.W.Frag} {W : Wd} (A : Abs K W) {d : D} {v : V} {xs : List D} {S' : Sto} (r : Rep K W d v) (e : itemsD d W.S = .ok xs S') : S' = W.S ∧ ∃ p vs, v = .ref p ∧ (SqL K W.H p vs ∨ (SqT K W.H p vs ∧ d = .tup xs)) ∧ Reps K W xs vs := by
  cases d with
  | tup ys =>
    obtain ⟨rfl, rfl⟩ := ret_ok (show ret ys W.S = _ from e)
    simp only [Rep] at r
    obtain ⟨p, vs, rfl, hp, q⟩ := r
    exact ⟨rfl, p, vs, rfl, .inr ⟨SqT.of hp, rfl⟩, q⟩
  | lst ys =>
    obtain ⟨rfl, rfl⟩ := ret_ok (show ret ys W.S = _ from e)
    simp only [Rep] at r
    obtain ⟨p, vs, rfl, hp, _, _, q⟩ := r
    exact ⟨rfl, p, vs, rfl, .inl (SqL.of hp), q⟩
  | fro ys =>
    obtain ⟨rfl, rfl⟩ := ret_ok (show ret ys W.S = _ from e)
    simp only [Rep] at r
    obtain ⟨p, vs, rfl, hp, q⟩ := r
    exact ⟨rfl, p, vs, rfl, .inl hp.toL, q⟩
  | ref k =>
    obtain ⟨rfl, _, a, vs, rfl, _, h2, q⟩ := getC_ok A r (show getC k W.S = .ok xs S' from e)
    exact ⟨rfl, a, vs, rfl, .inl (SqL.of h2), q⟩
  | _ => cases e
theorem ok_len {K : PySem.W.Frag} : CallOk K (fun xs H Q => ∃ p ys, xs = [.ref p] ∧ (SqL K H p ys ∨ SqT K H p ys) ∧ Q (.int ys.length) H) (biD .len) := by
  intro W ds vs d S' Q A r e k
  change lenB ds W.S = _ at e
  unfold lenB at e
  split at e
  · obtain ⟨xs, S1, e1, e⟩ := bnd_ok e
    obtain ⟨rfl, rfl⟩ := ret_ok e
    obtain ⟨v, rfl, r1⟩ := reps1 r
    obtain ⟨rfl, p, us, rfl, hq, q⟩ := items_ok A r1 e1
    refine ⟨p, us, rfl, hq.imp id fun z => z.1, ?_⟩
    rw [reps_len _ _ q]
    exact k W _ (Nxt.refl A) (int_rep _)
  · cases e
theorem ok_max {K : PySem.W.Frag} : CallOk K (fun xs H Q => ∃ i j, xs = [.int i, .int j] ∧ Q (.int (if j > i then j else i)) H) (biD .max2) := by
  intro W ds vs d S' Q A r e k
  change maxB ds W.S = _ at e
  unfold maxB at e
  split at e
  · obtain ⟨rfl, rfl⟩ := ret_ok e
    obtain ⟨v, w, rfl, r1, r2⟩ := reps2 r
    rw [rep_int r1, rep_int r2]
    exact ⟨_, _, rfl, k W _ (Nxt.refl A) (int_rep _)⟩
  · cases e
theorem ok_min3 {K : PySem.W.Frag} : CallOk K (rNuC3 nuMin3) (biD .min3) := by
  intro W ds vs d S' Q A r e k
  change min3B ds W.S = _ at e
  unfold min3B at e
  split at e
  · rename_i i j l
    obtain ⟨rfl, rfl⟩ := ret_ok e
    simp only [Reps, Rep] at r
    obtain ⟨_, _, rfl, rfl, _, _, rfl, rfl, _, _, rfl, rfl, rfl⟩ := r
    refine ⟨.int i, .int j, .int l, _, rfl, ?_, k W _ (Nxt.refl A) (int_rep _)⟩
    show ((some (decide (j < i))).map fun c => if c = true then V.int j else V.int i).bind (fun m => nuMin2 m (.int l)) = _
    by_cases h1 : j < i
    · rw [decide_eq_true h1]
      show ((some (decide (l < j))).map fun c => if c = true then V.int l else V.int j) = _
      rw [if_pos h1]
      by_cases h2 : l < j
      · rw [decide_eq_true h2, if_pos h2]; rfl
      · rw [decide_eq_false h2, if_neg h2]; rfl
    · rw [decide_eq_false h1]
      show ((some (decide (l < i))).map fun c => if c = true then V.int l else V.int i) = _
      rw [if_neg h1]
      by_cases h2 : l < i
      · rw [decide_eq_true h2, if_pos h2]; rfl
      · rw [decide_eq_false h2, if_neg h2]; rfl
  · cases e
theorem ok_min {K : PySem.W.Frag} : CallOk K (fun xs H Q => ∃ i j, xs = [.int i, .int j] ∧ Q (.int (if j < i then j else i)) H) (biD .min2) := by
  intro W ds vs d S' Q A r e k
  change minB ds W.S = _ at e
  unfold minB at e
  split at e
  · obtain ⟨rfl, rfl⟩ := ret_ok e
    obtain ⟨v, w, rfl, r1, r2⟩ := reps2 r
    rw [rep_int r1, rep_int r2]
    exact ⟨_, _, rfl, k W _ (Nxt.refl A) (int_rep _)⟩
  · cases e
theorem ok_tup {K : PySem.W.Frag} : CallOk K (fun xs H Q => ∃ p ys, xs = [.ref p] ∧ ((SqL K H p ys ∧ ∀ l, H l = none → Q (.ref l) (upd H l (.tup ys))) ∨ (SqT K H p ys ∧ Q (.ref p) H))) (biD .tup) := by
  intro W ds vs d S' Q A r e k
  change tupB ds W.S = _ at e
  unfold tupB at e
  split at e
  · obtain ⟨xs, S1, e1, e⟩ := bnd_ok e
    obtain ⟨rfl, rfl⟩ := ret_ok e
    obtain ⟨v, rfl, r1⟩ := reps1 r
    obtain ⟨rfl, p, us, rfl, hq, q⟩ := items_ok A r1 e1
    refine ⟨p, us, rfl, ?_⟩
    rcases hq with hq | ⟨hq, rfl⟩
    · refine .inl ⟨hq, fun l hl => ?_⟩
      obtain ⟨N, rr⟩ := new_tup A hl q
      exact k _ _ N rr
    · exact .inr ⟨hq, k W _ (Nxt.refl A) r1⟩
  · cases e
theorem ok_lst {K : PySem.W.Frag} : CallOk K (fun xs H Q => ∃ p ys, xs = [.ref p] ∧ (SqL K H p ys ∨ SqT K H p ys) ∧ ∀ l, H l = none → Q (.ref l) (upd H l (.lst ys))) (biD .lst) := by
  intro W ds vs d S' Q A r e k
  change lstB ds W.S = _ at e
  unfold lstB at e
  split at e
  · obtain ⟨xs, S1, e1, e⟩ := bnd_ok e
    obtain ⟨rfl, rfl⟩ := ret_ok e
    obtain ⟨v, rfl, r1⟩ := reps1 r
    obtain ⟨rfl, p, us, rfl, hq, q⟩ := items_ok A r1 e1
    refine ⟨p, us, rfl, hq.imp id fun z => z.1, fun l hl => ?_⟩
    obtain ⟨N, rr⟩ := new_lst A hl q
    exact k _ _ N rr
  · cases e
mutual
theorem repE_dp {K : PySem.W.Frag} {W : Wd} : ∀ (d : D) (v : V) (p : PyData), Rep K W d v → toPyE d = some p → DpE K W.H v p
  | .non, v, p, r, e => by simp only [Rep] at r; simp only [toPyE] at e; cases e; subst r; exact .non
  | .bl b, v, p, r, e => by simp only [Rep] at r; simp only [toPyE] at e; cases e; subst r; exact .bl b
  | .int i, v, p, r, e => by simp only [Rep] at r; simp only [toPyE] at e; cases e; subst r; exact .int i
  | .str s, v, p, r, e => by simp only [Rep] at r; simp only [toPyE] at e; cases e; subst r; exact .str s
  | .tup xs, v, p, r, e => by
    simp only [Rep] at r
    simp only [toPyE, Option.map_eq_some_iff] at e
    obtain ⟨ps, e, rfl⟩ := e
    obtain ⟨a, vs, rfl, hp, rr⟩ := r
    exact .tup (SqT.of hp) (repEs_dp xs vs ps rr e)
  | .dic false [] [], v, p, r, e => by
    simp only [toPyE] at e
    cases e
    simp only [Rep] at r
    obtain ⟨a, us, o, rfl, h, h2, h3, _, h5⟩ := r
    subst h5
    cases h3
    exact .dic h
  | .dic true _ _, _, _, _, e => by simp only [toPyE] at e; cases e
  | .dic false (_ :: _) _, _, _, _, e => by simp only [toPyE] at e; cases e
  | .dic false [] (_ :: _), _, _, _, e => by simp only [toPyE] at e; cases e
  | .lst xs, v, p, r, e => by
    simp only [Rep] at r
    simp only [toPyE, Option.map_eq_some_iff] at e
    obtain ⟨ps, e, rfl⟩ := e
    obtain ⟨a, vs, rfl, hp, _, _, rr⟩ := r
    exact .lst (.inl (.inl hp)) (repEs_dp xs vs ps rr e)
  | .fro _, _, _, _, e => by simp only [toPyE] at e; cases e
  | .ref _, _, _, _, e => by simp only [toPyE] at e; cases e
  | .ty _, _, _, _, e => by simp only [toPyE] at e; cases e
  | .obj _ _, _, _, _, e => by simp only [toPyE] at e; cases e
  | .dct _ _, _, _, _, e => by simp only [toPyE] at e; cases e
  | .set _, _, _, _, e => by simp only [toPyE] at e; cases e
  | .frd _ _, _, _, _, e => by simp only [toPyE] at e; cases e
  | .exc _, _, _, _, e => by simp only [toPyE] at e; cases e
theorem repEs_dp {K : PySem.W.Frag} {W : Wd} : ∀ (ds : List D) (vs : List V) (ps : List PyData), Reps K W ds vs → toPyEs ds = some ps → DpEs K W.H vs ps
  | [], vs, ps, r, e => by
    simp only [Reps] at r
    simp only [toPyEs] at e
    cases e
    subst r
    exact .nil
  | d :: ds, vs, ps, r, e => by
    simp only [Reps] at r
    obtain ⟨v, rest, rfl, r1, r2⟩ := r
    simp only [toPyEs] at e
    cases e1 : toPyE d with
    | none => rw [e1] at e; cases e
    | some p =>
      cases e2 : toPyEs ds with
      | none => rw [e1, e2] at e; cases e
      | some qs =>
        rw [e1, e2] at e
        cases e
        exact .cons (repE_dp d v p r1 e1) (repEs_dp ds rest qs r2 e2)
end
theorem toE_ref {K : PySem.W.Frag} {W : Wd} {d : D} {v : V} {p : PyData} (r : Rep K W d v) (e : toPyE d = some p) (h : toPy d = none) : ∃ a, v = .ref a := by
  cases d with
  | non => cases h
  | bl b => cases h
  | int i => cases h
  | str s => cases h
  | tup xs => simp only [Rep] at r; obtain ⟨a, vs, rfl, _⟩ := r; exact ⟨a, rfl⟩
  | lst xs => simp only [Rep] at r; obtain ⟨a, vs, rfl, _⟩ := r; exact ⟨a, rfl⟩
  | dic t ks vs => simp only [Rep] at r; obtain ⟨a, us, o, rfl, _⟩ := r; exact ⟨a, rfl⟩
  | _ => simp only [toPyE] at e; cases e
theorem ok_repr {K : PySem.W.Frag} : CallOk K (rRepr K) (biD .repr) := by
  intro W ds vs d S' Q A r e k
  change reprB ds W.S = _ at e
  unfold reprB at e
  split at e
  · rename_i a
    obtain ⟨v, rfl, r1⟩ := reps1 r
    unfold reprD at e
    cases hp : toPy a with
    | some p =>
      rw [hp] at e
      obtain ⟨c, e⟩ := need_ok e
      obtain ⟨rfl, rfl⟩ := ret_ok e
      obtain ⟨c, c3⟩ := and2 c
      obtain ⟨c1, c2⟩ := and2 c
      exact ⟨v, p, rfl, .inl (rep_dp.1 _ _ _ r1 hp), c1, of_decide_eq_true c2, of_decide_eq_true c3, k W _ (Nxt.refl A) (str_rep _)⟩
    | none =>
      rw [hp] at e
      cases hq : toPyN W.S 50 a with
      | none =>
        simp only [hq] at e
        unfold reprE at e
        cases hz : toPyE a with
        | none => rw [hz] at e; cases e
        | some p =>
          rw [hz] at e
          obtain ⟨c, e⟩ := need_ok e
          obtain ⟨rfl, rfl⟩ := ret_ok e
          obtain ⟨c, c3⟩ := and2 c
          obtain ⟨c1, c2⟩ := and2 c
          have hd := repE_dp a v p r1 hz
          have hr := toE_ref r1 hz hp
          exact ⟨v, p, rfl, .inr ⟨hd, hr⟩, c1, of_decide_eq_true c2, of_decide_eq_true c3, k W _ (Nxt.refl A) (str_rep _)⟩
      | some p =>
        simp only [hq] at e
        obtain ⟨c, e⟩ := need_ok e
        obtain ⟨rfl, rfl⟩ := ret_ok e
        obtain ⟨c, c3⟩ := and2 c
        obtain ⟨c1, c2⟩ := and2 c
        exact ⟨v, p, rfl, .inl (repN_dp A _ _ _ _ r1 hq), c1, of_decide_eq_true c2, of_decide_eq_true c3, k W _ (Nxt.refl A) (str_rep _)⟩
  · cases e
theorem all_bools {K : PySem.W.Frag} {W : Wd} : ∀ (xs : List D) (vs : List V) (b : Bool), Reps K W xs vs → allD xs = some b → ∃ bs : List Bool, vs = bs.map V.bl ∧ bs.all id = b
  | [], vs, b, h, e => by
    simp only [Reps] at h
    subst h
    cases e
    exact ⟨[], rfl, rfl⟩
  | x :: xs, vs, b, h, e => by
    simp only [Reps] at h
    obtain ⟨v, r, rfl, h1, h2⟩ := h
    cases x with
    | bl c =>
      simp only [allD] at e
      cases q : allD xs with
      | none => rw [q] at e; cases e
      | some c' =>
        rw [q] at e
        cases e
        obtain ⟨bs, e1, e2⟩ := all_bools xs r c' h2 q
        rw [rep_bl h1, e1]
        exact ⟨c :: bs, rfl, by rw [List.all_cons, e2]; rfl⟩
    | _ => simp only [allD] at e; cases e
theorem ok_all {K : PySem.W.Frag} : CallOk K (rAll K) (biD .all) := by
  intro W ds vs d S' Q A r e k
  change allB ds W.S = _ at e
  unfold allB at e
  split at e
  · rename_i xs
    obtain ⟨c, S1, e1, e⟩ := bnd_ok e
    obtain ⟨rfl, rfl⟩ := ret_ok e
    obtain ⟨e2, rfl⟩ := opt_ok e1
    obtain ⟨v, rfl, r1⟩ := reps1 r
    simp only [Rep] at r1
    obtain ⟨p, us, rfl, hp, _, _, q⟩ := r1
    obtain ⟨bs, rfl, rfl⟩ := all_bools xs us c q e2
    exact ⟨p, bs, rfl, SqL.of hp, k W _ (Nxt.refl A) (bl_rep _)⟩
  · cases e

/-! ### index, slice -/
theorem atI_rep {K : PySem.W.Frag} {W : Wd} {xs : List D} {vs : List V} {i : Int} {d : D} (r : Reps K W xs vs) (h : L2.atI xs i = some d) : ∃ v, L2.atI vs i = some v ∧ Rep K W d v := by
  unfold L2.atI at h ⊢
  rw [reps_len _ _ r]
  cases q : L2.ixN xs.length i with
  | none => rw [q] at h; cases h
  | some j =>
    rw [q] at h
    exact reps_get _ _ j r d h
theorem k_ix {K : PySem.W.Frag} : OpOk K (rIx K) ixD := by
  intro W d1 d2 v1 v2 d S' Q A r1 r2 e k
  unfold ixD at e
  split at e
  · obtain ⟨xs, S1, e1, e⟩ := bnd_ok e
    obtain ⟨e2, rfl⟩ := opt_ok e
    obtain ⟨rfl, p, us, rfl, hq, q⟩ := items_ok A r1 e1
    obtain ⟨v, h1, h2⟩ := atI_rep q e2
    rw [rep_int r2]
    have fin := k W v (Nxt.refl A) h2
    rcases hq with hq | ⟨hq, _⟩
    · exact .inl ⟨p, us, _, v, rfl, rfl, hq, h1, fin⟩
    · exact .inr (.inl ⟨p, us, _, v, rfl, rfl, hq, h1, fin⟩)
  · cases e
theorem s_ix {a b : Expr} {ma mb : Env → M D} {pos : Pos} (ha : PE X a (tI X.K ma)) (hb : PE X b (tI X.K mb)) (hs : PlainIx b) : PE X (.Subscript a b pos) (tI X.K fun ρ => bnd (ma ρ) fun x => bnd (mb ρ) fun y => ixD x y) :=
  (pe_ix ix_seq ha hb hs).weak (s_op2 k_ix)
def rSl (K : PySem.W.Frag) : V → Option Int → Option Int → Hp → VK → Prop := fun x lo hi H Q => rSlA K x lo hi H Q ∨ rSlL K x lo hi H Q
theorem sl_all : SlR X (rSl X.K) := SlR.or sl_tupA sl_list
theorem reps_cut {K : PySem.W.Frag} {W : Wd} {xs : List D} {vs : List V} (r : Reps K W xs vs) (lo hi : Option Int) : Reps K W (cutD xs lo hi) (cutV vs lo hi) := by
  unfold cutD cutV
  rw [reps_len _ _ r]
  exact reps_take _ _ _ (reps_drop _ _ _ r)
theorem mkL_ok {K : PySem.W.Frag} {W : Wd} (A : Abs K W) {m : Bool} {xs : List D} {vs : List V} (r : Reps K W xs vs) {p : Addr} (hp : W.H p = none) {d : D} {S' : Sto} (e : mkL m xs W.S = .ok d S') :
    ∃ W', W'.H = upd W.H p (.lst vs) ∧ Nxt K W S' W' ∧ Rep K W' d (.ref p) := by
  unfold mkL at e
  split at e
  · cases e
    obtain ⟨N, q⟩ := new_cell A hp r
    exact ⟨_, rfl, N, q⟩
  · cases e
    obtain ⟨N, q⟩ := new_lst A hp r
    exact ⟨_, rfl, N, q⟩
theorem k_sl {K : PySem.W.Frag} {W : Wd} (A : Abs K W) {m : Bool} {d : D} {v : V} {lo hi : Option Int} {y : D} {S' : Sto} {Q : VK} (r : Rep K W d v) (e : slD m d lo hi W.S = .ok y S') (k : ∀ W' u, Nxt K W S' W' → Rep K W' y u → Q u W'.H) : rSl K v lo hi W.H Q := by
  unfold slD at e
  split at e
  · rename_i xs
    obtain ⟨rfl, rfl⟩ := ret_ok e
    have r' := r
    simp only [Rep] at r
    obtain ⟨p, vs, rfl, hp, q⟩ := r
    refine .inl ⟨p, vs, rfl, SqT.of hp, fun z => ?_, fun z l hl => ?_⟩
    · have e1 : cutD xs lo hi = xs := by
        unfold cutD
        rw [reps_len _ _ q] at z
        rw [z.1, z.2]
        simp
      rw [e1] at k
      exact k W _ (Nxt.refl A) r'
    · obtain ⟨N, rr⟩ := new_tup A hl (reps_cut q lo hi)
      exact k _ _ N rr
  · simp only [Rep] at r
    obtain ⟨p, vs, rfl, hp, _, _, q⟩ := r
    refine .inr ⟨p, vs, rfl, SqL.of hp, fun l hl => ?_⟩
    obtain ⟨W', h1, N, rr⟩ := mkL_ok A (reps_cut q lo hi) hl e
    rw [← h1]
    exact k _ _ N rr
  · simp only [Rep] at r
    obtain ⟨p, vs, rfl, hp, q⟩ := r
    refine .inr ⟨p, vs, rfl, hp.toL, fun l hl => ?_⟩
    obtain ⟨W', h1, N, rr⟩ := mkL_ok A (reps_cut q lo hi) hl e
    rw [← h1]
    exact k _ _ N rr
  · obtain ⟨xs, S1, e1, e⟩ := bnd_ok e
    obtain ⟨rfl, _, p, vs, rfl, _, hp, q⟩ := getC_ok A r e1
    refine .inr ⟨p, vs, rfl, SqL.of hp, fun l hl => ?_⟩
    obtain ⟨W', h1, N, rr⟩ := mkL_ok A (reps_cut q lo hi) hl e
    rw [← h1]
    exact k _ _ N rr
  · cases e
theorem s_sl {m : Bool} {e : Expr} {lo hi : Option Expr} {ma : Env → M D} {ml mh : Env → M (Option Int)} {p2 pos : Pos} (ha : PE X e (tI X.K ma)) (hl : PO X lo (tOi X.K ml)) (hh : PO X hi (tOi X.K mh)) :
    PE X (.Subscript e (.Slice lo hi none p2) pos) (tI X.K fun ρ => bnd (ma ρ) fun x => bnd (ml ρ) fun l => bnd (mh ρ) fun h => slD m x l h) := by
  refine (pe_slice sl_all ha hl hh).weak ?_
  rintro σ H Q ⟨W, ρ, rfl, A, sl, d, S', e, k⟩
  obtain ⟨x, S1, e1, e⟩ := bnd_ok e
  obtain ⟨l, S2, e2, e⟩ := bnd_ok e
  obtain ⟨h, S3, e3, e⟩ := bnd_ok e
  refine ⟨W, ρ, rfl, A, sl, x, S1, e1, fun W1 v1 N1 r1 => ?_⟩
  refine ⟨W1, ρ, rfl, N1.ab, sl.ext A N1.ext, l, S2, by rw [N1.st]; exact e2, fun W2 N2 => ?_⟩
  refine ⟨W2, ρ, rfl, N2.ab, (sl.ext A N1.ext).ext N1.ab N2.ext, h, S3, by rw [N2.st]; exact e3, fun W3 N3 => ?_⟩
  exact k_sl N3.ab (Rep.ext N1.ab (N2.trans N3).ext _ _ r1) (by rw [N3.st]; exact e) fun W4 v N4 r4 => k W4 v ((N1.trans N2).trans (N3.trans N4)) r4
end
/-! ### two lists behind one another, the first may change -/
theorem addLD_ok {K : PySem.W.Frag} {m : Bool} {W : Wd} {d1 d2 : D} {v1 v2 : V} {d : D} {S' : Sto} {Q : VK} (A : Abs K W) (r1 : Rep K W d1 v1) (r2 : Rep K W d2 v2) (e : addLD m d1 d2 W.S = .ok d S') (k : ∀ W' v, Nxt K W S' W' → Rep K W' d v → Q v W'.H) : rAdd K v1 v2 W.H Q := by
  have fin : ∀ (xs ys : List D) (p p2 : Addr) (vs us : List V), W.H p = some (.lst vs) → W.H p2 = some (.lst us) → Reps K W xs vs → Reps K W ys us → need (small xs.length && small ys.length) (newL m (xs ++ ys)) W.S = .ok d S' → v1 = .ref p → v2 = .ref p2 → rAdd K v1 v2 W.H Q := by
    intro xs ys p p2 vs us hp hp2 q1 q2 e h1 h2
    subst h1 h2
    obtain ⟨c, e⟩ := need_ok e
    obtain ⟨c1, c2⟩ := and2 c
    refine .inr (.inr (.inl ⟨p, p2, vs, us, rfl, rfl, hp, hp2, ?_, fun q hq => ?_⟩))
    · rw [reps_len _ _ q1, reps_len _ _ q2]
      have := small_le c1; have := small_le c2
      exact line_1M (by omega)
    · unfold newL at e
      cases m with
      | false =>
        obtain ⟨rfl, rfl⟩ := ret_ok (show ret _ W.S = _ from e)
        obtain ⟨N, r⟩ := new_lst A hq (reps_app _ _ _ _ q1 q2)
        exact k _ _ N r
      | true =>
        simp only [if_true] at e
        cases e
        obtain ⟨N, r⟩ := new_cell A hq (reps_app _ _ _ _ q1 q2)
        exact k _ _ N r
  unfold addLD at e
  split at e
  · simp only [Rep] at r1 r2
    obtain ⟨p, vs, rfl, hp, _, _, q1⟩ := r1
    obtain ⟨p2, us, rfl, hp2, _, _, q2⟩ := r2
    exact fin _ _ p p2 vs us hp hp2 q1 q2 e rfl rfl
  · obtain ⟨xs, S4, e4, e⟩ := bnd_ok e
    obtain ⟨rfl, hk, p, vs, rfl, h1, h2, q⟩ := getC_ok A r1 e4
    simp only [Rep] at r2
    obtain ⟨p2, us, rfl, hp2, _, _, q2⟩ := r2
    exact fin _ _ p p2 vs us h2 hp2 q q2 e rfl rfl
  · obtain ⟨xs, S4, e4, e⟩ := bnd_ok e
    obtain ⟨rfl, hk, p, vs, rfl, h1, h2, q⟩ := getC_ok A r2 e4
    simp only [Rep] at r1
    obtain ⟨p2, us, rfl, hp2, _, _, q2⟩ := r1
    exact fin _ _ p2 p us vs hp2 h2 q2 q e rfl rfl
  · cases e
end AG
namespace AG
open PySem PySem.Spec PyProof.Rows L2
section
variable {X : Cx} {a b c e : Expr} {pos : Pos} {ma mb mc : Env → M D}
/-! ### names, constants -/
theorem getV_ok {ρ : Env} {i : Nat} {d : D} {S S' : Sto} (e : getV ρ i S = .ok d S') : ρ[i]? = some (some d) ∧ S = S' := by
  unfold getV at e
  cases h : ρ[i]? with
  | none => rw [h] at e; cases e
  | some o =>
    rw [h] at e
    cases o with
    | none => cases e
    | some d' =>
      obtain ⟨rfl, rfl⟩ := ret_ok e
      exact ⟨rfl, rfl⟩
theorem s_var {i : Nat} {x : Str} (hN : X.N[i]? = some x) (hv : Vis X.env.scope x) (hd : (x == ("__debug__" : Str)) = false) (hcd : (x == ("__classdict__" : Str)) = false) : PE X (.Name x pos) (tI X.K fun ρ => getV ρ i) := by
  refine (pe_var hN hv hd hcd).weak ?_
  rintro σ H Q ⟨W, ρ, rfl, A, sl, d, S', e, k⟩
  obtain ⟨h, rfl⟩ := getV_ok e
  obtain ⟨v, h1, h2⟩ := sl.2 i _ h
  exact ⟨v, h1, k W v (Nxt.refl A) h2⟩
theorem s_const {v : V} {d : D} (h : PE X e (tC v)) (hr : ∀ W, Rep X.K W d v) : PE X e (tI X.K fun _ => ret d) := by
  refine h.weak ?_
  rintro σ H Q ⟨W, ρ, rfl, A, sl, d', S', e, k⟩
  obtain ⟨rfl, rfl⟩ := ret_ok e
  exact k W v (Nxt.refl A) (hr W)
theorem s_neg (ha : PE X a (tI X.K ma)) : PE X (.UnaryOp .USub a pos) (tI X.K fun ρ => bnd (ma ρ) fun x => match x with
    | .int i => ret (.int (-i))
    | _ => bad) := by
  refine (pe_un un_neg ha).weak ?_
  rintro σ H Q ⟨W, ρ, rfl, A, sl, d, S', e, k⟩
  obtain ⟨x, S1, e1, e⟩ := bnd_ok e
  refine ⟨W, ρ, rfl, A, sl, x, S1, e1, fun W1 v N r => ?_⟩
  split at e
  · obtain ⟨rfl, rfl⟩ := ret_ok e
    rw [rep_int r]
    exact ⟨_, rfl, k W1 _ N (int_rep _)⟩
  · cases e
/-! ### and, or, not, if -/
variable {rest : List Expr}
theorem s_and (ha : PE X a (tI X.K ma)) (hb : PE X (.BoolOp .And (b :: rest) pos) (tI X.K mb)) : PE X (.BoolOp .And (a :: b :: rest) pos) (tI X.K fun ρ => bnd (ma ρ) fun x => match x with
    | .bl true => mb ρ
    | .bl false => ret (.bl false)
    | _ => bad) := by
  refine (pe_and ha hb).weak ?_
  rintro σ H Q ⟨W, ρ, rfl, A, sl, d, S', e, k⟩
  obtain ⟨x, S1, e1, e⟩ := bnd_ok e
  refine ⟨W, ρ, rfl, A, sl, x, S1, e1, fun W1 v N r => ?_⟩
  split at e
  · rw [rep_bl r]
    refine ⟨true, rfl, iteT ⟨W1, ρ, rfl, N.ab, sl.ext A N.ext, d, S', by rw [N.st]; exact e, fun W2 v2 N2 r2 => k W2 v2 (N.trans N2) r2⟩⟩
  · obtain ⟨rfl, rfl⟩ := ret_ok e
    rw [rep_bl r]
    exact ⟨false, rfl, iteF (k W1 _ N (bl_rep _))⟩
  · cases e
theorem s_or (ha : PE X a (tI X.K ma)) (hb : PE X (.BoolOp .Or (b :: rest) pos) (tI X.K mb)) : PE X (.BoolOp .Or (a :: b :: rest) pos) (tI X.K fun ρ => bnd (ma ρ) fun x => match x with
    | .bl false => mb ρ
    | .bl true => ret (.bl true)
    | _ => bad) := by
  refine (pe_or ha hb).weak ?_
  rintro σ H Q ⟨W, ρ, rfl, A, sl, d, S', e, k⟩
  obtain ⟨x, S1, e1, e⟩ := bnd_ok e
  refine ⟨W, ρ, rfl, A, sl, x, S1, e1, fun W1 v N r => ?_⟩
  split at e
  · rw [rep_bl r]
    refine ⟨false, rfl, iteF ⟨W1, ρ, rfl, N.ab, sl.ext A N.ext, d, S', by rw [N.st]; exact e, fun W2 v2 N2 r2 => k W2 v2 (N.trans N2) r2⟩⟩
  · obtain ⟨rfl, rfl⟩ := ret_ok e
    rw [rep_bl r]
    exact ⟨true, rfl, iteT (k W1 _ N (bl_rep _))⟩
  · cases e
theorem s_not (ha : PE X a (tI X.K ma)) : PE X (.UnaryOp .Not a pos) (tI X.K fun ρ => bnd (ma ρ) fun x => match x with
    | .bl b => ret (.bl (!b))
    | _ => bad) := by
  refine (pe_not ha).weak ?_
  rintro σ H Q ⟨W, ρ, rfl, A, sl, d, S', e, k⟩
  obtain ⟨x, S1, e1, e⟩ := bnd_ok e
  refine ⟨W, ρ, rfl, A, sl, x, S1, e1, fun W1 v N r => ?_⟩
  split at e
  · obtain ⟨rfl, rfl⟩ := ret_ok e
    rw [rep_bl r]
    exact ⟨_, rfl, k W1 _ N (bl_rep _)⟩
  · cases e
variable {na nb nc : Env → M Bool}
theorem s_ife (hc : PT X c (tT X.K nc)) (ha : PE X a (tI X.K ma)) (hb : PE X b (tI X.K mb)) : PE X (.IfExp c a b pos) (tI X.K fun ρ => bnd (nc ρ) fun k => if k then ma ρ else mb ρ) := by
  refine (pe_ifExp hc ha hb).weak ?_
  rintro σ H Q ⟨W, ρ, rfl, A, sl, d, S', e, k⟩
  obtain ⟨x, S1, e1, e⟩ := bnd_ok e
  refine ⟨W, ρ, rfl, A, sl, x, S1, e1, fun W1 N => ?_⟩
  cases x with
  | true =>
    simp only [if_true] at e ⊢
    exact ⟨W1, ρ, rfl, N.ab, sl.ext A N.ext, d, S', by rw [N.st]; exact e, fun W2 v2 N2 r2 => k W2 v2 (N.trans N2) r2⟩
  | false =>
    simp only [Bool.false_eq_true, if_false] at e ⊢
    exact ⟨W1, ρ, rfl, N.ab, sl.ext A N.ext, d, S', by rw [N.st]; exact e, fun W2 v2 N2 r2 => k W2 v2 (N.trans N2) r2⟩
/-! ### tests -/
theorem w_and1 (ha : PT X a (tT X.K na)) : PW X (.BoolOp .And [a] pos) (tT X.K na) := pw_and1 ha
theorem w_and (ha : PT X a (tT X.K na)) (hb : PW X (.BoolOp .And (b :: rest) pos) (tT X.K nb)) : PW X (.BoolOp .And (a :: b :: rest) pos) (tT X.K fun ρ => bnd (na ρ) fun k => if k then nb ρ else ret false) := by
  refine (pw_and ha hb).weak ?_
  rintro σ H Q ⟨W, ρ, rfl, A, sl, d, S', e, k⟩
  obtain ⟨x, S1, e1, e⟩ := bnd_ok e
  refine ⟨W, ρ, rfl, A, sl, x, S1, e1, fun W1 N => ?_⟩
  cases x with
  | true =>
    simp only [if_true] at e ⊢
    exact ⟨W1, ρ, rfl, N.ab, sl.ext A N.ext, d, S', by rw [N.st]; exact e, fun W2 N2 => k W2 (N.trans N2)⟩
  | false =>
    simp only [Bool.false_eq_true, if_false] at e ⊢
    obtain ⟨rfl, rfl⟩ := ret_ok e
    exact k W1 N
theorem w_or (ha : PT X a (tT X.K na)) (hb : PW X (.BoolOp .Or (b :: rest) pos) (tT X.K nb)) : PW X (.BoolOp .Or (a :: b :: rest) pos) (tT X.K fun ρ => bnd (na ρ) fun k => if k then ret true else nb ρ) := by
  refine (pw_or ha hb).weak ?_
  rintro σ H Q ⟨W, ρ, rfl, A, sl, d, S', e, k⟩
  obtain ⟨x, S1, e1, e⟩ := bnd_ok e
  refine ⟨W, ρ, rfl, A, sl, x, S1, e1, fun W1 N => ?_⟩
  cases x with
  | false =>
    simp only [Bool.false_eq_true, if_false] at e ⊢
    exact ⟨W1, ρ, rfl, N.ab, sl.ext A N.ext, d, S', by rw [N.st]; exact e, fun W2 N2 => k W2 (N.trans N2)⟩
  | true =>
    simp only [if_true] at e ⊢
    obtain ⟨rfl, rfl⟩ := ret_ok e
    exact k W1 N
/-- a test of and, or is one whatever its whole -/
theorem w_of {op : BoolOp} {vs : List Expr} {t : TT} (h : PT X (.BoolOp op vs pos) t) : PW X (.BoolOp op vs pos) t := ⟨fun wh pins s σ H Q I q => h.run pins s σ H Q I q⟩
theorem t_not (ha : PT X a (tT X.K na)) : PT X (.UnaryOp .Not a pos) (tT X.K fun ρ => bnd (na ρ) fun k => ret (!k)) := by
  refine (pt_not ha).weak ?_
  rintro σ H Q ⟨W, ρ, rfl, A, sl, d, S', e, k⟩
  obtain ⟨x, S1, e1, e⟩ := bnd_ok e
  obtain ⟨rfl, rfl⟩ := ret_ok e
  exact ⟨W, ρ, rfl, A, sl, x, S1, e1, fun W1 N => k W1 N⟩
theorem t_chain {op op' : CmpOp} {r r' : R2} {g g' : D → D → M Bool} (ho : OpR X (compareOp op) r) (ho' : OpR X (compareOp op') r') (hk : OpB X.K r g) (hk' : OpB X.K r' g') (ha : PE X a (tI X.K ma)) (hb : PE X b (tI X.K mb)) (hc : PE X c (tI X.K mc))
    (hm : behindInMarks op b = false) (hm' : behindInMarks op' c = false) :
    PT X (.Compare a [op, op'] [b, c] pos) (tT X.K fun ρ => bnd (ma ρ) fun x => bnd (mb ρ) fun y => bnd (g x y) fun k => if k then bnd (mc ρ) fun z => g' y z else ret false) := by
  refine (pt_chain ho ho' ha hb hc (by first | exact hm | exact hm')).weak (tT_of (t := tChain r r' (tI X.K ma) (tI X.K mb) (tI X.K mc)) fun σ H Q h => chain_ok hk hk' σ H Q ?_)
  have e : (fun ρ => bnd (bnd (ma ρ) fun x => bnd (mb ρ) fun y => bnd (g x y) fun k => if k then bnd (mc ρ) fun z => g' y z else ret false) fun k => ret (D.bl k)) =
      (fun ρ => bnd (ma ρ) fun x => bnd (mb ρ) fun y => bnd (g x y) fun k => if k then bnd (mc ρ) fun z => bnd (g' y z) fun k' => ret (D.bl k') else ret (.bl false)) := by
    funext ρ
    simp only [bnd_assoc]
    congr 1
    funext x
    congr 1
    funext y
    congr 1
    funext k
    cases k with
    | true => simp only [if_true, bnd_assoc]
    | false => simp only [Bool.false_eq_true, if_false, bnd_ret]
  rw [← e]
  exact h
theorem s_chain {op op' : CmpOp} {r r' : R2} {g g' : D → D → M Bool} (ho : OpR X (compareOp op) r) (ho' : OpR X (compareOp op') r') (hk : OpB X.K r g) (hk' : OpB X.K r' g') (ha : PE X a (tI X.K ma)) (hb : PE X b (tI X.K mb)) (hc : PE X c (tI X.K mc))
    (hm : behindInMarks op b = false) (hm' : behindInMarks op' c = false) :
    PE X (.Compare a [op, op'] [b, c] pos) (tI X.K fun ρ => bnd (ma ρ) fun x => bnd (mb ρ) fun y => bnd (g x y) fun k => if k then bnd (mc ρ) fun z => bnd (g' y z) fun k' => ret (.bl k') else ret (.bl false)) :=
  (pe_chain ho ho' ha hb hc (by first | exact hm | exact hm')).weak (chain_ok hk hk')
theorem empty_len {α β : Type} {xs : List α} {ys : List β} (h : xs.length = ys.length) : xs.isEmpty = ys.isEmpty := by
  cases xs <;> cases ys <;> simp_all
/-- by its truth -/
theorem t_tru (ha : PE X a (tI X.K ma)) (he : ∀ whole, isTrue a X.env whole = (do let v ← whole; standAt a.pos; holding [v] (truthy v))) : PT X a (tT X.K fun ρ => bnd (ma ρ) truD) := by
  refine (pt_truth ha he).weak ?_
  rintro σ H Q ⟨W, ρ, rfl, A, sl, d, S', e, k⟩
  obtain ⟨x, S1, e1, e⟩ := bnd_ok e
  refine ⟨W, ρ, rfl, A, sl, x, S1, e1, fun W1 v N r => ?_⟩
  unfold truD at e
  split at e
  · obtain ⟨rfl, rfl⟩ := ret_ok e
    rw [rep_bl r]
    exact ⟨_, rfl, k W1 N⟩
  · obtain ⟨rfl, rfl⟩ := ret_ok e
    simp only [Rep] at r
    subst r
    exact ⟨_, rfl, k W1 N⟩
  · obtain ⟨rfl, rfl⟩ := ret_ok e
    rw [rep_int r]
    exact ⟨_, rfl, k W1 N⟩
  · obtain ⟨rfl, rfl⟩ := ret_ok e
    simp only [Rep] at r
    obtain ⟨p, vs, rfl, hp, q⟩ := r
    refine ⟨_, .inr (.inl ⟨vs, SqT.of hp, rfl⟩), ?_⟩
    rw [empty_len (reps_len _ _ q)]
    exact k W1 N
  · obtain ⟨rfl, rfl⟩ := ret_ok e
    simp only [Rep] at r
    obtain ⟨p, vs, rfl, hp, _, _, q⟩ := r
    refine ⟨_, .inl ⟨vs, SqL.of hp, rfl⟩, ?_⟩
    rw [empty_len (reps_len _ _ q)]
    exact k W1 N
  · rename_i s
    obtain ⟨c, e⟩ := need_ok e
    obtain ⟨rfl, rfl⟩ := ret_ok e
    have r : v = .str s := by simpa only [Rep] using r
    subst r
    have := small_le c
    refine ⟨_, ⟨line_1M (by omega), ?_⟩, k W1 N⟩
    by_cases h : s.length = 0
    · rw [h]; rfl
    · rw [show ((s.length : Int) != 0) = true from bne_iff_ne.mpr (by omega), show (s.length != 0) = true from bne_iff_ne.mpr h]
  · cases e
/-- a value that is a bool, as a test -/
theorem t_bool {n : Env → M Bool} (ha : PE X a (tI X.K fun ρ => bnd (n ρ) fun k => ret (.bl k))) (he : ∀ whole, isTrue a X.env whole = (do let v ← whole; standAt a.pos; holding [v] (truthy v))) : PT X a (tT X.K n) := by
  refine (pt_val ha he).weak ?_
  exact tT_of (t := tI X.K fun ρ => bnd (n ρ) fun k => ret (.bl k)) fun σ H Q h => h
/-! ### lists of expressions -/
variable {es : List Expr} {me : Env → M D} {ms : Env → M (List D)}
theorem s_nil : PA X [] (tAs X.K fun _ => ret []) := by
  refine pa_nil.weak ?_
  rintro σ H Q ⟨W, ρ, rfl, A, sl, d, S', e, k⟩
  obtain ⟨rfl, rfl⟩ := ret_ok e
  exact k W [] (Nxt.refl A) (by simp only [Reps])
theorem s_cons (ha : PE X e (tI X.K me)) (hr : PA X es (tAs X.K ms)) (hs : starEach (e :: es) X.env = (false, eval e X.env) :: starEach es X.env) : PA X (e :: es) (tAs X.K fun ρ => bnd (me ρ) fun x => bnd (ms ρ) fun xs => ret (x :: xs)) := by
  refine (pa_cons ha hr hs).weak ?_
  rintro σ H Q ⟨W, ρ, rfl, A, sl, d, S', e, k⟩
  obtain ⟨x, S1, e1, e⟩ := bnd_ok e
  obtain ⟨xs, S2, e2, e⟩ := bnd_ok e
  obtain ⟨rfl, rfl⟩ := ret_ok e
  refine ⟨W, ρ, rfl, A, sl, x, S1, e1, fun W1 v N r => ?_⟩
  refine ⟨W1, ρ, rfl, N.ab, sl.ext A N.ext, xs, S2, by rw [N.st]; exact e2, fun W2 vs N2 r2 => ?_⟩
  exact k W2 _ (N.trans N2) (by simp only [Reps]; exact ⟨v, vs, rfl, Rep.ext N.ab N2.ext _ _ r, r2⟩)
theorem s_tup {x1} (h : PA X es (tAs X.K ms)) : PE X (.Tuple es x1 pos) (tI X.K fun ρ => bnd (ms ρ) fun xs => need (small xs.length) (ret (.tup xs))) := by
  refine (pe_tup h).weak ?_
  rintro σ H Q ⟨W, ρ, rfl, A, sl, d, S', e, k⟩
  obtain ⟨xs, S1, e1, e⟩ := bnd_ok e
  obtain ⟨c, e⟩ := need_ok e
  obtain ⟨rfl, rfl⟩ := ret_ok e
  refine ⟨W, ρ, rfl, A, sl, xs, S1, e1, fun W1 vs N r => ⟨?_, fun p hp => ?_⟩⟩
  · rw [reps_len _ _ r]
    have := small_le c
    exact line_1M (by omega)
  · obtain ⟨N2, r2⟩ := new_tup N.ab hp r
    exact k _ _ (N.at_ N2) r2
theorem s_lst {m : Bool} (h : PA X es (tAs X.K ms)) : PE X (.List es pos) (tI X.K fun ρ => bnd (ms ρ) fun xs => need (small xs.length) (mkL m xs)) := by
  refine (pe_lst h).weak ?_
  rintro σ H Q ⟨W, ρ, rfl, A, sl, d, S', e, k⟩
  obtain ⟨xs, S1, e1, e⟩ := bnd_ok e
  obtain ⟨c, e⟩ := need_ok e
  refine ⟨W, ρ, rfl, A, sl, xs, S1, e1, fun W1 vs N r => ⟨?_, fun p hp => ?_⟩⟩
  · rw [reps_len _ _ r]
    have := small_le c
    exact line_1M (by omega)
  · obtain ⟨W2, h1, N2, r2⟩ := mkL_ok N.ab r hp (m := m) (by rw [N.st]; exact e)
    rw [← h1]
    exact k _ _ (N.trans N2) r2
/-! ### parts of slices -/
theorem s_no : PO X none (tOi X.K fun _ => ret none) := ⟨fun pins s σ H Q I h => po_none.run pins s σ H Q I (by
  obtain ⟨W, ρ, rfl, A, sl, d, S', e, k⟩ := h
  obtain ⟨rfl, rfl⟩ := ret_ok e
  exact k W (Nxt.refl A))⟩
theorem s_yes (ha : PE X e (tI X.K me)) : PO X (some e) (tOi X.K fun ρ => bnd (me ρ) fun x => match x with
    | .int i => ret (some i)
    | _ => bad) := ⟨fun pins s σ H Q I h => (po_some ha).run pins s σ H Q I (by
  obtain ⟨W, ρ, rfl, A, sl, d, S', e, k⟩ := h
  obtain ⟨x, S1, e1, e⟩ := bnd_ok e
  refine ⟨W, ρ, rfl, A, sl, x, S1, e1, fun W1 v N r => ?_⟩
  split at e
  · obtain ⟨rfl, rfl⟩ := ret_ok e
    rw [rep_int r]
    exact ⟨_, rfl, k W1 N⟩
  · cases e)⟩
/-! ### ranges, isinstance, pop -/
theorem rgV_eq (n : Int) (h : 0 ≤ n) : rgV 0 n = (List.range n.toNat).map fun k => V.int (0 + (k : Nat)) := by
  unfold rgV
  rw [Int.sub_zero]
theorem s_lrg {m : Bool} {p p2 pos2 : Pos} (hc : X.calm = true) (hg : Gl X "list") (hm : X.mg "list" = none) (hg2 : Gl X "range") (hm2 : X.mg "range" = none) (ha : PE X a (tI X.K ma)) (na : starEach [a] X.env = (false, eval a X.env) :: starEach [] X.env) :
    PE X (.Call (.Name "list" p) [.Call (.Name "range" p2) [a] [] pos2] [] pos) (tI X.K fun ρ => bnd (ma ρ) fun x => match x with
    | .int n => need (decide (0 ≤ n) && decide (n ≤ 1000000)) (mkL m (rngL 0 n.toNat))
    | _ => bad) := by
  refine (pe_listRg hc hg hm (prg_1 hg2 hm2 ha na)).weak ?_
  rintro σ H Q ⟨W, ρ, rfl, A, sl, d, S', e, k⟩
  obtain ⟨x, S1, e1, e⟩ := bnd_ok e
  refine ⟨W, ρ, rfl, A, sl, x, S1, e1, fun W1 v N r => ?_⟩
  split at e
  · rename_i n
    obtain ⟨c, e⟩ := need_ok e
    obtain ⟨c1, c2⟩ := and2 c
    have h1 := of_decide_eq_true c1
    have h2 := of_decide_eq_true c2
    rw [rep_int r]
    refine ⟨n, rfl, RgOk.of_le (by decide) (by omega) (by decide) h1, fun q hq => ?_⟩
    rw [rgV_eq n h1]
    obtain ⟨W2, h1, N2, r2⟩ := mkL_ok N.ab (reps_rng 0 n.toNat) hq (m := m) (by rw [N.st]; exact e)
    rw [← h1]
    exact k _ _ (N.trans N2) r2
  · cases e
theorem s_trg {p p2 pos2 : Pos} (hc : X.calm = true) (hg : Gl X "tuple") (hm : X.mg "tuple" = none) (hg2 : Gl X "range") (hm2 : X.mg "range" = none) (ha : PE X a (tI X.K ma)) (na : starEach [a] X.env = (false, eval a X.env) :: starEach [] X.env) :
    PE X (.Call (.Name "tuple" p) [.Call (.Name "range" p2) [a] [] pos2] [] pos) (tI X.K fun ρ => bnd (ma ρ) fun x => match x with
    | .int n => need (decide (0 ≤ n) && decide (n ≤ 1000000)) (ret (.tup (rngL 0 n.toNat)))
    | _ => bad) := by
  refine (pe_tupRg hc hg hm (prg_1 hg2 hm2 ha na)).weak ?_
  rintro σ H Q ⟨W, ρ, rfl, A, sl, d, S', e, k⟩
  obtain ⟨x, S1, e1, e⟩ := bnd_ok e
  refine ⟨W, ρ, rfl, A, sl, x, S1, e1, fun W1 v N r => ?_⟩
  split at e
  · rename_i n
    obtain ⟨c, e⟩ := need_ok e
    obtain ⟨rfl, rfl⟩ := ret_ok e
    obtain ⟨c1, c2⟩ := and2 c
    have h1 := of_decide_eq_true c1
    have h2 := of_decide_eq_true c2
    rw [rep_int r]
    refine ⟨n, rfl, RgOk.of_le (by decide) (by omega) (by decide) h1, fun q hq => ?_⟩
    rw [rgV_eq n h1]
    obtain ⟨N2, r2⟩ := new_tup N.ab hq (reps_rng 0 n.toNat)
    exact k _ _ (N.at_ N2) r2
  · cases e
theorem setC_ok {k : Nat} {xs ys : List D} {S S' : Sto} (h : S[k]? = some (some ys)) {u : Unit} (e : setC k xs S = .ok u S') : S' = S.set k (some xs) := by
  unfold setC at e
  rw [h] at e
  cases e
  rfl
theorem seqIx_nat {j : Nat} {n : Nat} (h : j < n) : seqIndex? (j : Int) n = some j := (L2.ixN_seq (show L2.ixN n (j : Int) = some j by
  unfold L2.ixN
  rw [if_pos (by omega), if_pos (by omega)]
  rfl)).1
end
end AG
namespace AG
open PySem PySem.Spec PyProof.Rows L2
/-! ### a list taken apart -/
section
variable {prog : Program} {w : World} {A : Around} {E : Value → Shared → Prop}
theorem draw_list {it t : Addr} {items : Array Value} (hne : t ≠ it) : ∀ (n i : Nat) (s : Shared) (Q : List Value → Shared → Prop), s.heap.IsListIter it t i → s.heap.IsList t items → i + n ≤ items.size →
    (∀ h', h'.IsListIter it t (i + n) → Heap.SameBut it s.heap h' → Q ((items.toList.drop i).take n) { s with heap := h' }) → wpAny (model prog w) A (draw (.ref it) n) Q E s
  | 0, i, s, Q, hit, _, _, hQ => by
    show wpAny _ _ (pure []) Q E s
    exact wpAny_pure (by simpa using hQ s.heap hit (Heap.SameBut.refl ..))
  | n + 1, i, s, Q, hit, ht, hle, hQ => by
    have hlt : i < items.size := by omega
    show wpAny _ _ (pyNext (.ref it) >>= _) Q E s
    refine wpAny_bind (wpAny_pyNext_list_item hit ht (x := items[i]) (by simp [hlt]) fun h₁ hit₁ hs₁ => ?_)
    refine wpAny_bind (wpAny_holding (draw_list hne n (i + 1) _ _ hit₁ (ht.extBut hs₁.extBut hne) (by omega) fun h₂ hit₂ hs₂ => wpAny_pure ?_))
    have hd : items.toList.drop i = items[i] :: items.toList.drop (i + 1) := by simp [List.drop_eq_getElem_cons, hlt]
    have := hQ h₂ (by rw [show i + (n + 1) = i + 1 + n by omega]; exact hit₂) (hs₁.trans hs₂)
    rw [hd, List.take_succ_cons] at this
    exact this
variable {s : Shared}
theorem unpackItems_list {t : Addr} {items : Array Value} {Q : List Value → Shared → Prop} (hh : A.handled = none) (ht : s.heap.IsList t items)
    (hQ : ∀ h', Heap.ExtBut s.heap.objs.size s.heap h' → Q items.toList { s with heap := h' }) : wpAny (model prog w) A (unpackItems (.ref t) items.size none) Q E s := by
  have hlt : t ≠ s.heap.objs.size := by obtain ⟨o, ho, _⟩ := ht; exact Nat.ne_of_lt (Heap.lt_size ho)
  unfold unpackItems
  refine wpAny_bind ?_
  · unfold notIterableAtAll
    refine wpAny_bind (wpAny_specialOf ht.typeIs slot_list_iter.lookup ?_)
    refine wpAny_pure ?_
    simp only [Bool.false_eq_true, if_false]
    refine wpAny_bind (wpAny_holding (wpAny_pyIter_list ht ?_))
    refine wpAny_bind (wpAny_holding (draw_list hlt items.size 0 _ _ ⟨_, Heap.get?_push_size _ rfl, rfl, rfl⟩ (ht.push _) (by omega) fun h₁ hit₁ hs₁ => ?_))
    have hall : List.take items.size (List.drop 0 items.toList) = items.toList := by
      rw [List.drop_zero]; exact List.take_of_length_le (by simp)
    rw [hall]
    rw [if_neg (by simp)]
    have ht₁ : h₁.IsList t items := (ht.push _).extBut hs₁.extBut hlt
    refine wpAny_bind (wpAny_holding (wpAny_pyNext_list_end hh hit₁ ht₁ (by simp) fun h₂ he₂ => ?_))
    simp only [Option.isSome_none, Bool.false_eq_true, if_false]
    refine wpAny_pure (hQ h₂ fun b o hb e => he₂ b o hb (hs₁.extBut b o hb (Heap.get?_push_of_some _ e)))
theorem unpack_list {t : Addr} {items : Array Value} {targets : List (Bool × (Value → Sem Unit))} {Q : Unit → Shared → Prop} (hh : A.handled = none) (ht : s.heap.IsList t items)
    (hn : targets.length = items.size) (hstar : targets.findIdx? (·.1) = none)
    (h : ∀ h', Heap.ExtBut s.heap.objs.size s.heap h' → wpAny (model prog w) A (assignInOrder (targets.map (·.2)) items.toList) Q E { s with heap := h' }) :
    wpAny (model prog w) A (unpack (.ref t) targets) Q E s := by
  unfold unpack
  rw [hn, hstar]
  exact wpAny_bind (wpAny_holding (unpackItems_list hh ht h))
theorem assign_Tuple_list {env : PySem.Env} {elts : List Expr} {x1} {pos : Pos} {t : Addr} {items : Array Value} {Q : Unit → Shared → Prop} (hh : A.handled = none) (ht : s.heap.IsList t items)
    (hn : (assignEach elts env).length = items.size) (hstar : (assignEach elts env).findIdx? (·.1) = none)
    (h : ∀ h', Heap.ExtBut s.heap.objs.size s.heap h' → wpAny (model prog w) A (assignInOrder ((assignEach elts env).map (·.2)) items.toList) Q E { s with heap := h' }) :
    wpAny (model prog w) A (assign (.Tuple elts x1 pos) env (.ref t)) Q E s := by
  rw [assign_Tuple]
  exact wpAny_bind (wpAny_standAt (unpack_list hh ht hn hstar h))
end
section
variable {X : Cx} {pos : Pos}
/-- (a, b, ..) = a tuple or a list of that length -/
def gTL (K : PySem.W.Frag) (n : Nat) (t : TGs) : TG := fun v σ H Q => ∃ a xs, v = .ref a ∧ (SqT K H a xs ∨ SqL K H a xs) ∧ xs.length = n ∧ t xs σ H Q
theorem pg_TL {es : List Expr} {k : Nat} {t : TGs} {n : Nat} (hc : X.calm = true) (h : PGs X es t)
    (hn : (assignEach es X.env).length = n := by rfl) (hst : (assignEach es X.env).findIdx? (·.1) = none := by rfl) : PG X (.Tuple es k pos) (gTL X.K n t) := by
  refine ⟨fun pins s σ H v u Q I r hw => ?_⟩
  obtain ⟨a, xs, e1, hq, hl, hw⟩ := hw
  rcases hq with hq | hq
  · exact (pg_tup hc h hn hst).run pins s σ H v u Q I r ⟨a, xs, e1, hq, hl, hw⟩
  · subst e1
    cases r
    obtain ⟨its, rv, ht, hz⟩ := I.list hq
    refine assign_Tuple_list (I.ok.hd hc) ht.isList (by simp [hn, ← hl, rv.length]) hst fun h' hx => ?_
    have I1 : Inv X pins σ H { s with heap := h' } := I.kept (t' := s.toks) fun b o e => hx b o (Nat.ne_of_lt (Heap.lt_size e)) e
    exact h.run pins _ σ H xs _ Q I1 (by simpa using rv) hw
end
end AG
namespace AG
open PySem PySem.Spec PyProof.Rows L2
section
variable {X : Cx} {a b c e : Expr} {pos : Pos} {ma mb mc : Env → M D}
/-! ### o.pop(i), isinstance -/
theorem isC_ok {K : PySem.W.Frag} {W : Wd} (A : Abs K W) {d : D} {v : V} {S' : Sto} {u : Unit} (r : Rep K W d v) (e : isC d W.S = .ok u S') : S' = W.S ∧ tyV K "list" v W.H := by
  unfold isC at e
  split at e
  · obtain ⟨xs, S1, e1, e⟩ := bnd_ok e
    obtain ⟨_, rfl⟩ := ret_ok e
    obtain ⟨rfl, h, p, vs, rfl, h1, h2, q⟩ := getC_ok A r e1
    exact ⟨rfl, .inl ⟨rfl, vs, SqL.of h2⟩⟩
  · obtain ⟨_, rfl⟩ := ret_ok e
    simp only [Rep] at r
    obtain ⟨p, vs, rfl, h2, _, _, q⟩ := r
    exact ⟨rfl, .inl ⟨rfl, vs, SqL.of h2⟩⟩
  · cases e
theorem k_pop {K : PySem.W.Frag} {W : Wd} (A : Abs K W) {x y d : D} {v w : V} {S' : Sto} {Q : VK} (r : Rep K W x v) (r3 : Rep K W y w) (e : popD x y W.S = .ok d S') (k : ∀ W' u, Nxt K W S' W' → Rep K W' d u → Q u W'.H) : rPopAt v [w] W.H Q := by
  unfold popD at e
  split at e
  · rename_i c j
    obtain ⟨xs, S4, e4, e⟩ := bnd_ok e
    obtain ⟨rfl, hk, p, us, rfl, h1, h2, q⟩ := getC_ok A r e4
    cases hx : xs[j.toNat]? with
    | none => rw [hx] at e; cases e
    | some z =>
      rw [hx] at e
      obtain ⟨cc, e⟩ := need_ok e
      obtain ⟨c1, c2⟩ := and2 cc
      have h0 := of_decide_eq_true c1
      have h9 := of_decide_eq_true c2
      obtain ⟨_, S5, e5, e⟩ := bnd_ok e
      obtain ⟨rfl, rfl⟩ := ret_ok e
      have e6 := setC_ok hk e5
      obtain ⟨w', hw, rw'⟩ := reps_get _ _ _ q _ hx
      have hlen := reps_len _ _ q
      have hj : j.toNat < xs.length := (List.getElem?_eq_some_iff.mp hx).1
      rw [rep_int r3]
      have hse := seqIx_nat (j := j.toNat) (n := us.length) (by rw [hlen]; exact hj)
      rw [Int.toNat_of_nonneg h0] at hse
      refine ⟨p, us, j, j.toNat, w', rfl, rfl, h2, by omega, by omega, hse, hw, ?_⟩
      have N3 := set_cell A hk h1 (reps_erase j.toNat _ _ q)
      rw [← e6] at N3
      exact k _ w' N3 (Rep.ext A N3.ext _ _ rw')
  · cases e
theorem s_pop {o i : Expr} {mo mi : Env → M D} {apos cpos : Pos} (ho : PE X o (tI X.K mo)) (hi : PE X i (tI X.K mi)) (hbase : attributeBase o "pop" X.env (eval o X.env) = eval o X.env) (hline : (apos.endLine == cpos.line) = true)
    (hs : starEach [i] X.env = (false, eval i X.env) :: starEach [] X.env) : PE X (.Call (.Attribute o "pop" apos) [i] [] cpos) (tI X.K fun ρ => bnd (mo ρ) fun x => bnd (isC x) fun _ => bnd (mi ρ) fun y => popD x y) := by
  refine (pe_bm PySem.F.plainAttrs_list PySem.F.slot_list_pop PySem.F.type_list_pop mt_popAt ho (s_cons hi s_nil hs) hbase (by rw [hs]; rfl) hline hs rfl).weak ?_
  rintro σ H Q ⟨W, ρ, rfl, A, sl, d, S', e, k⟩
  obtain ⟨x, S1, e1, e⟩ := bnd_ok e
  obtain ⟨_, S2, e2, e⟩ := bnd_ok e
  obtain ⟨y, S3, e3, e⟩ := bnd_ok e
  refine ⟨W, ρ, rfl, A, sl, x, S1, e1, fun W1 v N r => ?_⟩
  rw [← N.st] at e2
  obtain ⟨h, ty⟩ := isC_ok N.ab r e2
  rw [h] at e3
  refine ⟨ty, W1, ρ, rfl, N.ab, sl.ext A N.ext, [y], S3, bnd_mk e3 rfl, fun W2 vs N2 r2 => ?_⟩
  obtain ⟨w, rfl, r3⟩ := reps1 r2
  exact k_pop N2.ab (Rep.ext N.ab N2.ext _ _ r) r3 (by rw [N2.st]; exact e) fun W3 u N3 r4 => k W3 u ⟨N3.st, N3.lk.trans (N2.lk.trans N.lk), N3.ab, (N.ext.trans N2.ext).trans N3.ext⟩ r4
theorem k_idx {K : PySem.W.Frag} {W : Wd} (A : Abs K W) {x y d : D} {v w : V} {S' : Sto} {Q : VK} (r : Rep K W x v) (r3 : Rep K W y w) (e : idxD x y W.S = .ok d S') (k : ∀ W' u, Nxt K W S' W' → Rep K W' d u → Q u W'.H) : rIndexD K v [w] W.H Q := by
  unfold idxD at e
  split at e
  · rename_i c
    obtain ⟨xs, S4, e4, e⟩ := bnd_ok e
    obtain ⟨rfl, hk, p, us, rfl, h1, h2, q⟩ := getC_ok A r e4
    cases h3 : toPy y with
    | none => rw [h3] at e; cases e
    | some z =>
      cases h4 : toPys xs with
      | none => rw [h3, h4] at e; cases e
      | some ps =>
        rw [h3, h4] at e
        obtain ⟨c1, e⟩ := need_ok e
        obtain ⟨c1, c2⟩ := and2 c1
        obtain ⟨e1, e2⟩ := opt_ok e
        subst e2
        obtain ⟨j, hj, rfl⟩ := Option.map_eq_some_iff.mp e1
        obtain ⟨hl, hz, hno⟩ := List.findIdx?_eq_some_iff_getElem.mp hj
        refine ⟨p, w, z, ps, j, ps[j], rfl, rfl, .lst (SqL.of h2) (reps_dp xs us ps q h4), rep_dp.1 _ _ _ r3 h3, c2, c1, List.getElem?_eq_getElem hl, hz, fun m z' hm hz' => ?_, k W _ (Nxt.refl A) (int_rep _)⟩
        have := hno m hm
        obtain ⟨hl2, rfl⟩ := List.getElem?_eq_some_iff.mp hz'
        simpa using this
  · rename_i xs
    simp only [Rep] at r
    obtain ⟨p, us, rfl, h2, _, _, q⟩ := r
    cases h3 : toPy y with
    | none => rw [h3] at e; cases e
    | some z =>
      cases h4 : toPys xs with
      | none => rw [h3, h4] at e; cases e
      | some ps =>
        rw [h3, h4] at e
        obtain ⟨c1, e⟩ := need_ok e
        obtain ⟨c1, c2⟩ := and2 c1
        obtain ⟨e1, e2⟩ := opt_ok e
        subst e2
        obtain ⟨j, hj, rfl⟩ := Option.map_eq_some_iff.mp e1
        obtain ⟨hl, hz, hno⟩ := List.findIdx?_eq_some_iff_getElem.mp hj
        refine ⟨p, w, z, ps, j, ps[j], rfl, rfl, .lst (SqL.of h2) (reps_dp xs us ps q h4), rep_dp.1 _ _ _ r3 h3, c2, c1, List.getElem?_eq_getElem hl, hz, fun m z' hm hz' => ?_, k W _ (Nxt.refl A) (int_rep _)⟩
        have := hno m hm
        obtain ⟨hl2, rfl⟩ := List.getElem?_eq_some_iff.mp hz'
        simpa using this
  · cases e
theorem s_idx {o i : Expr} {mo mi : Env → M D} {apos cpos : Pos} (hu : X.A.units + 65 < cLine) (ho : PE X o (tI X.K mo)) (hi : PE X i (tI X.K mi)) (hbase : attributeBase o "index" X.env (eval o X.env) = eval o X.env) (hline : (apos.endLine == cpos.line) = true)
    (hs : starEach [i] X.env = (false, eval i X.env) :: starEach [] X.env) : PE X (.Call (.Attribute o "index" apos) [i] [] cpos) (tI X.K fun ρ => bnd (mo ρ) fun x => bnd (isC x) fun _ => bnd (mi ρ) fun y => idxD x y) := by
  refine (pe_bm PySem.F.plainAttrs_list PySem.F.slot_list_index PySem.F.type_list_index (mt_indexD hu) ho (s_cons hi s_nil hs) hbase (by rw [hs]; rfl) hline hs rfl).weak ?_
  rintro σ H Q ⟨W, ρ, rfl, A, sl, d, S', e, k⟩
  obtain ⟨x, S1, e1, e⟩ := bnd_ok e
  obtain ⟨_, S2, e2, e⟩ := bnd_ok e
  obtain ⟨y, S3, e3, e⟩ := bnd_ok e
  refine ⟨W, ρ, rfl, A, sl, x, S1, e1, fun W1 v N r => ?_⟩
  rw [← N.st] at e2
  obtain ⟨h, ty⟩ := isC_ok N.ab r e2
  rw [h] at e3
  refine ⟨ty, W1, ρ, rfl, N.ab, sl.ext A N.ext, [y], S3, bnd_mk e3 rfl, fun W2 vs N2 r2 => ?_⟩
  obtain ⟨w, rfl, r3⟩ := reps1 r2
  exact k_idx N2.ab (Rep.ext N.ab N2.ext _ _ r) r3 (by rw [N2.st]; exact e) fun W3 u N3 r4 => k W3 u ⟨N3.st, N3.lk.trans (N2.lk.trans N.lk), N3.ab, (N.ext.trans N2.ext).trans N3.ext⟩ r4
theorem boot_ty : ∀ T : Ty5, bootBuiltins (Str.ofString T.name) = some (.type T.name) := by
  intro T; cases T <;> decide +kernel
theorem isi_ok {K : PySem.W.Frag} {W : Wd} (A : Abs K W) {d : D} {v : V} {T : Ty5} {S S' : Sto} {k : Bool} (hS : W.S = S) (r : Rep K W d v) (e : isiD d T S = .ok k S') : S = S' ∧ ∃ t, TyX K W.H v t ∧ PySem.W.kitOne K t (.type T.name) = some k := by
  unfold isiD at e
  split at e
  · obtain ⟨rfl, rfl⟩ := ret_ok e
    simp only [Rep] at r
    subst r
    exact ⟨rfl, _, .base .non, kit_ty (by cases T <;> decide +kernel)⟩
  · obtain ⟨rfl, rfl⟩ := ret_ok e
    rw [rep_bl r]
    exact ⟨rfl, _, .base (.bl _), kit_ty (by cases T <;> decide +kernel)⟩
  · obtain ⟨rfl, rfl⟩ := ret_ok e
    rw [rep_int r]
    exact ⟨rfl, _, .base (.int _), kit_ty (by cases T <;> decide +kernel)⟩
  · obtain ⟨rfl, rfl⟩ := ret_ok e
    simp only [Rep] at r
    subst r
    exact ⟨rfl, _, .base (.str _), kit_ty (by cases T <;> decide +kernel)⟩
  · obtain ⟨rfl, rfl⟩ := ret_ok e
    simp only [Rep] at r
    obtain ⟨p, vs, rfl, hp, q⟩ := r
    exact ⟨rfl, _, .base (.tup hp), kit_ty (by cases T <;> decide +kernel)⟩
  · obtain ⟨rfl, rfl⟩ := ret_ok e
    simp only [Rep] at r
    obtain ⟨p, vs, rfl, hp, _, _, q⟩ := r
    exact ⟨rfl, _, .base (.lst hp), kit_ty (by cases T <;> decide +kernel)⟩
  · obtain ⟨rfl, rfl⟩ := ret_ok e
    simp only [Rep] at r
    obtain ⟨p, us, o, rfl, hp, _, h3, _, _⟩ := r
    obtain ⟨l, _, rfl⟩ := dicO_K h3
    exact ⟨rfl, _, .base (.dK hp), kit_ty (by cases T <;> decide +kernel)⟩
  · subst hS
    obtain ⟨xs, S1, e1, e⟩ := bnd_ok e
    obtain ⟨rfl, rfl⟩ := ret_ok e
    obtain ⟨rfl, _, p, vs, rfl, h1, h2, q⟩ := getC_ok A r e1
    exact ⟨rfl, _, .base (.lst h2), kit_ty (by cases T <;> decide +kernel)⟩
  · cases e
theorem s_isi {p pT : Pos} {T : Ty5} (hg : Gl X "isinstance") (hm : X.mg "isinstance" = none) (hgT : Gl X (Str.ofString T.name)) (hmT : X.mg (Str.ofString T.name) = none) (ha : PE X a (tI X.K ma))
    (hs : starEach [a, .Name (Str.ofString T.name) pT] X.env = (false, eval a X.env) :: starEach [.Name (Str.ofString T.name) pT] X.env) :
    PE X (.Call (.Name "isinstance" p) [a, .Name (Str.ofString T.name) pT] [] pos) (tI X.K fun ρ => bnd (ma ρ) fun x => bnd (isiD x T) fun k => ret (.bl k)) := by
  have hT : PE X (.Name (Str.ofString T.name) pT) (tC (.ty T.name)) := pe_bltn hgT hmT (boot_ty T) rfl (by cases T <;> decide) (by cases T <;> decide)
  refine (pe_callB call_isi hg hm PyProof.Rows.boot_isinstance (pa_cons ha (pa_cons hT pa_nil rfl) hs) (by decide) (by decide) hs rfl).weak ?_
  rintro σ H Q ⟨W, ρ, rfl, A, sl, d, S', e, k⟩
  obtain ⟨x, S1, e1, e⟩ := bnd_ok e
  obtain ⟨c, S2, e2, e⟩ := bnd_ok e
  obtain ⟨rfl, rfl⟩ := ret_ok e
  refine ⟨W, ρ, rfl, A, sl, x, S1, e1, fun W1 v N r => ?_⟩
  obtain ⟨rfl, t, h1, h2⟩ := isi_ok N.ab N.st r e2
  exact ⟨v, .ty T.name, t, .type T.name, c, rfl, .ty _, h1, h2, k W1 _ N (bl_rep _)⟩
/-! ### what is walked -/
def Walks (K : PySem.W.Frag) (J : L2.It) (xs : List D) (W0 : Wd) : Prop := ∀ W, Abs K W → ExtL W0 W → ∀ i : Nat,
  (∀ d, xs[i]? = some d → J.go i W.H ∧ ∀ v H', J.yld i W.H v H' → ∃ W1, W1.H = H' ∧ Nxt K W W.S W1 ∧ Rep K W1 d v) ∧ (xs.length ≤ i → J.stop i W.H)
def tIt (K : PySem.W.Frag) (m : Env → M (List D)) : TI := fun σ H R => ∃ (W : Wd) (ρ : Env), W.H = H ∧ Abs K W ∧ Sl K W ρ σ ∧ ∃ xs S', m ρ W.S = .ok xs S' ∧ ∀ W' J, Nxt K W S' W' → Walks K J xs W' → R J W'.H
theorem _root_.L2.PI.weak {tg iter : Expr} {t t' : TI} (h : PI X tg iter t) (w : ∀ σ H R, t' σ H R → t σ H R) : PI X tg iter t' := ⟨fun pins s σ H R I q => h.run pins s σ H R I (w σ H R q)⟩
theorem PI_or {tg iter : Expr} {t t' : TI} (h : PI X tg iter t) (h' : PI X tg iter t') : PI X tg iter (fun σ H R => t σ H R ∨ t' σ H R) := ⟨fun pins s σ H R I q => q.elim (h.run pins s σ H R I) (h'.run pins s σ H R I)⟩
theorem walks_tup {K : PySem.W.Frag} {W : Wd} (A : Abs K W) {p : Addr} {vs : List V} {xs : List D} (hp : W.H p = some (.tup vs)) (q : Reps K W xs vs) : Walks K (Itt K p) xs W := by
  intro W' A' E i
  have h1 := (E.keep p _ hp (A.nolive hp (fun z => z)) (A.nolk hp (fun _ z => nomatch z))).1
  have q' := Reps.extL A E _ _ q
  have hl := reps_len _ _ q'
  refine ⟨fun d hd => ?_, fun hi => ⟨vs, SqT.of h1, by omega⟩⟩
  obtain ⟨v, h2, h3⟩ := reps_get _ _ i q' d hd
  refine ⟨⟨vs, v, SqT.of h1, h2⟩, fun w H' hy => ?_⟩
  obtain ⟨rfl, hy⟩ := hy
  have := hy vs (SqT.of h1)
  rw [h2] at this
  cases this
  exact ⟨W', rfl, Nxt.refl A', h3⟩
theorem walks_lst {K : PySem.W.Frag} {W : Wd} (A : Abs K W) {p : Addr} {vs : List V} {xs : List D} (hp : W.H p = some (.lst vs)) (hn : ¬ Live W p) (hk : ¬ W.lk p) (q : Reps K W xs vs) : Walks K (Itl K p) xs W := by
  intro W' A' E i
  have h1 := (E.keep p _ hp hn hk).1
  have q' := Reps.extL A E _ _ q
  have hl := reps_len _ _ q'
  refine ⟨fun d hd => ?_, fun hi => ⟨vs, SqL.of h1, by omega⟩⟩
  obtain ⟨v, h2, h3⟩ := reps_get _ _ i q' d hd
  refine ⟨⟨vs, v, SqL.of h1, h2⟩, fun w H' hy => ?_⟩
  obtain ⟨rfl, hy⟩ := hy
  have := hy vs (SqL.of h1)
  rw [h2] at this
  cases this
  exact ⟨W', rfl, Nxt.refl A', h3⟩
theorem rngL_get (i : Int) (n k : Nat) : (rngL i n)[k]? = if k < n then some (.int (i + (k : Nat))) else none := by
  unfold rngL
  rw [List.getElem?_map]
  by_cases h : k < n
  · rw [if_pos h, List.getElem?_range h]
    rfl
  · rw [if_neg h, List.getElem?_eq_none (by simpa using h)]
    rfl
theorem rngL_len (i : Int) (n : Nat) : (rngL i n).length = n := by unfold rngL; simp
theorem walks_rng {K : PySem.W.Frag} {W : Wd} (lo : Int) (n : Nat) : Walks K (Itr lo n) (rngL lo n) W := by
  intro W' A' E i
  refine ⟨fun d hd => ?_, fun hi => ?_⟩
  · rw [rngL_get] at hd
    split at hd
    · rename_i h
      cases hd
      refine ⟨h, fun w H' hy => ?_⟩
      obtain ⟨rfl, rfl⟩ := hy
      exact ⟨W', rfl, Nxt.refl A', int_rep _⟩
    · cases hd
  · rw [rngL_len] at hi
    exact hi
theorem seq_w {K : PySem.W.Frag} {ma : Env → M D} {σ : L2.St} {H : Hp} {R : L2.It → Hp → Prop} (h : tIt K (fun ρ => bnd (ma ρ) fun x => match x with
    | .tup xs => ret xs
    | .lst xs => ret xs
    | _ => bad) σ H R) : iTup K (tI K ma) σ H R ∨ iList K (tI K ma) σ H R := by
  obtain ⟨W, ρ, rfl, A, sl, xs, S', e, k⟩ := h
  obtain ⟨x, S1, e1, e⟩ := bnd_ok e
  cases x with
  | tup ys =>
    obtain ⟨rfl, rfl⟩ := ret_ok (show ret ys S1 = _ from e)
    refine .inl ⟨W, ρ, rfl, A, sl, _, S1, e1, fun W1 v N r => ?_⟩
    simp only [Rep] at r
    obtain ⟨p, vs, rfl, hp, q⟩ := r
    exact ⟨p, rfl, ⟨vs, SqT.of hp⟩, k W1 _ N (walks_tup N.ab hp q)⟩
  | lst ys =>
    obtain ⟨rfl, rfl⟩ := ret_ok (show ret ys S1 = _ from e)
    refine .inr ⟨W, ρ, rfl, A, sl, _, S1, e1, fun W1 v N r => ?_⟩
    simp only [Rep] at r
    obtain ⟨p, vs, rfl, hp, hn, hk, q⟩ := r
    exact ⟨p, rfl, ⟨vs, SqL.of hp⟩, k W1 _ N (walks_lst N.ab hp hn hk q)⟩
  | _ => cases e
theorem i_seq {tg : Expr} (ha : PE X a (tI X.K ma)) : PI X tg a (tIt X.K fun ρ => bnd (ma ρ) fun x => match x with
    | .tup xs => ret xs
    | .lst xs => ret xs
    | _ => bad) := by
  exact (PI_or (pi_tup ha) (pi_list ha)).weak fun σ H R => seq_w
/-! ### ranges of any ends -/
theorem turn_long {P : Program} {w : World} {K : PySem.W.Frag} {tg : Expr} (it : Addr) (lo : Int) (n : Nat) : Turn P w K tg (Itr lo n) [it] it (fun i h => IsLongIter h it (lo + (i : Nat) * 1) ((n : Int) - (i : Nat)) 1) where
  mem := by simp
  obj := fun i h st b hb => by
    have e : b = it := by simpa using hb
    subst e
    exact ⟨_, st, fun v z => by
      have z' : Data.fields _ = Data.cell v := z
      cases z'⟩
  keep := fun i h h' st k => k it (by simp) _ st
  item := by
    intro X hP hw hK hc i pins s σ H E I hf st hg
    subst hP hw hK
    obtain ⟨f0, f1, f2, f3, f4, f5⟩ := hf it (by simp)
    have W := Walks.longrange (prog := X.prog) (w := X.w) (I.ok.hd hc) it lo 1 n
    refine W.item i s _ _ hg st fun v h' tk hv st' kk => ?_
    obtain ⟨t, rfl⟩ := hv
    have I1 : Inv X pins σ H { s with heap := h', toks := tk } := I.turned (fun b o hb e => kk b o (by simpa using hb) e) f0 f1 f3 f4 f5
    refine ⟨_, rfl, go_of (s := { s with heap := h', toks := tk }) (n := "longrange_iterator") st' rfl rfl (by decide) ⟨.int (lo + i), H, I1, ⟨t, ?_⟩, ⟨rfl, rfl⟩, st', fun b hb => (hf b hb).1⟩⟩
    rw [Int.mul_one]
  done := by
    intro X hP hw hK hc i pins s σ H E I hf st hg
    subst hP hw hK
    obtain ⟨f0, f1, f2, f3, f4, f5⟩ := hf it (by simp)
    exact wpAny_pyNext_long_end (I.ok.hd hc) st (by have : n ≤ i := hg; omega) fun h' eb => ⟨rfl, I.turned (t' := s.toks) (fun b o hb e => eb b o hb e) f0 f1 f3 f4 f5⟩
  self := fun _ _ _ _ _ st h => wpAny_pyIter_longiter st h
theorem range_itg {X : Cx} {tg : Expr} {pins : List (Addr × Obj)} {σ : L2.St} {H : Hp} {s : Shared} {R : L2.It → Hp → Prop} {E : Value → Shared → Prop} {lo hi : Int} {t u v : Tok} {tk : Nat} (I : Inv X pins σ H s)
    (q : R (Itr lo (hi - lo).toNat) H) : wpAny (model X.prog X.w) X.A (pyIter (.ref s.heap.objs.size)) (PIE X pins σ tg R) E { s with heap := s.heap.push { cls := .type "range", data := .fields #[.int lo t, .int hi u, .int 1 v] }, toks := tk } := by
  have e1 : lo + ((0 : Nat) : Int) * 1 = lo := by simp
  have e2 : (((hi - lo).toNat : Nat) : Int) - ((0 : Nat) : Int) = Builtin.Range.rangeSize lo hi 1 := by rw [rangeSize_one]; split <;> omega
  have I1 : Inv X pins σ H { s with heap := s.heap.push { cls := .type "range", data := .fields #[.int lo t, .int hi u, .int 1 v] }, toks := tk } := I.kept fun b o e => Heap.get?_push_of_some _ e
  cases hs : Builtin.Range.small lo hi 1 with
  | true =>
    refine wpAny_pyIter_range (IsRange.new ..) hs ?_
    refine ⟨(s.heap.push { cls := .type "range", data := .fields #[.int lo t, .int hi u, .int 1 v] }).objs.size, [(s.heap.push { cls := .type "range", data := .fields #[.int lo t, .int hi u, .int 1 v] }).objs.size], _, _, H, rfl,
      I1.kept (t' := tk) fun b o e => Heap.get?_push_of_some _ e, turn_range _ lo (hi - lo).toNat, ?_, fun b hb => ?_, q⟩
    · show IsRangeIter _ _ (lo + ((0 : Nat) : Int) * 1) ((((hi - lo).toNat : Nat) : Int) - ((0 : Nat) : Int)) 1
      rw [e1, e2]
      exact Heap.get?_push_size _ rfl
    · have e : b = (s.heap.push { cls := .type "range", data := .fields #[.int lo t, .int hi u, .int 1 v] }).objs.size := by simpa using hb
      subst e
      exact I1.fpOk (Nat.le_refl _) (I1.hok.fresh (Nat.le_refl _))
  | false =>
    refine wpAny_pyIter_longrange (IsRange.new ..) hs ?_
    refine ⟨(s.heap.push { cls := .type "range", data := .fields #[.int lo t, .int hi u, .int 1 v] }).objs.size, [(s.heap.push { cls := .type "range", data := .fields #[.int lo t, .int hi u, .int 1 v] }).objs.size], _, _, H, rfl,
      I1.kept (t' := tk) fun b o e => Heap.get?_push_of_some _ e, turn_long _ lo (hi - lo).toNat, ?_, fun b hb => ?_, q⟩
    · show IsLongIter _ _ (lo + ((0 : Nat) : Int) * 1) ((((hi - lo).toNat : Nat) : Int) - ((0 : Nat) : Int)) 1
      rw [e1, e2]
      exact Heap.get?_push_size _ rfl
    · have e : b = (s.heap.push { cls := .type "range", data := .fields #[.int lo t, .int hi u, .int 1 v] }).objs.size := by simpa using hb
      subst e
      exact I1.fpOk (Nat.le_refl _) (I1.hok.fresh (Nat.le_refl _))
def iRng1g (ta : TA) : TI := fun σ H R => ta σ H fun vs H1 => ∃ j : Int, vs = [.int j] ∧ R (Itr 0 j.toNat) H1
def iRng2g (ta : TA) : TI := fun σ H R => ta σ H fun vs H1 => ∃ i j : Int, vs = [.int i, .int j] ∧ R (Itr i (j - i).toNat) H1
theorem pi_range1g {a : Expr} {ta : TA} {tg : Expr} {p pos : Pos} (hg : Gl X "range") (hm : X.mg "range" = none) (ha : PA X [a] ta) (hs : starEach [a] X.env = [(false, eval a X.env)] := by rfl) : PI X tg (.Call (.Name "range" p) [a] [] pos) (iRng1g ta) := by
  refine ⟨fun pins s σ H R I h => ?_⟩
  refine Call_ (ld_blt I hg hm boot_range (PyProof.Rows.callWith_type1 (thn (ha.run pos pins s σ H _ I h) fun us s1 ⟨vs, H1, I1, r1, q1⟩ => ?_) hs rfl))
  obtain ⟨j, e, q⟩ := q1
  subst e
  cases r1 with
  | cons r rr =>
    cases rr
    obtain ⟨t, rfl⟩ := r
    exact call_range_1 (range_itg I1 (by simpa using q))
theorem pi_range2g {a b : Expr} {ta : TA} {tg : Expr} {p pos : Pos} (hg : Gl X "range") (hm : X.mg "range" = none) (ha : PA X [a, b] ta) (hs : starEach [a, b] X.env = [(false, eval a X.env), (false, eval b X.env)] := by rfl) (hs2 : starEach [b] X.env = [(false, eval b X.env)] := by rfl) :
    PI X tg (.Call (.Name "range" p) [a, b] [] pos) (iRng2g ta) := by
  refine ⟨fun pins s σ H R I h => ?_⟩
  refine Call_ (ld_blt I hg hm boot_range (PyProof.Rows.callWith_type1 (thn (ha.run pos pins s σ H _ I h) fun us s1 ⟨vs, H1, I1, r1, q1⟩ => ?_) (by rw [hs, hs2]) (by rw [hs2]; rfl)))
  obtain ⟨i, j, e, q⟩ := q1
  subst e
  cases r1 with
  | cons r rr =>
    cases rr with
    | cons r' rr =>
      cases rr
      obtain ⟨t, rfl⟩ := r
      obtain ⟨t', rfl⟩ := r'
      exact call_range_2 (range_itg I1 q)
theorem i_rng {tg : Expr} {p : Pos} (hg : Gl X "range") (hm : X.mg "range" = none) (ha : PE X a (tI X.K ma)) (hs : starEach [a] X.env = (false, eval a X.env) :: starEach [] X.env) :
    PI X tg (.Call (.Name "range" p) [a] [] pos) (tIt X.K fun ρ => bnd (ma ρ) fun x => match x with
    | .int n => need (okR n) (ret (rngL 0 n.toNat))
    | _ => bad) := by
  refine (pi_range1g hg hm (s_cons ha s_nil hs) hs).weak ?_
  rintro σ H R ⟨W, ρ, rfl, A, sl, xs, S', e, k⟩
  obtain ⟨x, S1, e1, e⟩ := bnd_ok e
  refine ⟨W, ρ, rfl, A, sl, [x], S1, bnd_mk e1 rfl, fun W1 vs N r => ?_⟩
  obtain ⟨v, rfl, r1⟩ := reps1 r
  split at e
  · obtain ⟨c, e⟩ := need_ok e
    obtain ⟨rfl, rfl⟩ := ret_ok e
    rw [rep_int r1]
    exact ⟨_, rfl, k W1 _ N (walks_rng 0 _)⟩
  · cases e
theorem i_rng2 {tg : Expr} {p : Pos} (hg : Gl X "range") (hm : X.mg "range" = none) (ha : PE X a (tI X.K ma)) (hb : PE X b (tI X.K mb)) (hs : starEach [a, b] X.env = (false, eval a X.env) :: starEach [b] X.env) (hs2 : starEach [b] X.env = (false, eval b X.env) :: starEach [] X.env) :
    PI X tg (.Call (.Name "range" p) [a, b] [] pos) (tIt X.K fun ρ => bnd (ma ρ) fun x => bnd (mb ρ) fun y => bnd (ints2 x y) fun p => need (okR p.1 && okR p.2) (ret (rngL p.1 (p.2 - p.1).toNat))) := by
  refine (pi_range2g hg hm (s_cons ha (s_cons hb s_nil hs2) hs) (by rw [hs, hs2]; rfl) hs2).weak ?_
  rintro σ H R ⟨W, ρ, rfl, A, sl, xs, S', e, k⟩
  obtain ⟨x, S1, e1, e⟩ := bnd_ok e
  obtain ⟨y, S2, e2, e⟩ := bnd_ok e
  obtain ⟨⟨i, j⟩, S3, e3, e⟩ := bnd_ok e
  refine ⟨W, ρ, rfl, A, sl, [x, y], S2, bnd_mk e1 (bnd_mk (bnd_mk e2 rfl) rfl), fun W1 vs N r => ?_⟩
  obtain ⟨v, w, rfl, r1, r2⟩ := reps2 r
  unfold ints2 at e3
  split at e3
  · obtain ⟨h, rfl⟩ := ret_ok e3
    cases h
    obtain ⟨c, e⟩ := need_ok e
    obtain ⟨rfl, rfl⟩ := ret_ok e
    rw [rep_int r1, rep_int r2]
    exact ⟨_, _, rfl, k W1 _ N (walks_rng _ _)⟩
  · cases e3
/-! ### targets -/
def tgs : Tg → List Nat
  | .name i => [i]
  | .tup is => is
  | .pair i is => i :: is
def TgOk (K : PySem.W.Frag) (g : TG) (tg : Tg) : Prop := ∀ (W : Wd) (d : D) (v : V) (ρ ρ' : Env) (σ : L2.St) (Q : L2.St → Hp → Prop), Abs K W → Rep K W d v → Sl K W ρ σ → asg tg d ρ = some ρ' →
  (∀ σ', Sl K W ρ' σ' → (∀ vs, (∀ i ∈ tgs tg, i ∈ vs) → wipe σ' vs = wipe σ vs) → Q σ' W.H) → g v σ W.H Q
theorem wipe_get (σ : L2.St) (j : Nat) : ∀ vs : List Nat, (wipe σ vs)[j]? = if j ∈ vs then (σ[j]?).map (fun _ => none) else σ[j]?
  | [] => by simp [wipe]
  | v :: vs => by
    unfold wipe
    by_cases h : v = j
    · subst h
      rw [if_pos (List.mem_cons_self ..)]
      by_cases hv : v < σ.length
      · rw [List.getElem?_set_self (by rw [wipe_length]; exact hv), List.getElem?_eq_getElem hv]
        rfl
      · rw [List.getElem?_eq_none (by simpa [wipe_length] using hv), List.getElem?_eq_none (by simpa using hv)]
        rfl
    · rw [List.getElem?_set_ne h, wipe_get σ j vs]
      by_cases h2 : j ∈ vs
      · rw [if_pos h2, if_pos (List.mem_cons_of_mem _ h2)]
      · rw [if_neg h2, if_neg (by simp only [List.mem_cons, not_or]; exact ⟨fun z => h z.symm, h2⟩)]
theorem wipe_set (σ : L2.St) (i : Nat) (x : Option V) (vs : List Nat) (h : i ∈ vs) : wipe (σ.set i x) vs = wipe σ vs := by
  apply List.ext_getElem?
  intro j
  rw [wipe_get, wipe_get]
  by_cases hj : j ∈ vs
  · rw [if_pos hj, if_pos hj]
    by_cases e : i = j
    · subst e
      by_cases hl : i < σ.length
      · rw [List.getElem?_set_self hl, List.getElem?_eq_getElem hl]
        rfl
      · rw [List.getElem?_eq_none (by simpa using hl), List.getElem?_eq_none (by simpa using hl)]
    · rw [List.getElem?_set_ne e]
  · rw [if_neg hj, if_neg hj, List.getElem?_set_ne (fun e : i = j => hj (by rw [← e]; exact h))]
theorem wipe_wipe (σ : L2.St) (vs : List Nat) : wipe (wipe σ vs) vs = wipe σ vs := by
  apply List.ext_getElem?
  intro j
  rw [wipe_get, wipe_get]
  by_cases hj : j ∈ vs
  · rw [if_pos hj, if_pos hj, Option.map_map]
    rfl
  · rw [if_neg hj, if_neg hj]
theorem wipeD_get (ρ : Env) (j : Nat) (d : D) : ∀ vs : List Nat, (wipeD ρ vs)[j]? = some (some d) → j ∉ vs ∧ ρ[j]? = some (some d)
  | [], h => ⟨by simp, h⟩
  | v :: vs, h => by
    unfold wipeD at h
    by_cases e : v = j
    · subst e
      by_cases hl : v < (wipeD ρ vs).length
      · rw [List.getElem?_set_self hl] at h; cases h
      · rw [List.getElem?_eq_none (by simpa using hl)] at h; cases h
    · rw [List.getElem?_set_ne e] at h
      obtain ⟨h1, h2⟩ := wipeD_get ρ j d vs h
      exact ⟨by simp only [List.mem_cons, not_or]; exact ⟨fun z => e z.symm, h1⟩, h2⟩
theorem wipeD_len (ρ : Env) : ∀ vs : List Nat, (wipeD ρ vs).length = ρ.length
  | [] => rfl
  | v :: vs => by unfold wipeD; rw [List.length_set, wipeD_len ρ vs]
theorem Sl.wipe {K : PySem.W.Frag} {W : Wd} {ρ : Env} {σ : L2.St} (h : Sl K W ρ σ) (vs : List Nat) : Sl K W (wipeD ρ vs) (L2.wipe σ vs) := by
  refine ⟨by rw [wipeD_len, wipe_length]; exact h.1, fun j d e => ?_⟩
  obtain ⟨h1, h2⟩ := wipeD_get ρ j d vs e
  obtain ⟨v, h3, h4⟩ := h.2 j d h2
  exact ⟨v, by rw [wipe_get, if_neg h1]; exact h3, h4⟩
theorem tg_name {K : PySem.W.Frag} (i : Nat) : TgOk K (gName i) (.name i) := by
  intro W d v ρ ρ' σ Q A r sl e k
  have e : some (ρ.set i (some d)) = some ρ' := e
  cases e
  exact k _ (sl.set i r) fun vs h => wipe_set σ i _ vs (h i (by simp [tgs]))
def gNames : List Nat → TGs
  | [] => gNil
  | i :: is => gCons (gName i) (gNames is)
theorem names_ok {K : PySem.W.Frag} {W : Wd} : ∀ (is : List Nat) (ds : List D) (us : List V) (ρ ρ' : Env) (σ : L2.St) (Q : L2.St → Hp → Prop), Reps K W ds us → Sl K W ρ σ → setAll is ds ρ = some ρ' →
    (∀ σ', Sl K W ρ' σ' → (∀ vs, (∀ i ∈ is, i ∈ vs) → wipe σ' vs = wipe σ vs) → Q σ' W.H) → gNames is us σ W.H Q
  | [], [], us, ρ, ρ', σ, Q, r, sl, e, k => by
    simp only [Reps] at r
    cases e
    exact ⟨r, k σ sl fun _ _ => rfl⟩
  | i :: is, d :: ds, us, ρ, ρ', σ, Q, r, sl, e, k => by
    simp only [Reps] at r
    obtain ⟨v, us', rfl, r1, r2⟩ := r
    refine ⟨v, us', rfl, ?_⟩
    show gNames is us' (σ.set i (some v)) W.H Q
    refine names_ok is ds us' _ ρ' _ Q r2 (sl.set i r1) e fun σ' sl' h => k σ' sl' fun vs hv => ?_
    rw [h vs fun j hj => hv j (List.mem_cons_of_mem _ hj)]
    exact wipe_set σ i _ vs (hv i (List.mem_cons_self ..))
  | [], _ :: _, _, _, _, _, _, _, _, e, _ => by cases e
  | _ :: _, [], _, _, _, _, _, _, _, e, _ => by cases e
theorem setAll_len : ∀ (is : List Nat) (ds : List D) (ρ ρ' : Env), setAll is ds ρ = some ρ' → ds.length = is.length
  | [], [], _, _, _ => rfl
  | i :: is, d :: ds, ρ, ρ', e => by
    have e : setAll is ds (ρ.set i (some d)) = some ρ' := e
    rw [List.length_cons, List.length_cons, setAll_len is ds _ ρ' e]
  | [], _ :: _, _, _, e => by cases e
  | _ :: _, [], _, _, e => by cases e
theorem tg_tup {K : PySem.W.Frag} (is : List Nat) : TgOk K (gTL K is.length (gNames is)) (.tup is) := by
  intro W d v ρ ρ' σ Q A r sl e k
  cases d with
  | tup ds =>
    have e : setAll is ds ρ = some ρ' := e
    simp only [Rep] at r
    obtain ⟨p, us, rfl, hp, q⟩ := r
    refine ⟨p, us, rfl, .inl (SqT.of hp), ?_, names_ok is ds us ρ ρ' σ Q q sl e k⟩
    rw [reps_len _ _ q]
    exact setAll_len is ds ρ ρ' e
  | lst ds =>
    have e : setAll is ds ρ = some ρ' := e
    simp only [Rep] at r
    obtain ⟨p, us, rfl, hp, _, _, q⟩ := r
    refine ⟨p, us, rfl, .inr (SqL.of hp), ?_, names_ok is ds us ρ ρ' σ Q q sl e k⟩
    rw [reps_len _ _ q]
    exact setAll_len is ds ρ ρ' e
  | _ => cases e
theorem tg_pair {K : PySem.W.Frag} (i : Nat) (is : List Nat) : TgOk K (gTup K 2 (gCons (gName i) (gCons (gTup K is.length (gNames is)) gNil))) (.pair i is) := by
  intro W d v ρ ρ' σ Q A r sl e k
  cases d with
  | tup ds =>
    match ds, e with
    | [x, .tup ds2], e =>
      have e : setAll is ds2 (ρ.set i (some x)) = some ρ' := e
      simp only [Rep, Reps] at r
      obtain ⟨p, us, rfl, hp, v1, r1, rfl, h1, v2, r2, rfl, h2, rfl⟩ := r
      obtain ⟨p2, us2, rfl, hp2, q2⟩ := h2
      refine ⟨p, _, rfl, SqT.of hp, rfl, v1, _, rfl, ?_⟩
      refine ⟨.ref p2, [], rfl, ?_⟩
      refine ⟨p2, us2, rfl, SqT.of hp2, ?_, ?_⟩
      · rw [reps_len _ _ q2]
        exact setAll_len is ds2 _ ρ' e
      · refine names_ok is ds2 us2 _ ρ' _ _ q2 (sl.set i h1) e fun σ' sl' h => ⟨rfl, k σ' sl' fun vs hv => ?_⟩
        rw [h vs fun j hj => hv j (by simp only [tgs]; exact List.mem_cons_of_mem _ hj)]
        exact wipe_set σ i _ vs (hv i (by simp only [tgs]; exact List.mem_cons_self ..))
  | _ => cases e
end
end AG
namespace AG
open PySem PySem.Spec PyProof.Rows L2 RZ
/-! ### type(x) == T -/
section
variable {X : Cx} {a b c e : Expr} {pos : Pos} {ma mb mc : Env → M D}
theorem meta_kn {n : String} (h : knTy.contains n = true) (s' : Shared) : s'.TypeIs (.type n) "type" := by
  have h : n ∈ knTy := by simpa using h
  simp only [knTy, List.mem_cons, List.not_mem_nil, or_false] at h
  rcases h with h | h | h | h | h | h | h <;> subst h
  · exact PySem.TypeEq.meta_NoneType s'
  · exact PySem.TypeEq.meta_bool s'
  · exact PySem.TypeEq.meta_int s'
  · exact PySem.TypeEq.meta_str s'
  · exact PySem.TypeEq.meta_tuple s'
  · exact PySem.TypeEq.meta_list s'
  · exact PySem.TypeEq.meta_dict s'
def rEqTy : R2 := fun x y H Q => ∃ s t, x = .ty s ∧ y = .ty t ∧ knTy.contains s = true ∧ knTy.contains t = true ∧ Q (.bl (decide (s = t))) H
theorem o_eqTy : OpR X (compareOp .Eq) rEqTy := by
  intro pins s σ H x y v u Q I rx ry h
  obtain ⟨n, m, rfl, rfl, h1, h2, q⟩ := h
  cases rx
  cases ry
  by_cases hnm : n = m
  · subst hnm
    refine PySem.TypeEq.eq_type_same (meta_kn h1) ⟨.bl _, H, I, rfl, ?_⟩
    simpa using q
  · refine PySem.TypeEq.eq_type_other (meta_kn h1) (meta_kn h2) (by rw [Bool.eq_false_iff]; intro z; exact hnm (by have := eq_of_beq z; cases this; rfl)) ⟨.bl _, H, I, rfl, ?_⟩
    rw [decide_eq_false hnm] at q
    exact q
theorem k_eqTy {K : PySem.W.Frag} : OpB K rEqTy tyEq := opB_of fun W d1 d2 v1 v2 c S' Q A r1 r2 e k => by
  unfold tyEq at e
  split at e
  · obtain ⟨c, e⟩ := need_ok e
    obtain ⟨c1, c2⟩ := and2 c
    obtain ⟨rfl, rfl⟩ := ret_ok e
    simp only [Rep] at r1 r2
    exact ⟨_, _, r1, r2, c1, c2, k W (Nxt.refl A)⟩
  · cases e
/-- what a datum's type is -/
inductive TyE (H : Hp) : V → String → Prop
  | non : TyE H .non "NoneType"
  | bl (b : Bool) : TyE H (.bl b) "bool"
  | of {v : V} {T : String} (h : Ty4 H v T) : TyE H v T
  | dK {a : Addr} {kvs} (e : H a = some (.dK kvs)) : TyE H (.ref a) "dict"
def rTyE : List V → Hp → VK → Prop := fun xs H Q => ∃ (x : V) (T : String), xs = [x] ∧ TyE H x T ∧ Q (.ty T) H
theorem call_tyE : CallR X (.type "type") rTyE := by
  intro pins s σ H xs us Q I r h
  obtain ⟨x, T, rfl, t, q⟩ := h
  obtain ⟨u, rfl, rx⟩ := vals1 r
  have key : s.TypeIs u T ∧ (Value.type T == Value.type "builtin_function_or_method") = false := by
    cases t with
    | non => cases rx; exact ⟨rfl, by decide +kernel⟩
    | bl b => cases rx; exact ⟨rfl, by decide +kernel⟩
    | of h => exact h.is I rx
    | dK e =>
      cases rx
      obtain ⟨_, _, vs, _, o, es, ep, h1, h2, _⟩ := I.hok _ _ e
      exact ⟨⟨o, h1, h2.1⟩, by decide +kernel⟩
  exact call_type_of key.1 key.2 ⟨.ty T, H, I, rfl, q⟩
theorem ok_typ {K : PySem.W.Frag} : CallOk K rTyE (fun ds => match ds with
    | [a] => typD a
    | _ => bad) := by
  intro W ds vs d S' Q A r e k
  change (match ds with
    | [a] => typD a
    | _ => bad) W.S = _ at e
  split at e
  · obtain ⟨v, rfl, r'⟩ := reps1 r
    have r := r'
    unfold typD at e
    split at e <;> first | (cases e; done) | skip
    rotate_left 7
    · obtain ⟨xs, S1, e1, e⟩ := bnd_ok e
      obtain ⟨rfl, rfl⟩ := ret_ok e
      obtain ⟨rfl, _, p, vs, rfl, h1, h2, q⟩ := getC_ok A r e1
      exact ⟨_, _, rfl, .of (.lst h2), k W _ (Nxt.refl A) (by simp only [Rep])⟩
    all_goals (obtain ⟨rfl, rfl⟩ := ret_ok e)
    · simp only [Rep] at r; subst r; exact ⟨_, _, rfl, .non, k W _ (Nxt.refl A) (by simp only [Rep])⟩
    · rw [rep_bl r]; exact ⟨_, _, rfl, .bl _, k W _ (Nxt.refl A) (by simp only [Rep])⟩
    · rw [rep_int r]; exact ⟨_, _, rfl, .of (.int _), k W _ (Nxt.refl A) (by simp only [Rep])⟩
    · simp only [Rep] at r; subst r; exact ⟨_, _, rfl, .of (.str _), k W _ (Nxt.refl A) (by simp only [Rep])⟩
    · simp only [Rep] at r
      obtain ⟨p, vs, rfl, hp, q⟩ := r
      exact ⟨_, _, rfl, .of (.tup hp), k W _ (Nxt.refl A) (by simp only [Rep])⟩
    · simp only [Rep] at r
      obtain ⟨p, vs, rfl, hp, _, _, q⟩ := r
      exact ⟨_, _, rfl, .of (.lst hp), k W _ (Nxt.refl A) (by simp only [Rep])⟩
    · simp only [Rep] at r
      obtain ⟨p, us, o, rfl, hp, _, h3, _, _⟩ := r
      obtain ⟨l, _, rfl⟩ := dicO_K h3
      exact ⟨_, _, rfl, .dK hp, k W _ (Nxt.refl A) (by simp only [Rep])⟩
  · cases e
theorem pe_typ {p : Pos} (hg : Gl X "type") (hm : X.mg "type" = none) (ha : PE X a (tI X.K ma)) (hs : starEach [a] X.env = (false, eval a X.env) :: starEach [] X.env) : PE X (.Call (.Name "type" p) [a] [] pos) (tI X.K fun ρ => bnd (ma ρ) typD) := by
  refine (pe_callTy call_tyE hg hm (by decide +kernel) (s_cons ha s_nil hs) (by decide) (by decide) hs rfl).weak fun σ H Q h => s_call ok_typ σ H Q ?_
  have e : (fun ρ => bnd (bnd (ma ρ) fun x => bnd (ret []) fun xs => ret (x :: xs)) fun ds => match ds with
    | [a] => typD a
    | _ => bad) = fun ρ => bnd (ma ρ) typD := by
    funext ρ
    simp only [bnd_assoc, bnd_ret]
  rw [e]
  exact h
theorem pe_tyn {T : Ty5} {p : Pos} (hg : Gl X (Str.ofString T.name)) (hm : X.mg (Str.ofString T.name) = none) : PE X (.Name (Str.ofString T.name) p) (tI X.K fun _ => ret (.ty T.name)) :=
  s_const (v := .ty T.name) (pe_bltn hg hm (boot_ty T) rfl (by cases T <;> decide) (by cases T <;> decide)) fun W => by simp only [Rep]
/-! ### dicts shown -/
theorem s_dic0 : PE X (.Dict [] [] pos) (tI X.K fun _ => ret (.dic false [] [])) := by
  refine pe_dnewK.weak ?_
  rintro σ H Q ⟨W, ρ, rfl, A, sl, d', S', e, k⟩
  obtain ⟨rfl, rfl⟩ := ret_ok e
  intro p hp
  obtain ⟨N, r⟩ := new_dic A hp (t := false) (ks := []) (ds := []) (us := []) (o := .dK []) rfl rfl (by simp only [Reps])
  exact k _ _ N r
theorem s_dic1 {i j : Int} {ke ve : Expr} (hk : PE X ke (tC (.int i))) (hv : PE X ve (tC (.int j))) : PE X (.Dict [some ke] [ve] pos) (tI X.K fun _ => ret (.dic false [.i i] [.int j])) := by
  refine (pe_disp (pps_cons hk hv pps_nil) rfl rfl (by simp) (by show 1 ≤ 15; decide)).weak ?_
  rintro σ H Q ⟨W, ρ, rfl, A, sl, d', S', e, k⟩
  obtain ⟨rfl, rfl⟩ := ret_ok e
  intro p hp
  refine ⟨upd_same, [(.inl i, .int j)], rfl, by show 1 ≤ 15; decide, ?_⟩
  rw [upd_upd]
  obtain ⟨N, r⟩ := new_dic A hp (t := false) (ks := [.i i]) (ds := [.int j]) (us := [.int j]) (o := .dK [(.inl i, .int j)]) rfl rfl (reps_one (int_rep j))
  exact k _ _ N r
/-! ### t[::-1] -/
end
end AG
namespace AG
open PySem PySem.Spec PyProof.Rows L2 RZ HT
section
variable {prog : Program} {w : World} {A : Around} {E : Value → Shared → Prop} {s : Shared}
theorem sliceApplied_rev {sl : Addr} {vk : Value} {n : Nat} {Q : Int × Int × Nat → Shared → Prop} (hs : s.heap.IsSliceOf sl .none .none vk) (pk : IsPart vk (some (-1))) 
    (h : Q ((n : Int) - 1, -1, n) s) : wpAny (model prog w) A (Builtin.Slice.sliceApplied (.ref sl) (pure (n : Int))) Q E s := by
  obtain ⟨os, hos, hcs, hds⟩ := id hs
  unfold Builtin.Slice.sliceApplied Builtin.Slice.sliceFields
  refine wpAny_bind (wpAny_bind (wpAny_field hos hds (x := .none) rfl (wpAny_bind (wpAny_field hos hds (x := .none) rfl (wpAny_bind (wpAny_field hos hds (x := vk) rfl (wpAny_pure ?_)))))))
  refine wpAny_bind (slicePart_ pk ?_)
  show wpAny _ _ (if ((-1 : Int) == 0) = true then _ else _) _ _ s
  rw [if_neg (by decide)]
  refine wpAny_bind (slicePart_none (wpAny_bind (slicePart_none (wpAny_bind (wpAny_pure ?_)))))
  have e : Builtin.Slice.slicePlaces ((n : Int) - 1) (-1) (-1) = n := by
    unfold Builtin.Slice.slicePlaces
    rw [if_neg (by decide)]
    by_cases h0 : n = 0
    · subst h0; decide
    · rw [if_pos (by omega)]
      show (((n : Int) - 1 - (-1) - 1) / 1 + 1).toNat = n
      rw [Int.ediv_one]
      omega
  show wpAny _ _ (pure ((n : Int) - 1, (-1 : Int), Builtin.Slice.slicePlaces ((n : Int) - 1) (-1) (-1))) _ _ s
  rw [e]
  exact wpAny_pure h
theorem pick_rev (xs : Array Value) : ((List.range xs.size).filterMap fun (m : Nat) => xs[((xs.size : Int) - 1 + (m : Int) * (-1)).toNat]?).toArray = xs.toList.reverse.toArray := by
  congr 1
  have e : ∀ n, n ≤ xs.size → ((List.range n).filterMap fun (m : Nat) => xs[((xs.size : Int) - 1 + (m : Int) * (-1)).toNat]?) = xs.toList.reverse.take n := by
    intro n
    induction n with
    | zero => intro _; rfl
    | succ n ih =>
      intro hn
      rw [List.range_succ, List.filterMap_append, ih (by omega), List.take_add_one]
      congr 1
      have e2 : ((xs.size : Int) - 1 + (n : Int) * (-1)).toNat = xs.size - 1 - n := by omega
      rw [List.filterMap_cons, List.filterMap_nil, e2, List.getElem?_reverse (by rw [Array.length_toList]; omega), Array.length_toList, Array.getElem?_toList]
      rw [Array.getElem?_eq_getElem (by omega)]
      rfl
  rw [e xs.size (Nat.le_refl _), List.take_of_length_le (by rw [List.length_reverse, Array.length_toList]; omega)]
theorem getItem_tuple_rev {t sl : Addr} {items : Array Value} {vk : Value} {Q : Value → Shared → Prop} (ht : IsTup s.heap t items) (hs : s.heap.IsSliceOf sl .none .none vk) (pk : IsPart vk (some (-1)))
    (h : Q (.ref s.heap.objs.size) { s with heap := s.heap.push { cls := .type "tuple", data := .seq items.toList.reverse.toArray } })
    (hsz : items.size ≤ sizeLine) : wpAny (model prog w) A (getItem (.ref t) (.ref sl)) Q E s := by
  have htake : sizeOk (.seq items.toList.reverse.toArray) := by
    show (items.toList.reverse.toArray).size ≤ sizeLine
    rw [List.size_toArray, List.length_reverse, Array.length_toList]
    exact hsz
  obtain ⟨os, hos, hcs, hds⟩ := id hs
  have hTs : s.TypeIs (.ref sl) "slice" := ⟨os, hos, hcs⟩
  unfold getItem
  try with_reducible refine wpAny_holding ?_
  first | refine wpAny_bind (wpAny_pure ?_) | skip
  refine wpAny_bind (wpAny_sequenceKey ht.typeIs (by decide) ?_)
  refine wpAny_bind (wpAny_callSpecial?_slot (name := Str.ofString "__getitem__") ht.typeIs PyProof.Rows.slot_tuple_getitem
    (wpAny_call_entry PyProof.Rows.slot_tuple_getitem ht.typeIs entry_tuple_getitem ?_ (args_tuple_getitem _ _)))
  show wpAny _ _ (Builtin.Tuple.tupleItemsOf (.ref t) >>= _) _ _ s
  refine wpAny_bind (tupleItemsOf_ ht ?_)
  refine wpAny_bind (wpAny_typeOf hTs ?_)
  rw [if_pos (by decide)]
  refine wpAny_bind (sliceApplied_rev hs pk ?_)
  have hno : ¬ ((((items.size : Int) - 1) == 0 && (-1 : Int) == 1 && items.size == items.size) = true) := by
    intro q
    rw [Bool.and_eq_true, Bool.and_eq_true] at q
    exact absurd q.1.2 (by decide)
  show wpAny _ _ (if (((items.size : Int) - 1) == 0 && (-1 : Int) == 1 && items.size == items.size) = true then _ else _) _ _ s
  rw [if_neg hno, pick_rev]
  first
    | exact wpAny_bind (m := Builtin.Tuple.tupleExact _) (wpAny_newObj_type (wpAny_pure ⟨_, rfl, wpAny_pure h⟩) htake)
    | exact wpAny_bind (m := Builtin.Tuple.tupleExact _) (wpAny_newObj_type (wpAny_bind (wpAny_pure (wpAny_pure ⟨_, rfl, wpAny_pure h⟩))) htake)
    | exact wpAny_bind (wpAny_bind (m := Builtin.Tuple.tupleExact _) (wpAny_newObj_type (wpAny_pure (wpAny_pure ⟨_, rfl, wpAny_pure h⟩)) htake))
    | exact wpAny_bind (wpAny_bind (m := Builtin.Tuple.tupleExact _) (wpAny_newObj_type (wpAny_pure ⟨_, rfl, wpAny_pure h⟩) htake))
end
section
variable {X : Cx} {a e : Expr} {te : TE} {pos p2 : Pos} {ma : Env → M D}
def tRev (K : PySem.W.Frag) (te : TE) : TE := fun σ H Q => te σ H fun v H1 => ∃ a xs, v = .ref a ∧ ((SqT K H1 a xs ∧ ∀ p, H1 p = none → Q (.ref p) (upd H1 p (.tup xs.reverse))) ∨ (SqL K H1 a xs ∧ ∀ p, H1 p = none → Q (.ref p) (upd H1 p (.lst xs.reverse))))
theorem pe_rev {k : Expr} (he : PE X e te) (hk : PE X k (tC (.int (-1)))) : PE X (.Subscript e (.Slice none none (some k) p2) pos) (tRev X.K te) := by
  refine ⟨fun pins s σ H Q I h => ?_⟩
  refine Subscript_ (thn (he.run pins s σ H _ I h) fun v s1 ⟨x, H1, I1, r1, q1⟩ => ?_)
  refine wpAny_Slice ?_
  rw [evalPart_none]
  refine wpAny_pure (wpAny_pure ?_)
  rw [evalPart_some]
  refine thn (hk.run pins s1 σ H1 (fun z H3 => z = .int (-1) ∧ H3 = H1) I1 ⟨rfl, rfl⟩) fun vk s3 ⟨z, H3, I3, rk, hz, hH⟩ => ?_
  subst hz hH
  obtain ⟨t, rfl⟩ := rk
  obtain ⟨b, xs, rfl, hxq⟩ := q1
  cases r1
  have I4 : Inv X pins σ H3 { s3 with heap := s3.heap.push { cls := .type "slice", data := .fields #[.none, .none, .int (-1) t] } } := I3.kept (t' := s3.toks) fun b ob q => Heap.get?_push_of_some _ q
  rcases hxq with ⟨hx, q⟩ | ⟨hx, q⟩
  rotate_left
  · obtain ⟨its, r, ht, hz⟩ := I4.list hx
    have hlen := r.length
    show wpAny (model X.prog X.w) X.A (subscriptTail e (.Slice none none (some k) p2) (.ref b) (.ref s3.heap.objs.size)) (EP X pins σ Q) X.xe { s3 with heap := s3.heap.push { cls := .type "slice", data := .fields #[.none, .none, .int (-1) t] } }
    refine tail_any (ops := [.ref b, .ref s3.heap.objs.size]) ht.isList.typeIs (PySem.slot_list_getitem.lookup) ?_ (by with_unfolding_all rfl)
    refine wpAny_getItem_list_slice ht.isList (Heap.IsSliceOf.new _ .none .none (.int (-1) t)) .none .none (.int (-1) t) (by decide) ?_ (by rw [List.size_toArray]; omega)
    rw [PySem.W.krv_pick]
    refine ⟨.ref _, _, I4.laid (t' := s3.toks) (o := .lst xs.reverse) (fun b ob q => Heap.get?_push_of_some _ q) (Nat.le_refl _) ?_, rfl, q _ (I4.hok.fresh (Nat.le_refl _))⟩
    exact ⟨by rw [List.length_reverse]; exact hz, _, 0, r.reverse, Heap.get?_push_size _ rfl⟩
  obtain ⟨its, r, ht, hz⟩ := I4.tuple hx
  have hg : wpAny (model X.prog X.w) X.A (getItem (.ref b) (.ref s3.heap.objs.size)) (EP X pins σ Q) X.xe { s3 with heap := s3.heap.push { cls := .type "slice", data := .fields #[.none, .none, .int (-1) t] } } := by
    refine getItem_tuple_rev ht (Heap.IsSliceOf.new ..) (.int (-1) t) ?_ (by rw [List.size_toArray, ← r.length]; exact hz)
    refine ⟨.ref (s3.heap.push { cls := .type "slice", data := .fields #[.none, .none, .int (-1) t] }).objs.size, _, I4.laid (t' := s3.toks) (o := .tup xs.reverse) (fun b ob q => Heap.get?_push_of_some _ q) (Nat.le_refl _) ?_, rfl, q _ (I4.hok.fresh (Nat.le_refl _))⟩
    refine ⟨?_, _, r.reverse, IsTup.new _ _⟩
    rw [List.length_reverse]
    exact hz
  show wpAny (model X.prog X.w) X.A (subscriptTail e (.Slice none none (some k) p2) (.ref b) (.ref s3.heap.objs.size)) (EP X pins σ Q) X.xe { s3 with heap := s3.heap.push { cls := .type "slice", data := .fields #[.none, .none, .int (-1) t] } }
  exact tail_any (ops := [.ref b, .ref s3.heap.objs.size]) ht.typeIs PyProof.Rows.slot_tuple_getitem.lookup hg (by with_unfolding_all rfl)
theorem reps_rev {K : PySem.W.Frag} {W : Wd} : ∀ (ds : List D) (vs : List V), Reps K W ds vs → Reps K W ds.reverse vs.reverse
  | [], vs, h => by simp only [Reps] at h; subst h; simp [Reps]
  | d :: ds, vs, h => by
    simp only [Reps] at h
    obtain ⟨v, r, rfl, h1, h2⟩ := h
    rw [List.reverse_cons, List.reverse_cons]
    exact reps_app _ _ _ _ (reps_rev ds r h2) (reps_one h1)
theorem pe_m1 {q : Pos} {z : Expr} (hz : PE X z (tC (.int 1))) : PE X (.UnaryOp .USub z q) (tC (.int (-1))) := (pe_un un_neg hz).weak fun σ H Q h => ⟨1, rfl, h⟩
theorem s_rev {k : Expr} (ha : PE X a (tI X.K ma)) (hk : PE X k (tC (.int (-1)))) : PE X (.Subscript a (.Slice none none (some k) p2) pos) (tI X.K fun ρ => bnd (ma ρ) revD) := by
  refine (pe_rev ha hk).weak ?_
  rintro σ H Q ⟨W, ρ, rfl, A, sl, d, S', e, k⟩
  obtain ⟨x, S1, e1, e⟩ := bnd_ok e
  refine ⟨W, ρ, rfl, A, sl, x, S1, e1, fun W1 v N r => ?_⟩
  unfold revD at e
  split at e
  · obtain ⟨rfl, rfl⟩ := ret_ok e
    simp only [Rep] at r
    obtain ⟨p, vs, rfl, hp, q⟩ := r
    refine ⟨p, vs, rfl, .inl ⟨SqT.of hp, fun p2 hp2 => ?_⟩⟩
    obtain ⟨N2, r2⟩ := new_tup N.ab hp2 (reps_rev _ _ q)
    exact k _ _ (N.at_ N2) r2
  · obtain ⟨rfl, rfl⟩ := ret_ok e
    simp only [Rep] at r
    obtain ⟨p, vs, rfl, hp, _, _, q⟩ := r
    refine ⟨p, vs, rfl, .inr ⟨SqL.of hp, fun p2 hp2 => ?_⟩⟩
    obtain ⟨N2, r2⟩ := new_lst N.ab hp2 (reps_rev _ _ q)
    exact k _ _ (N.at_ N2) r2
  · cases e
end
end AG
namespace AG
open PySem PySem.Spec PyProof.Rows L2
/-! ### enumerate(tuple) -/
def IteT (K : PySem.W.Frag) (a : Addr) : L2.It :=
  ⟨fun i H => ∃ (xs : List V) (x : V), SqT K H a xs ∧ xs[i]? = some x, fun i H v H' => ∃ T x, v = .ref T ∧ H T = none ∧ H' = upd H T (.tup [.int (i : Nat), x]) ∧ ∀ xs, SqT K H a xs → xs[i]? = some x, fun i H => ∃ xs : List V, SqT K H a xs ∧ xs.length ≤ i⟩
theorem wpAny_pyNext_enum_endT {prog : Program} {w : World} {A : Around} {E : Value → Shared → Prop} {s : Shared} {e it l : Addr} {i : Nat} {items : Array Value} {old : Value} {Q : Option Value → Shared → Prop} (hh : A.handled = none)
    (he : IsEnum s.heap e it i old) (hit : s.heap.IsTupleIter it l i) (hl : s.heap.IsTuple l items) (hx : items[i]? = none)
    (hQ : ∀ h', Heap.ExtBut it s.heap h' → Q none { s with heap := h' }) : wpAny (model prog w) A (pyNext (.ref e)) Q E s := by
  have hT : s.TypeIs (.ref e) "enumerate" := ⟨_, he, rfl⟩
  unfold pyNext
  refine wpAny_bind (wpAny_attempt (wpAny_callSpecial?_slot (name := Str.ofString "__next__") hT F.slot_enumerate_next
    (wpAny_call_entry F.slot_enumerate_next hT F.entry_enumerate_next ?_ (F.args_enumerate_next_1 _))))
  show wpAny _ _ (field (.ref e) 2 >>= _) _ _ _
  refine wpAny_bind (wpAny_field he rfl (x := .ref it) rfl ?_)
  refine wpAny_bind (wpAny_nextOf_tuple_end hh hit hl hx fun h' x he' hx' => ?_)
  obtain ⟨o, ho, hc⟩ := hx'
  refine wpAny_bind (wpAny_isInstance (T := "StopIteration") (b := true) ⟨o, ho, hc⟩ isSubtype_stop ?_)
  exact wpAny_pure (hQ _ he')
theorem turn_enumT {P : Program} {w : World} {K : PySem.W.Frag} {elts : List Expr} {kk : Nat} {tpos : Pos} (a e it : Addr) :
    Turn P w K (.Tuple elts kk tpos) (IteT K a) [e, it] e (fun i h => (∃ old, IsEnum h e it ((i : Nat) : Int) old) ∧ h.IsTupleIter it a i ∧ e ≠ it) where
  mem := by simp
  obj := fun i h st b hb => by
    obtain ⟨⟨old, he⟩, ⟨o, ho, hc, hd⟩, _⟩ := st
    have e' : b = e ∨ b = it := by simpa using hb
    rcases e' with z | z
    · rw [z]; exact ⟨_, he, fun v q => nomatch q⟩
    · rw [z]; exact ⟨o, ho, fun v q => by rw [hd] at q; cases q⟩
  keep := fun i h h' st k => let ⟨⟨old, he⟩, hi, hne⟩ := st; ⟨⟨old, k e (by simp) _ he⟩, hi.at fun o q => k it (by simp) o q, hne⟩
  item := by
    intro X hP hw hK hc i pins s σ H E I hf st hg
    subst hP hw hK
    obtain ⟨⟨old, he⟩, hit, hne⟩ := st
    obtain ⟨xs, x, hq, hx⟩ := hg
    obtain ⟨its, rv, p, hz⟩ := I.tuple hq
    obtain ⟨u, hu, ru⟩ := rv.get hx
    have hel : e < s.heap.objs.size := Heap.lt_size he
    have hil : it < s.heap.objs.size := by obtain ⟨_, q, _⟩ := hit; exact Heap.lt_size q
    have hat : a ≠ it := fun z => by
      obtain ⟨o, ho, hc, hd⟩ := hit
      obtain ⟨o2, ho2, hc2, _⟩ := p
      rw [z] at ho2
      rw [ho] at ho2
      cases ho2
      rw [hc] at hc2
      exact absurd hc2 (by decide +kernel)
    have hea : e ≠ a := fun z => by
      obtain ⟨o2, ho2, hc2, _⟩ := p
      rw [← z] at ho2
      rw [show s.heap.get? e = _ from he] at ho2
      cases ho2
      exact absurd (show Value.type "enumerate" = Value.type "tuple" from hc2) (by decide +kernel)
    have p' : s.heap.IsTuple a its.toArray := p
    have hsz0 : i < its.toArray.size := by
      have := (List.getElem?_eq_some_iff.mp hu).1
      simpa using this
    refine wpAny_pyNext_enum_itemD (D := Draws.tuple (A := X.A.in1) (I.ok.hd hc) it a hat its.toArray) he (i := i) ⟨hit, p'⟩ hsz0 hne (by simp [hne, hea]) fun x' h' tk hP ho hst hT hsz hk => ?_
    have hxx : x' = u := by
      have hP' : its.toArray[i]? = some x' := hP
      rw [show its.toArray[i]? = some u by simpa using hu] at hP'
      exact (Option.some.inj hP').symm
    subst hxx
    refine ⟨_, rfl, wpAny_letOwnedTupleGo_enum (s := { s with heap := h', toks := tk + 1 }) ho fun h'' he' sb => ?_⟩
    have hT2 : h''.get? s.heap.objs.size = some { cls := .type "tuple", data := .seq #[.int i tk, x'] } := (sb.2 _ (Nat.ne_of_gt hel)).trans hT
    have new : ObjOk X.prog X.w (upd H s.heap.objs.size (.tup [.int (i : Nat), x])) h'' s.heap.objs.size (.tup [.int (i : Nat), x]) :=
      ⟨by show 2 ≤ sizeLine; decide, [.int i tk, x'], .cons ⟨_, rfl⟩ (.cons ru .nil), ⟨_, hT2, rfl, _, rfl⟩⟩
    have I1 : Inv X pins σ (upd H s.heap.objs.size (.tup [.int (i : Nat), x])) { s with heap := h'', toks := tk + 1 } :=
      I.turnedNew (ch := [e, it]) (fun b ob hb q => (sb.2 b (fun z => hb (by simp [z]))).trans (hk b ob (fun z => hb (by simp [z])) (fun z => hb (by simp [z])) q)) hf (Nat.le_refl _) new
    refine ⟨.ref s.heap.objs.size, _, I1, rfl, ⟨_, x, rfl, I.hok.fresh (Nat.le_refl _), rfl, fun ys hy => by rw [I.tuple_inj hy hq]; exact hx⟩, ⟨⟨x', ?_⟩, hst.1.at fun o q => (sb.2 it (Ne.symm hne)).trans q, hne⟩, fun b hb => ?_⟩
    · have e1 : ((i + 1 : Nat) : Int) = (i : Int) + 1 := by omega
      rw [e1]; exact he'
    · have hb' : b < s.heap.objs.size := by
        have e' : b = e ∨ b = it := by simpa using hb
        rcases e' with z | z
        · rw [z]; exact hel
        · rw [z]; exact hil
      rw [upd_ne (Nat.ne_of_lt hb')]
      exact (hf b hb).1
  done := by
    intro X hP hw hK hc i pins s σ H E I hf st hg
    subst hP hw hK
    obtain ⟨⟨old, he⟩, hit, hne⟩ := st
    obtain ⟨xs, hq, hx⟩ := hg
    obtain ⟨its, rv, p, hz⟩ := I.tuple hq
    obtain ⟨f0, f1, f2, f3, f4, f5⟩ := hf it (by simp)
    have hl := rv.length
    exact wpAny_pyNext_enum_endT (I.ok.hd hc) he hit p (by simp; omega) fun h' eb => ⟨rfl, I.turned (t' := s.toks) (fun b o hb q => eb b o hb q) f0 f1 f3 f4 f5⟩
  self := fun A i s Q E st h => let ⟨⟨_, he⟩, _⟩ := st; wpAny_pyIter_enum he h
/-- enumerate(v): its two new objects -/
theorem meets_enumerate_new1 {v : Value} {o : Obj} {H : Heap → Prop} (B : Begins v o H) :
    Meets (Builtin.«enumerate.__new__» ⟨[.type "enumerate", v], []⟩) (fun _ R s => H s.heap ∧
      R (.ok (.ret (.ref (s.heap.push o).objs.size))) { s with heap := (s.heap.push o).push { cls := .type "enumerate", data := .fields #[.none, .bool false, .ref s.heap.objs.size, rawInt 0, .none, .none] } }) :=
  .of_wp fun prog w A R s h => by
    obtain ⟨hp, g, d, tk, os⟩ := s; obtain ⟨h1, h⟩ := h
    have hsub := sub_enumerate
    have q1 : ∀ {A' : Around} {E : Value → Shared → Prop} {Q : Value → Shared → Prop}, Q (.ref hp.objs.size) ⟨hp.push o, g, d, tk, os⟩ → wpAny (model prog w) A' (pyIter v) Q E ⟨hp, g, d, tk, os⟩ :=
      fun q => B.iter prog w _ _ ⟨hp, g, d, tk, os⟩ _ h1 q
    wp_walk using q1
    refine wpAny_stack_any fun st => wpAny_pure ?_
    split
    · rename_i c _ _ _ _ _
      cases (c == Value.type "enumerate")
      · wp_walk using q1
        exact ⟨_, rfl, h⟩
      · wp_walk using q1
        exact ⟨_, rfl, h⟩
    · wp_walk using q1
      exact ⟨_, rfl, h⟩
theorem enum_begins1 {prog : Program} {w : World} {A : Around} {E : Value → Shared → Prop} {s : Shared} {v : Value} {o : Obj} {H : Heap → Prop} {Q : Value → Shared → Prop} (B : Begins v o H) (h1 : H s.heap)
    (h : ∀ h', IsEnum h' (s.heap.objs.size + 1) s.heap.objs.size 0 .none → h'.get? s.heap.objs.size = some o → h'.objs.size = s.heap.objs.size + 2 →
      (∀ b o, s.heap.get? b = some o → h'.get? b = some o) → Q (.ref (s.heap.objs.size + 1)) { s with heap := h' }) :
    wpAny (model prog w) A (call (.type "enumerate") [v]) Q E s := by
  refine callType_new F.called_enumerate (by decide) (F.typeCall_enumerate_1 _) (F.newCall_enumerate_1 _) (fun obj => F.args_object_init_2 obj _) F.entry_enumerate_new
    (meets_enumerate_new1 B) ⟨h1, ?_⟩
  have hz : (s.heap.push o).objs.size = s.heap.objs.size + 1 := Heap.size_push ..
  show _ ∧ _
  rw [hz]
  have he : IsEnum ((s.heap.push o).push { cls := .type "enumerate", data := .fields #[.none, .bool false, .ref s.heap.objs.size, rawInt 0, .none, .none] }) (s.heap.objs.size + 1) s.heap.objs.size 0 .none := by
    have := Heap.get?_push_size (s.heap.push o) (o := { cls := .type "enumerate", data := .fields #[.none, .bool false, .ref s.heap.objs.size, rawInt 0, .none, .none] }) rfl
    rw [hz] at this; exact this
  refine ⟨⟨_, he, rfl⟩, h _ he (Heap.get?_push_of_some _ (Heap.get?_push_size _ B.free)) (by rw [Heap.size_push, hz]) fun b o x => Heap.get?_push_of_some _ (Heap.get?_push_of_some _ x)⟩
def iEnumT (K : PySem.W.Frag) (ta : TA) : TI := fun σ H R => ta σ H fun vs H1 => ∃ a xs, vs = [.ref a] ∧ SqT K H1 a xs ∧ R (IteT K a) H1
theorem pi_enumT {X : Cx} {e : Expr} {ta : TA} {p pos tpos : Pos} {elts : List Expr} {kk : Nat} (hg : Gl X "enumerate") (hm : X.mg "enumerate" = none) (ha : PA X [e] ta) (hs : starEach [e] X.env = [(false, eval e X.env)]) :
    PI X (.Tuple elts kk tpos) (.Call (.Name "enumerate" p) [e] [] pos) (iEnumT X.K ta) := by
  refine ⟨fun pins s σ H R I h => ?_⟩
  refine Call_ (ld_blt I hg hm boot_enumerate (PyProof.Rows.callWith_type1 (thn (ha.run pos pins s σ H _ I h) fun us s1 ⟨vs, H1, I1, r1, q1⟩ => ?_) hs rfl))
  obtain ⟨a, xs, ex, hq, q⟩ := q1
  subst ex
  cases r1 with
  | cons r rr =>
    cases rr
    cases r
    obtain ⟨its, rv, p', hz⟩ := I1.tuple hq
    refine enum_begins1 (begins_tuple a its.toArray) p' fun h' he hit hsz hk => wpAny_pyIter_enum he ?_
    have I2 : Inv X pins σ H1 { s1 with heap := h' } := I1.kept (t' := s1.toks) hk
    refine ⟨s1.heap.objs.size + 1, [s1.heap.objs.size + 1, s1.heap.objs.size], _, _, H1, rfl, I2, turn_enumT a (s1.heap.objs.size + 1) s1.heap.objs.size, ⟨⟨.none, he⟩, ⟨_, hit, rfl, rfl⟩, Nat.succ_ne_self _⟩, fun b hb => ?_, q⟩
    have e' : b = s1.heap.objs.size + 1 ∨ b = s1.heap.objs.size := by simpa using hb
    have hle : s1.heap.objs.size ≤ b := by
      rcases e' with z | z
      · rw [z]; exact Nat.le_add_right _ _
      · rw [z]; exact Nat.le_refl _
    exact I1.fpOk hle (I1.hok.fresh hle)
theorem enmL_get : ∀ (xs : List D) (n i : Nat) (d : D), (enmL n xs)[i]? = some d → ∃ x, xs[i]? = some x ∧ d = .tup [.int ((n + i : Nat) : Int), x]
  | [], n, i, d, h => by simp [enmL] at h
  | x :: xs, n, 0, d, h => by
    simp only [enmL, List.getElem?_cons_zero, Option.some.injEq] at h
    exact ⟨x, rfl, h.symm⟩
  | x :: xs, n, i + 1, d, h => by
    simp only [enmL, List.getElem?_cons_succ] at h
    obtain ⟨y, h1, h2⟩ := enmL_get xs (n + 1) i d h
    exact ⟨y, h1, by rw [h2, show n + 1 + i = n + (i + 1) by omega]⟩
theorem enmL_len : ∀ (xs : List D) (n : Nat), (enmL n xs).length = xs.length
  | [], n => rfl
  | x :: xs, n => by rw [enmL, List.length_cons, List.length_cons, enmL_len xs]
theorem walks_enmL {K : PySem.W.Frag} {W : Wd} (A : Abs K W) {p : Addr} {vs : List V} {xs : List D} (hp : W.H p = some (.lst vs)) (hn : ¬ Live W p) (hk : ¬ W.lk p) (q : Reps K W xs vs) : Walks K (Ite K p) (enmL 0 xs) W := by
  intro W' A' E i
  have h1 := (E.keep p _ hp hn hk).1
  have q' := Reps.extL A E _ _ q
  have hl := reps_len _ _ q'
  refine ⟨fun d hd => ?_, fun hi => ⟨vs, SqL.of h1, by rw [enmL_len] at hi; omega⟩⟩
  obtain ⟨x, hx, rfl⟩ := enmL_get xs 0 i d hd
  obtain ⟨v, h2, h3⟩ := reps_get _ _ i q' x hx
  refine ⟨⟨vs, v, SqL.of h1, h2⟩, fun w H' hy => ?_⟩
  obtain ⟨T, y, rfl, hT, rfl, hy⟩ := hy
  have := hy vs (SqL.of h1)
  rw [h2] at this
  cases this
  obtain ⟨N, r⟩ := new_tup A' hT (ds := [.int ((0 + i : Nat) : Int), x]) (vs := [.int (i : Nat), v]) (by simp only [Reps, Rep, Nat.zero_add]; exact ⟨_, _, rfl, rfl, _, _, rfl, h3, rfl⟩)
  exact ⟨_, rfl, N, r⟩
theorem walks_enmT {K : PySem.W.Frag} {W : Wd} (A : Abs K W) {p : Addr} {vs : List V} {xs : List D} (hp : W.H p = some (.tup vs)) (q : Reps K W xs vs) : Walks K (IteT K p) (enmL 0 xs) W := by
  intro W' A' E i
  have h1 := (E.keep p _ hp (A.nolive hp (fun z => z)) (A.nolk hp (fun _ z => nomatch z))).1
  have q' := Reps.extL A E _ _ q
  have hl := reps_len _ _ q'
  refine ⟨fun d hd => ?_, fun hi => ⟨vs, SqT.of h1, by rw [enmL_len] at hi; omega⟩⟩
  obtain ⟨x, hx, rfl⟩ := enmL_get xs 0 i d hd
  obtain ⟨v, h2, h3⟩ := reps_get _ _ i q' x hx
  refine ⟨⟨vs, v, SqT.of h1, h2⟩, fun w H' hy => ?_⟩
  obtain ⟨T, y, rfl, hT, rfl, hy⟩ := hy
  have := hy vs (SqT.of h1)
  rw [h2] at this
  cases this
  obtain ⟨N, r⟩ := new_tup A' hT (ds := [.int ((0 + i : Nat) : Int), x]) (vs := [.int (i : Nat), v]) (by simp only [Reps, Rep, Nat.zero_add]; exact ⟨_, _, rfl, rfl, _, _, rfl, h3, rfl⟩)
  exact ⟨_, rfl, N, r⟩
section
variable {X : Cx} {a b : Expr} {pos : Pos} {ma mb : Env → M D}
theorem enm_w {K : PySem.W.Frag} {ma : Env → M D} {σ : L2.St} {H : Hp} {R : L2.It → Hp → Prop} (h : tIt K (fun ρ => bnd (ma ρ) fun x => match x with
    | .tup xs => ret (enmL 0 xs)
    | .lst xs => ret (enmL 0 xs)
    | _ => bad) σ H R) : iEnumT K (tAs K fun ρ => bnd (ma ρ) fun x => bnd (ret []) fun xs => ret (x :: xs)) σ H R ∨ iEnum K (tAs K fun ρ => bnd (ma ρ) fun x => bnd (ret []) fun xs => ret (x :: xs)) σ H R := by
  obtain ⟨W, ρ, rfl, A, sl, xs, S', e, k⟩ := h
  obtain ⟨x, S1, e1, e⟩ := bnd_ok e
  cases x with
  | tup ys =>
    obtain ⟨rfl, rfl⟩ := ret_ok (show ret (enmL 0 ys) S1 = _ from e)
    refine .inl ⟨W, ρ, rfl, A, sl, [_], S1, bnd_mk e1 rfl, fun W1 vs N r => ?_⟩
    obtain ⟨v, rfl, r1⟩ := reps1 r
    simp only [Rep] at r1
    obtain ⟨p, vs, rfl, hp, q⟩ := r1
    exact ⟨p, _, rfl, SqT.of hp, k W1 _ N (walks_enmT N.ab hp q)⟩
  | lst ys =>
    obtain ⟨rfl, rfl⟩ := ret_ok (show ret (enmL 0 ys) S1 = _ from e)
    refine .inr ⟨W, ρ, rfl, A, sl, [_], S1, bnd_mk e1 rfl, fun W1 vs N r => ?_⟩
    obtain ⟨v, rfl, r1⟩ := reps1 r
    simp only [Rep] at r1
    obtain ⟨p, vs, rfl, hp, hn, hk, q⟩ := r1
    exact ⟨p, _, rfl, SqL.of hp, k W1 _ N (walks_enmL N.ab hp hn hk q)⟩
  | _ => cases e
theorem i_enm {elts : List Expr} {kk : Nat} {tpos p : Pos} (hg : Gl X "enumerate") (hm : X.mg "enumerate" = none) (ha : PE X a (tI X.K ma)) (hs : starEach [a] X.env = (false, eval a X.env) :: starEach [] X.env) :
    PI X (.Tuple elts kk tpos) (.Call (.Name "enumerate" p) [a] [] pos) (tIt X.K fun ρ => bnd (ma ρ) fun x => match x with
    | .tup xs => ret (enmL 0 xs)
    | .lst xs => ret (enmL 0 xs)
    | _ => bad) := by
  exact (PI_or (pi_enumT hg hm (s_cons ha s_nil hs) hs) (pi_enum hg hm (s_cons ha s_nil hs) hs)).weak fun σ H R => enm_w
theorem zipL_get : ∀ (xs ys : List D) (i : Nat) (d : D), (zipL xs ys)[i]? = some d → ∃ x y, xs[i]? = some x ∧ ys[i]? = some y ∧ d = .tup [x, y]
  | [], ys, i, d, h => by simp [zipL] at h
  | x :: xs, [], i, d, h => by simp [zipL] at h
  | x :: xs, y :: ys, 0, d, h => by
    simp only [zipL, List.getElem?_cons_zero, Option.some.injEq] at h
    exact ⟨x, y, rfl, rfl, h.symm⟩
  | x :: xs, y :: ys, i + 1, d, h => by
    simp only [zipL, List.getElem?_cons_succ] at h
    obtain ⟨a, b, h1, h2, h3⟩ := zipL_get xs ys i d h
    exact ⟨a, b, by simpa using h1, by simpa using h2, h3⟩
theorem zipL_len : ∀ (xs ys : List D), (zipL xs ys).length = min xs.length ys.length
  | [], ys => by simp [zipL]
  | x :: xs, [] => by simp [zipL]
  | x :: xs, y :: ys => by rw [zipL, List.length_cons, zipL_len xs ys, List.length_cons, List.length_cons]; omega
theorem walks_zipL {K : PySem.W.Frag} {W : Wd} (A : Abs K W) {p p2 : Addr} {vs ws : List V} {xs ys : List D} (hp : W.H p = some (.lst vs)) (hn : ¬ Live W p) (hk : ¬ W.lk p) (q : Reps K W xs vs)
    (hp2 : W.H p2 = some (.lst ws)) (hn2 : ¬ Live W p2) (hk2 : ¬ W.lk p2) (q2 : Reps K W ys ws) : Walks K (Itz K p p2) (zipL xs ys) W := by
  intro W' A' E i
  have h1 := (E.keep p _ hp hn hk).1
  have h2 := (E.keep p2 _ hp2 hn2 hk2).1
  have q' := Reps.extL A E _ _ q
  have q2' := Reps.extL A E _ _ q2
  have hl := reps_len _ _ q'
  have hl2 := reps_len _ _ q2'
  refine ⟨fun d hd => ?_, fun hi => ⟨vs, ws, SqL.of h1, SqL.of h2, by rw [zipL_len] at hi; omega⟩⟩
  obtain ⟨x, y, hx, hy, rfl⟩ := zipL_get xs ys i d hd
  obtain ⟨v, g1, g2⟩ := reps_get _ _ i q' x hx
  obtain ⟨w, g3, g4⟩ := reps_get _ _ i q2' y hy
  refine ⟨⟨vs, ws, v, w, SqL.of h1, SqL.of h2, g1, g3⟩, fun u H' hyl => ?_⟩
  obtain ⟨T, y1, y2, rfl, hT, rfl, z1, z2⟩ := hyl
  have z1 := z1 vs (SqL.of h1)
  have z2 := z2 ws (SqL.of h2)
  rw [g1] at z1
  rw [g3] at z2
  cases z1
  cases z2
  obtain ⟨N, r⟩ := new_tup A' hT (ds := [x, y]) (vs := [v, w]) (by simp only [Reps]; exact ⟨_, _, rfl, g2, _, _, rfl, g4, rfl⟩)
  exact ⟨_, rfl, N, r⟩
theorem walks_zipT {K : PySem.W.Frag} {W : Wd} (A : Abs K W) {p p2 : Addr} {vs ws : List V} {xs ys : List D} (hp : W.H p = some (.tup vs)) (q : Reps K W xs vs)
    (hp2 : W.H p2 = some (.tup ws)) (q2 : Reps K W ys ws) : Walks K (RZ.ItzT K p p2) (zipL xs ys) W := by
  intro W' A' E i
  have h1 := (E.keep p _ hp (A.nolive hp (fun z => z)) (A.nolk hp (fun _ z => nomatch z))).1
  have h2 := (E.keep p2 _ hp2 (A.nolive hp2 (fun z => z)) (A.nolk hp2 (fun _ z => nomatch z))).1
  have q' := Reps.extL A E _ _ q
  have q2' := Reps.extL A E _ _ q2
  have hl := reps_len _ _ q'
  have hl2 := reps_len _ _ q2'
  refine ⟨fun d hd => ?_, fun hi => ⟨vs, ws, SqT.of h1, SqT.of h2, by rw [zipL_len] at hi; omega⟩⟩
  obtain ⟨x, y, hx, hy, rfl⟩ := zipL_get xs ys i d hd
  obtain ⟨v, g1, g2⟩ := reps_get _ _ i q' x hx
  obtain ⟨w, g3, g4⟩ := reps_get _ _ i q2' y hy
  refine ⟨⟨vs, ws, v, w, SqT.of h1, SqT.of h2, g1, g3⟩, fun u H' hyl => ?_⟩
  obtain ⟨T, y1, y2, rfl, hT, rfl, z1, z2⟩ := hyl
  have z1 := z1 vs (SqT.of h1)
  have z2 := z2 ws (SqT.of h2)
  rw [g1] at z1
  rw [g3] at z2
  cases z1
  cases z2
  obtain ⟨N, r⟩ := new_tup A' hT (ds := [x, y]) (vs := [v, w]) (by simp only [Reps]; exact ⟨_, _, rfl, g2, _, _, rfl, g4, rfl⟩)
  exact ⟨_, rfl, N, r⟩
theorem i_zip {elts : List Expr} {kk : Nat} {tpos p : Pos} (hg : Gl X "zip") (hm : X.mg "zip" = none) (ha : PE X a (tI X.K ma)) (hb : PE X b (tI X.K mb)) (hs : starEach [a, b] X.env = (false, eval a X.env) :: starEach [b] X.env) (hs2 : starEach [b] X.env = (false, eval b X.env) :: starEach [] X.env) :
    PI X (.Tuple elts kk tpos) (.Call (.Name "zip" p) [a, b] [] pos) (tIt X.K fun ρ => bnd (ma ρ) fun x => bnd (mb ρ) fun y => zipD x y) := by
  refine (RZ.pi_zipA hg hm (s_cons ha (s_cons hb s_nil hs2) hs) hs (by rw [hs2]; rfl)).weak ?_
  rintro σ H R ⟨W, ρ, rfl, A, sl, xs, S', e, k⟩
  obtain ⟨x, S1, e1, e10⟩ := bnd_ok e
  obtain ⟨y, S2, e2, e20⟩ := bnd_ok e10
  refine ⟨W, ρ, rfl, A, sl, [x, y], S2, bnd_mk e1 (bnd_mk (bnd_mk e2 rfl) rfl), fun W1 vs N r => ?_⟩
  obtain ⟨v, w, rfl, r1, r2⟩ := reps2 r
  unfold zipD at e20
  split at e20
  · obtain ⟨rfl, rfl⟩ := ret_ok e20
    simp only [Rep] at r1 r2
    obtain ⟨p, vs, rfl, hp, hn, hk, q⟩ := r1
    obtain ⟨p2, ws, rfl, hp2, hn2, hk2, q2⟩ := r2
    exact ⟨p, p2, _, _, rfl, .inl ⟨SqL.of hp, SqL.of hp2, k W1 _ N (walks_zipL N.ab hp hn hk q hp2 hn2 hk2 q2)⟩⟩
  · obtain ⟨rfl, rfl⟩ := ret_ok e20
    simp only [Rep] at r1 r2
    obtain ⟨p, vs, rfl, hp, q⟩ := r1
    obtain ⟨p2, ws, rfl, hp2, q2⟩ := r2
    exact ⟨p, p2, _, _, rfl, .inr ⟨SqT.of hp, SqT.of hp2, k W1 _ N (walks_zipT N.ab hp q hp2 q2)⟩⟩
  · cases e20
theorem walks_rev {K : PySem.W.Frag} {W : Wd} (A : Abs K W) {p : Addr} {vs : List V} {xs : List D} (hp : W.H p = some (.lst vs)) (hn : ¬ Live W p) (hk : ¬ W.lk p) (q : Reps K W xs vs) : Walks K (Itv K p vs.length) xs.reverse W := by
  intro W' A' E i
  have h1 := (E.keep p _ hp hn hk).1
  have q' := Reps.extL A E _ _ q
  have hl := reps_len _ _ q'
  refine ⟨fun d hd => ?_, fun hi => by show vs.length ≤ i; rw [List.length_reverse] at hi; omega⟩
  have hi : i < xs.length := by
    have := (List.getElem?_eq_some_iff.mp hd).1
    simpa using this
  rw [List.getElem?_reverse hi] at hd
  obtain ⟨v, h2, h3⟩ := reps_get _ _ _ q' d hd
  have e : xs.length - 1 - i = vs.length - 1 - i := by omega
  rw [e] at h2
  refine ⟨⟨by omega, vs, v, SqL.of h1, h2⟩, fun w H' hy => ?_⟩
  obtain ⟨rfl, hy⟩ := hy
  have := hy vs (SqL.of h1)
  rw [h2] at this
  cases this
  exact ⟨W', rfl, Nxt.refl A', h3⟩
theorem i_revl {tg : Expr} {p : Pos} (hg : Gl X "reversed") (hm : X.mg "reversed" = none) (ha : PE X a (tI X.K ma)) (hs : starEach [a] X.env = (false, eval a X.env) :: starEach [] X.env) :
    PI X tg (.Call (.Name "reversed" p) [a] [] pos) (tIt X.K fun ρ => bnd (ma ρ) fun x => match x with
    | .lst xs => ret xs.reverse
    | _ => bad) := by
  refine (pi_reversed hg hm (s_cons ha s_nil hs) hs).weak ?_
  rintro σ H R ⟨W, ρ, rfl, A, sl, xs, S', e, k⟩
  obtain ⟨x, S1, e1, e10⟩ := bnd_ok e
  refine ⟨W, ρ, rfl, A, sl, [x], S1, bnd_mk e1 rfl, fun W1 vs N r => ?_⟩
  obtain ⟨v, rfl, r1⟩ := reps1 r
  cases x with
  | lst ys =>
    obtain ⟨rfl, rfl⟩ := ret_ok (show ret ys.reverse S1 = _ from e10)
    simp only [Rep] at r1
    obtain ⟨p, vs, rfl, hp, hn, hk, q⟩ := r1
    exact ⟨p, vs, rfl, SqL.of hp, k W1 _ N (walks_rev N.ab hp hn hk q)⟩
  | _ => cases e10
end
end AG
namespace AG
open PySem PySem.Spec PyProof.Rows L2
/-! ### l.count(x) -/
section
variable {X : Cx}
def rCountD (K : PySem.W.Frag) : V → List V → Hp → VK → Prop := fun x xs H Q => ∃ (a : Addr) (y : V) (d : PyData) (ds : List PyData), x = V.ref a ∧ xs = [y] ∧ Dp K H (V.ref a) (.list ds) ∧ Dp K H y d ∧
  SeqAt.shaped (.list ds) = true ∧ SeqAt.shaped d = true ∧ Q (.int ((ds.countP fun z => PyData.eqv z d : Nat) : Int)) H
theorem mt_countD (hu : X.A.units + 65 < cLine) : MtR X "list.count" (rCountD X.K) := by
  intro pins s σ H x xs v us Q I rx rxs h
  obtain ⟨a, y, d, ds, rfl, rfl, hl, hy, sl, sd, q⟩ := h
  cases rx
  cases rxs with
  | cons ry rt =>
    rename_i uy ut
    cases rt
    obtain ⟨bs, r1⟩ := Dp.reads I d y uy hy ry
    have hxs : PyData.canLayAll0 ds = true := SeqAt.canLay_of_shaped sl
    have hroom : X.A.units + 1 + min (PyData.depthAll ds) d.depth < cLine := room_in_shaped sd hu
    cases hl with
    | lst hs ha =>
      obtain ⟨its, rv, p, hlen⟩ := I.list hs
      obtain ⟨as, h4⟩ := Dp.readsAll I ds _ its ha rv
      refine SeqAt.count_list_data (vs := its.toArray) p.isList (show ReadsAll s.heap its.toArray.toList ds as from h4) r1 (PyData.plainAll_of_canLay0 ds hxs) (PyData.plain_of_canLay0 d (SeqAt.canLay_of_shaped sd)) hroom ?_
      exact ⟨.int _, H, I.tok _, ⟨_, rfl⟩, q⟩
end
section
variable {X : Cx} {a b c e : Expr} {ta : TE} {pos : Pos} {ma mb mc : Env → M D}
theorem k_cnt {K : PySem.W.Frag} {W : Wd} (A : Abs K W) {x y d : D} {v w : V} {S' : Sto} {Q : VK} (r : Rep K W x v) (r3 : Rep K W y w) (e : cntD x y W.S = .ok d S') (k : ∀ W' u, Nxt K W S' W' → Rep K W' d u → Q u W'.H) : rCountD K v [w] W.H Q := by
  unfold cntD at e
  split at e
  · rename_i c
    obtain ⟨xs, S4, e4, e⟩ := bnd_ok e
    obtain ⟨rfl, hk, p, us, rfl, h1, h2, q⟩ := getC_ok A r e4
    cases h3 : toPy y with
    | none => rw [h3] at e; cases e
    | some z =>
      cases h4 : toPys xs with
      | none => rw [h3, h4] at e; cases e
      | some ps =>
        rw [h3, h4] at e
        obtain ⟨c1, e⟩ := need_ok e
        obtain ⟨c1, c2⟩ := and2 c1
        obtain ⟨rfl, rfl⟩ := ret_ok e
        exact ⟨p, w, z, ps, rfl, rfl, .lst (SqL.of h2) (reps_dp xs us ps q h4), rep_dp.1 _ _ _ r3 h3, c2, c1, k W _ (Nxt.refl A) (int_rep _)⟩
  · cases e
theorem s_cnt {o i : Expr} {mo mi : Env → M D} {apos cpos : Pos} (hu : X.A.units + 65 < cLine) (ho : PE X o (tI X.K mo)) (hi : PE X i (tI X.K mi)) (hbase : attributeBase o "count" X.env (eval o X.env) = eval o X.env) (hline : (apos.endLine == cpos.line) = true)
    (hs : starEach [i] X.env = (false, eval i X.env) :: starEach [] X.env) : PE X (.Call (.Attribute o "count" apos) [i] [] cpos) (tI X.K fun ρ => bnd (mo ρ) fun x => bnd (isC x) fun _ => bnd (mi ρ) fun y => cntD x y) := by
  refine (pe_bm PySem.F.plainAttrs_list PySem.F.slot_list_count PySem.F.type_list_count (mt_countD hu) ho (s_cons hi s_nil hs) hbase (by rw [hs]; rfl) hline hs rfl).weak ?_
  rintro σ H Q ⟨W, ρ, rfl, A, sl, d, S', e, k⟩
  obtain ⟨x, S1, e1, e⟩ := bnd_ok e
  obtain ⟨_, S2, e2, e⟩ := bnd_ok e
  obtain ⟨y, S3, e3, e⟩ := bnd_ok e
  refine ⟨W, ρ, rfl, A, sl, x, S1, e1, fun W1 v N r => ?_⟩
  rw [← N.st] at e2
  obtain ⟨h, ty⟩ := isC_ok N.ab r e2
  rw [h] at e3
  refine ⟨ty, W1, ρ, rfl, N.ab, sl.ext A N.ext, [y], S3, bnd_mk e3 rfl, fun W2 vs N2 r2 => ?_⟩
  obtain ⟨w, rfl, r3⟩ := reps1 r2
  exact k_cnt N2.ab (Rep.ext N.ab N2.ext _ _ r) r3 (by rw [N2.st]; exact e) fun W3 u N3 r4 => k W3 u ⟨N3.st, N3.lk.trans (N2.lk.trans N.lk), N3.ab, (N.ext.trans N2.ext).trans N3.ext⟩ r4
/-- what is never reached -/
theorem s_opq {m : Env → M D} (hm : ∀ ρ, m ρ = bad) : PE X e (tI X.K m) := ⟨fun pins s σ H Q I ⟨W, ρ, _, _, _, k, S', e, _⟩ => by rw [hm] at e; cases e⟩
end
end AG
namespace AG
open PySem PySem.Spec PyProof.Rows L2
/-! ### how many unlike ints -/
theorem disL_snoc (ns : List Int) (k : Int) : disL (ns ++ [k]) = if k ∈ disL ns then disL ns else disL ns ++ [k] := by
  unfold disL
  rw [List.foldl_append]
  show step_dedup (ns.foldl step_dedup []) k = _
  unfold step_dedup
  congr 1
  rw [eq_iff_iff, List.any_eq_true]
  constructor
  · rintro ⟨x, hx, e⟩
    rw [← eq_of_beq e]
    exact hx
  · exact fun h => ⟨k, h, BEq.rfl⟩
theorem disL_facts (ns : List Int) : (disL ns).Nodup ∧ ∀ k, k ∈ disL ns ↔ k ∈ ns := by
  have key : ∀ n, (disL (ns.take n)).Nodup ∧ ∀ k, k ∈ disL (ns.take n) ↔ k ∈ ns.take n := by
    intro n
    induction n with
    | zero => exact ⟨List.nodup_nil, fun k => Iff.rfl⟩
    | succ n ih =>
      rw [List.take_add_one]
      cases hn : ns[n]? with
      | none => simpa using ih
      | some z =>
        show (disL (ns.take n ++ [z])).Nodup ∧ ∀ k, k ∈ disL (ns.take n ++ [z]) ↔ k ∈ ns.take n ++ [z]
        rw [disL_snoc]
        obtain ⟨i1, i2⟩ := ih
        by_cases hz : z ∈ disL (ns.take n)
        · rw [if_pos hz]
          refine ⟨i1, fun k => ?_⟩
          rw [i2 k, List.mem_append, List.mem_singleton]
          exact ⟨.inl, fun h => h.elim id fun e => by rw [e]; exact (i2 z).mp hz⟩
        · rw [if_neg hz]
          refine ⟨?_, fun k => ?_⟩
          · rw [List.nodup_append]
            refine ⟨i1, by simp, fun a ha b hb e => ?_⟩
            rw [List.mem_singleton.mp hb] at e
            exact hz (e ▸ ha)
          · rw [List.mem_append, List.mem_append, i2 k]
  have := key ns.length
  rwa [List.take_length] at this
theorem dis_met (ns : List Int) : firstMet (fun i => ns.getD i 0) ns.length = disL ns := by
  unfold firstMet disL
  congr 1
  refine List.ext_getElem (by simp) fun i h1 h2 => ?_
  rw [List.getElem_map, List.getElem_range, List.getD_eq_getElem?_getD, List.getElem?_eq_getElem h2]
  rfl
theorem intsOf_okS {K : PySem.W.Frag} {W : Wd} : ∀ (xs : List D) (ns : List Int) (vs : List V), intsOf xs = some ns → Reps K W xs vs → vs = ns.map V.int
  | [], ns, vs, e, r => by simp only [intsOf, Option.some.injEq] at e; simp only [Reps] at r; subst e r; rfl
  | x :: xs, ns, vs, e, r => by
    cases x with
    | int i =>
      simp only [intsOf] at e
      cases q : intsOf xs with
      | none => rw [q] at e; cases e
      | some l =>
        rw [q] at e
        cases e
        simp only [Reps, Rep] at r
        obtain ⟨_, us, rfl, rfl, r2⟩ := r
        rw [intsOf_okS xs l us q r2]
        rfl
    | _ => simp only [intsOf] at e; cases e
section
variable {X : Cx}
def tLenS (K : PySem.W.Frag) (ta : TE) : TE := fun σ H Q => ta σ H fun x H1 => ∃ (l : Addr) (ns : List Int), x = .ref l ∧ (SqL K H1 l (ns.map V.int) ∨ SqT K H1 l (ns.map V.int)) ∧ ns.length ≤ 1000 ∧ Q (.int ((disL ns).length : Nat)) H1
theorem pe_lenS {b : Expr} {tb : TE} {p p2 q pos : Pos} (hc : X.calm = true) (l1 : Gl X "len") (l2 : X.mg "len" = none) (s1 : Gl X "set") (s2 : X.mg "set" = none) (hb : PE X b tb)
    (nb : starEach [b] X.env = (false, eval b X.env) :: starEach [] X.env) : PE X (.Call (.Name "len" p) [.Call (.Name "set" p2) [b] [] q] [] pos) (tLenS X.K tb) := by
  refine ⟨fun pins s σ H Q J h => Call_ (ld_blt J l1 l2 boot_len (callWith_builtin1 (args_cons ?_ rfl) rfl rfl))⟩
  refine Call_ (ld_blt J s1 s2 boot_set (callWith_type1 (args_cons (thn (hb.run pins s σ H _ J h) fun v sa ⟨x, Ha, Ja, ra, qa⟩ => args_nil ?_) nb) nb rfl))
  obtain ⟨l, ns, ex, hs, hl, qa⟩ := qa
  subst ex
  obtain rfl : v = Value.ref l := ra
  have hd := Ja.ok.hd hc
  rcases hs with hs | hs
  · obtain ⟨its, rv, pl, hz⟩ := Ja.list hs
    have hlen : its.toArray.size = ns.length := by rw [List.size_toArray, ← rv.length, List.length_map]
    refine call_set_list hd pl.isList (ns := ns) (ints_of_vals rv) (by rw [hlen]; unfold scanBound; omega) fun h' tk hS hk => args_nil ?_
    rw [hlen, dis_met] at hS
    obtain ⟨o, es, ep, t, ho, hex, hdt, _, _, _, hf, hn⟩ := hS
    have Jb : Inv X pins σ Ha { sa with heap := h', toks := tk } := Ja.kept fun b o e => hk b o (Heap.lt_size e) e
    have hle : es.size ≤ 1000 := by
      rw [hn]
      have := firstMet_length_le (fun i => ns.getD i 0) ns.length
      rw [dis_met] at this
      omega
    exact call_len_set ho hex hdt hf (by omega) ⟨.int (disL ns).length, Ha, Jb.tok _, ⟨_, by rw [hn]⟩, qa⟩
  · obtain ⟨its, rv, pt, hz⟩ := Ja.tuple hs
    refine call_set_tupI ns hd (show sa.heap.IsTuple l its.toArray from pt) (ints_of_vals rv) (by unfold scanBound; omega) fun h' tk c R1 hcn k => args_nil ?_
    obtain ⟨o, es, ep, t, ho, hex, hdt, g, nd, hm2, hb2, hf, hn, hr, hl2⟩ := R1
    obtain ⟨d1, d2⟩ := disL_facts ns
    have hp : (es.toList.map keyOf).Perm (disL ns) := (List.perm_ext_iff_of_nodup nd d1).mpr fun a => by rw [d2 a, ← hm2 a, decide_eq_true_eq]
    have hsz : es.size = (disL ns).length := by
      have := hp.length_eq
      rw [List.length_map, Array.length_toList] at this
      exact this
    have Jb : Inv X pins σ Ha { sa with heap := h', toks := tk } := Ja.kept fun b o e => k b o e
    exact call_len_set ho hex hdt hf (by omega) ⟨.int (disL ns).length, Ha, Jb.tok _, ⟨_, by rw [hsz]⟩, qa⟩
theorem lsetL_ok {K : PySem.W.Frag} {W : Wd} {xs : List D} {us : List V} {S S' : Sto} {d : D} (r : Reps K W xs us) (e : lsetL xs S = .ok d S') : S' = S ∧ ∃ ns : List Int, us = ns.map V.int ∧ ns.length ≤ 1000 ∧ d = .int ((disL ns).length : Nat) := by
  unfold lsetL at e
  cases hn : intsOf xs with
  | none => rw [hn] at e; cases e
  | some ns =>
    rw [hn] at e
    obtain ⟨h1, e⟩ := need_ok e
    obtain ⟨rfl, rfl⟩ := ret_ok e
    exact ⟨rfl, ns, intsOf_okS xs ns us hn r, of_decide_eq_true h1, rfl⟩
theorem s_lset {a : Expr} {ma : Env → M D} {p p2 q pos : Pos} (hc : X.calm = true) (l1 : Gl X "len") (l2 : X.mg "len" = none) (s1 : Gl X "set") (s2 : X.mg "set" = none) (ha : PE X a (tI X.K ma))
    (nb : starEach [a] X.env = (false, eval a X.env) :: starEach [] X.env) : PE X (.Call (.Name "len" p) [.Call (.Name "set" p2) [a] [] q] [] pos) (tI X.K fun ρ => bnd (ma ρ) lsetD) := by
  refine (pe_lenS hc l1 l2 s1 s2 ha nb).weak ?_
  rintro σ H Q ⟨W, ρ, rfl, A, sl, d, S', e, k⟩
  obtain ⟨x, S1, e1, e⟩ := bnd_ok e
  refine ⟨W, ρ, rfl, A, sl, x, S1, e1, fun W1 v N r => ?_⟩
  cases x with
  | tup xs =>
    simp only [Rep] at r
    obtain ⟨a, vs, rfl, h1, h2⟩ := r
    obtain ⟨rfl, ns', q3, q4, q5⟩ := lsetL_ok h2 (show lsetL xs S1 = _ from e)
    subst q3
    exact ⟨a, ns', rfl, .inr (SqT.of h1), q4, k W1 _ N (by rw [q5]; simp only [Rep])⟩
  | lst xs =>
    simp only [Rep] at r
    obtain ⟨a, vs, rfl, h1, n1, n2, h2⟩ := r
    obtain ⟨rfl, ns', q3, q4, q5⟩ := lsetL_ok h2 (show lsetL xs S1 = _ from e)
    subst q3
    exact ⟨a, ns', rfl, .inl (SqL.of h1), q4, k W1 _ N (by rw [q5]; simp only [Rep])⟩
  | ref c =>
    obtain ⟨xs, S2, e2, e⟩ := bnd_ok (show bnd (getC c) lsetL S1 = _ from e)
    rw [← N.st] at e2
    obtain ⟨rfl, h, p0, us, rfl, h1, h2, q⟩ := getC_ok N.ab r e2
    obtain ⟨rfl, ns', q3, q4, q5⟩ := lsetL_ok q e
    subst q3
    exact ⟨p0, ns', rfl, .inl (SqL.of h2), q4, k W1 _ ⟨rfl, N.lk, N.ab, N.ext⟩ (by rw [q5]; simp only [Rep])⟩
  | _ => cases e
end
end AG
namespace AG
open PySem PySem.Spec PyProof.Rows L2 PpSet
/-! ### a set of ints, made by a comprehension -/
theorem none_in : (fun j : Int => decide (j ∈ (([] : List Int).take 0))) = fun _ => false := by funext j; simp
section
variable {X : Cx}
/-- one int more in the set at D -/
theorem addI_ok {pins : List (Addr × Obj)} {σ : L2.St} {H : Hp} {s : Shared} {E : Value → Shared → Prop} {D : Addr} {T : Int → Bool} {n : Nat} {y : Int} {tk : Tok} {Q : Value → Shared → Prop}
    (J : Inv X pins σ H s) (hD : H D = some (SetO X.w D T n)) (room : n + 1 < scanBound)
    (h : ∀ s', Inv X pins σ (upd H D (SetO X.w D (fun j => T j || decide (j = y)) (if T y = true then n else n + 1))) s' → Q .none s') :
    wpAny (model X.prog X.w) X.A (call (.builtin "set.add") [.ref D, .int y tk]) Q E s := by
  refine setR_add (setO_get J hD) room fun h' sb R2 => h _ ?_
  have some_D : ∃ u, h'.get? D = some u := let ⟨o, _, _, _, ho, _⟩ := R2; ⟨o, ho⟩
  exact J.write (e := D) (t' := s.toks + 1) (by rw [hD]; trivial) (.inl rfl) (fun b u hb hu => (sb.2 b hb).trans hu) some_D (setO_new R2)
/-- the set as the store has it -/
theorem seal_ok {pins : List (Addr × Obj)} {σ : L2.St} {H : Hp} {s : Shared} {D : Addr} {T : Int → Bool} {n : Nat} (J : Inv X pins σ H s) (hD : H D = some (SetO X.w D T n)) : Inv X pins σ (upd H D (.set T n)) s := by
  have R := setO_get J hD
  have some_D : ∃ u, s.heap.get? D = some u := let ⟨o, _, _, _, ho, _⟩ := R; ⟨o, ho⟩
  exact J.write (h' := s.heap) (t' := s.toks) (e := D) (o := .set T n) (by rw [hD]; trivial) (.inl rfl) (fun b u _ hu => hu) some_D R.setOf
def tSi (w : World) (wi : TI) (g : TG) (te : TE) (vs : List Nat) : TE := fun σ H Q => wi σ H fun J H1 => ∀ D, H1 D = none → ∃ W : Nat → Nat → Hp → Prop, (∃ m, W 0 m (upd H1 D (SetO w D (fun _ => false) 0))) ∧ ∀ i m H, W i m H →
  (J.stop i H ∧ ∃ (T : Int → Bool) (n : Nat), H D = some (SetO w D T n) ∧ Q (.ref D) (upd H D (.set T n))) ∨ (J.go i H ∧ ∃ Nx : Hp → Prop, (∀ H', Nx H' → ∃ m', m' < m ∧ W (i + 1) m' H') ∧ ∀ x H', J.yld i H x H' → g x (wipe σ vs) H' fun σ2 H2 => wipe σ2 vs = wipe σ vs ∧
    te σ2 H2 fun y H4 => ∃ (c : Int) (T : Int → Bool) (n : Nat), y = .int c ∧ H4 D = some (SetO w D T n) ∧ n + 1 < scanBound ∧ Nx (upd H4 D (SetO w D (fun j => T j || decide (j = c)) (if T c = true then n else n + 1))))
theorem si_core {pins : List (Addr × Obj)} {s : Shared} {σ : L2.St} {H : Hp} {Q : VK} {elt tg iter : Expr} {scope : Scope} {own : List (PySem.Str × Nat)} {pos pos' : Pos} {wi : TI} {g : TG} {te : TE} {use : Option (Value → Sem Unit)} {Qf : Value → Shared → Prop}
    (calm : X.calm = true) (nd : X.N.Nodup) (J : Inv X pins σ H s) (hi : PI X tg iter wi) (bk : BlkOk X.N X.env.scope scope own)
    (hg : ∀ (s : Shared) (H : Hp) (C : Addr) (cl : List (PySem.Str × Addr)) (fp : List Addr), PG (X.blk s H scope (compEnvC scope cl C X.env) fp) tg g)
    (he : ∀ (s : Shared) (H : Hp) (C : Addr) (cl : List (PySem.Str × Addr)) (fp : List Addr), PE (X.blk s H scope (compEnvC scope cl C X.env) fp) elt te)
    (fo : ∀ x, foldedSetIterable iter X.env x = pure x) (h : tSi X.w wi g te (own.map (·.2)) σ H Q)
    (back : ∀ D C s' m H', Inv X pins σ H' s' → Q (.ref D) H' → s'.heap.Ns C m → FpOk X pins H' C → compPost (model X.prog X.w) X.A X.xe use Qf (.ref D) C (.ok .next) s') :
    wpAny (model X.prog X.w) X.A (comprehension (.SetComp elt [⟨tg, iter, [], 0⟩] scope pos) scope X.env pos' (newSet (.type "set")) false (eval iter X.env) use) Qf X.xe s := by
  have frees : ∀ y ∈ scope.names, y.2 = .free → ∃ c, X.env.cells.lookup y.1 = some c := fun y hy e => (bk.free y hy e).elim (fun k => J.ok.has _ (.inl k)) fun k => J.ok.has _ (.inr k)
  refine wpAny_comprehension_free (use := use) rfl fo (closure_ok frees) bk.kind (fun y hy e => by rw [bk.uniq y hy, e]) (thn (hi.run pins s σ H _ J h) fun xv s1 hx => thn hx fun itv s2 hit => ?_)
  obtain ⟨it, fp, tn, It, H2, rfl, J2, T, st2, f2, q⟩ := hit
  refine newSet_ok (newEnv_comp ?_)
  obtain ⟨D, hD⟩ : ∃ D, s2.heap.objs.size = D := ⟨_, rfl⟩
  rw [hD]
  obtain ⟨W, ⟨m0, w0⟩, turn⟩ := q D (J2.hok.fresh (Nat.le_of_eq hD))
  generalize eq3 : ({ s2 with heap := s2.heap.push { cls := .type "set", dict := none, data := .set #[] 0 (.fresh 0 0 (!X.w.params.followText "set-order")) } } : Shared) = s3
  have heap3 : s3.heap = s2.heap.push { cls := .type "set", dict := none, data := .set #[] 0 (.fresh 0 0 (!X.w.params.followText "set-order")) } := by rw [← eq3]
  obtain ⟨H3, hH3⟩ : ∃ H3, upd H2 D (SetO X.w D (fun _ => false) 0) = H3 := ⟨_, rfl⟩
  have J3 : Inv X pins σ H3 s3 := by
    rw [← eq3, ← hH3]
    refine J2.laid (t' := s2.toks) (fun b o e => Heap.get?_push_of_some _ e) (Nat.le_of_eq hD) (setO_new ?_)
    have fresh := setR_new_at (w := X.w) (ns := []) (Heap.get?_push_size s2.heap (o := { cls := .type "set", dict := none, data := .set #[] 0 (.fresh 0 0 (!X.w.params.followText "set-order")) }) rfl)
    rw [none_in, hD] at fresh
    exact fresh
  rw [hH3] at w0
  have less : ∀ b ∈ fp, b < s2.heap.objs.size := fun b hb => let ⟨o, e, _⟩ := T.obj _ _ st2 b hb; Heap.lt_size e
  have f3 : ∀ b ∈ fp, FpOk X pins H3 b ∧ b < s3.heap.objs.size := fun b hb => by
    have hlt := less b hb
    refine ⟨⟨?_, (f2 b hb).2⟩, by rw [heap3, Heap.size_push]; exact Nat.lt_succ_of_lt hlt⟩
    rw [← hH3, upd_ne (by rw [← hD]; exact Nat.ne_of_lt hlt)]
    exact (f2 b hb).1
  have st3 : tn 0 s3.heap := T.keep _ _ _ st2 fun b _ o e => by rw [heap3]; exact Heap.get?_push_of_some _ e
  have J4 := block_start J3 bk nd f3
  have pg := hg s3 H3 s3.heap.objs.size (cellsFrom (s3.heap.objs.size + 1) scope.names (cloFrom X.env.cells scope.names [])) fp
  have pe := he s3 H3 s3.heap.objs.size (cellsFrom (s3.heap.objs.size + 1) scope.names (cloFrom X.env.cells scope.names [])) fp
  show codeAny _ _ (.compStart (.SetComp elt [⟨tg, iter, [], 0⟩] scope pos) 0 (.ref it) (.ref D) (compEnvC scope (cellsFrom (s3.heap.objs.size + 1) scope.names (cloFrom X.env.cells scope.names [])) s3.heap.objs.size X.env)) (compPost (model X.prog X.w) X.A X.xe use Qf (.ref D) s3.heap.objs.size) { s3 with heap := pushCells (s3.heap.push { cls := .type "dict", data := .dict #[] }) scope.names }
  generalize eqc : compEnvC scope (cellsFrom (s3.heap.objs.size + 1) scope.names (cloFrom X.env.cells scope.names [])) s3.heap.objs.size X.env = ce at J4 pg pe ⊢
  have locals_ce : ce.locals = s3.heap.objs.size := by rw [← eqc]; rfl
  generalize eq4 : ({ s3 with heap := pushCells (s3.heap.push { cls := .type "dict", data := .dict #[] }) scope.names } : Shared) = s4 at J4 ⊢
  have none_fp : ∀ b ∈ fp, H3 b = none := fun b hb => (f3 b hb).1.1
  have st4 : tn 0 s4.heap := T.keep _ _ _ st3 fun b _ o e => by rw [← eq4]; exact pushCells_keeps _ _ _ _ (Heap.get?_push_of_some _ e)
  have stay : ∀ {σ' : L2.St} {H' : Hp} {s' : Shared}, Inv (X.blk s3 H3 scope ce fp) [] σ' H' s' → (∀ b ∈ fp, H' b = none) → ∀ b ∈ fp, FpOk (X.blk s3 H3 scope ce fp) [] H' b := fun {σ' H' s'} J' hn b hb =>
    ⟨hn b hb, (J'.ok.exf b hb).1, J'.ok.exfs b hb, .inl hb, fun x c e => (J'.ok.exf b hb).2 x c e, fun p hp => absurd (show p ∈ ([] : List (Addr × Obj)) ++ [] from hp) (by simp)⟩
  have loop : codeAny (model X.prog X.w) X.A (.compLoop (.SetComp elt [⟨tg, iter, [], 0⟩] scope pos) 0 (.ref it) (.ref D) ce) (compPost (model X.prog X.w) X.A X.xe use Qf (.ref D) s3.heap.objs.size) s4 := by
    refine compLoopS_any (fun n s' => ∃ i H', Inv (X.blk s3 H3 scope ce fp) [] (wipe σ (own.map (·.2))) H' s' ∧ tn i s'.heap ∧ (∀ b ∈ fp, H' b = none) ∧ W i n H') ?_ m0 ⟨0, H3, J4, st4, none_fp, w0⟩
    rintro n s5 ⟨i, H5, J5, st5, n5, w5⟩
    rcases turn i n H5 w5 with ⟨stop, T9, n9, hD9, qq⟩ | ⟨go, Nx, hNx, step⟩
    · refine thnF (T.done (X.blk s3 H3 scope ce fp) rfl rfl rfl calm i [] s5 _ H5 (fun _ _ => False) J5 (stay J5 n5) st5 stop) fun r s6 ⟨hr, J6⟩ => ?_
      subst hr
      have J7 : Inv X pins σ H5 s6 := J3.call' (ch := fp) J6.os J6.base J6.hok J6.bare fun b hb => ⟨(f3 b hb).1.2.2.2.1, (f3 b hb).1.2.1, (f3 b hb).1.2.2.2.2.1, (f3 b hb).1.2.2.2.2.2⟩
      have nC : H5 s3.heap.objs.size = none := by
        have z : H5 ce.locals = none := J6.free
        rwa [locals_ce] at z
      obtain ⟨m, hn, _⟩ := J6.loc
      have hn : s6.heap.Ns ce.locals m := hn
      rw [locals_ce] at hn
      have fp3 := J3.fpOk (Nat.le_refl _) nC
      have nCD : s3.heap.objs.size ≠ D := fun z => by rw [z, hD9] at nC; cases nC
      exact back D s3.heap.objs.size s6 m _ (seal_ok J7 hD9) qq hn ⟨by rw [upd_ne nCD]; exact fp3.1, fp3.2⟩
    · refine thnF (T.item (X.blk s3 H3 scope ce fp) rfl rfl rfl calm i [] s5 _ H5 (fun _ _ => False) J5 (stay J5 n5) st5 go) fun r s6 ⟨u, hr, h6⟩ => ?_
      subst hr
      refine thnF h6 fun _ s7 ⟨x, H7, J7, r7, y7, st7, n7⟩ => ?_
      refine thnF (pg.run _ s7 _ H7 x u _ (J7.pinned (stay J7 n7) (T.obj _ _ st7)) r7 (step x H7 y7)) fun _ s8 ⟨σ8, H8, J8, hw8, q8⟩ => ?_
      show wpAny _ _ (pure true) _ _ _
      refine wpAny_pure ?_
      simp only [if_true]
      refine thnF (pe.run _ s8 σ8 H8 _ J8 q8) fun z s10 ⟨yv, H10, J10, r10, cb, T0, n0, ey, hD10, hz10, nx⟩ => ?_
      subst ey
      obtain ⟨tk, rfl⟩ : ∃ tk, z = Value.int cb tk := r10
      refine addI_ok (X := X.blk s3 H3 scope ce fp) J10 hD10 hz10 fun s11 J11 => ?_
      obtain ⟨m', hm, w'⟩ := hNx _ nx
      have pin' : ∀ b ∈ fp, ∀ o, s7.heap.get? b = some o → s11.heap.get? b = some o ∧ _ = none := fun b hb o e =>
        let z := J11.pin (b, o) (List.mem_append_right _ (List.mem_append_right _ (mem_pinsAt hb e)))
        ⟨z.1, z.2.1⟩
      have hl : (wipe σ (own.map (·.2))).length = σ8.length := by rw [← hw8, wipe_length]
      refine ⟨m', hm, i + 1, _, (J11.unpinned (pins := [])).weak hl (fun j v e => ?_), T.keep _ _ _ st7 fun b hb o e => (pin' b hb o e).1, fun b hb => ?_, w'⟩
      · rw [← hw8] at e
        exact (wipe_some e).1
      · obtain ⟨o, e, _⟩ := T.obj _ _ st7 b hb
        exact (pin' b hb o e).2
  exact codeAny_compStart_set loop (T.self X.A 0 _ _ _ st4 loop)
/-- as a value -/
theorem pe_si {elt tg iter : Expr} {scope : Scope} {own : List (PySem.Str × Nat)} {pos : Pos} {wi : TI} {g : TG} {te : TE} (calm : X.calm = true) (nd : X.N.Nodup) (hi : PI X tg iter wi) (bk : BlkOk X.N X.env.scope scope own)
    (hg : ∀ (s : Shared) (H : Hp) (C : Addr) (cl : List (PySem.Str × Addr)) (fp : List Addr), PG (X.blk s H scope (compEnvC scope cl C X.env) fp) tg g)
    (he : ∀ (s : Shared) (H : Hp) (C : Addr) (cl : List (PySem.Str × Addr)) (fp : List Addr), PE (X.blk s H scope (compEnvC scope cl C X.env) fp) elt te) (fo : ∀ x, foldedSetIterable iter X.env x = pure x) :
    PE X (.SetComp elt [⟨tg, iter, [], 0⟩] scope pos) (tSi X.w wi g te (own.map (·.2))) := by
  refine ⟨fun pins s σ H Q J h => ?_⟩
  rw [eval_SetComp]
  refine si_core calm nd J hi bk hg he fo h fun D C s' m H' J' q hn f => ⟨m, hn, fun h'' sb => ?_⟩
  obtain ⟨g0, g1, g2, g3, g4, g5⟩ := f
  exact ⟨.ref D, H', J'.turned (t' := s'.toks) (fun b o hb e => (sb.2 b hb).trans e) g0 g1 g3 g4 g5, rfl, q⟩
end
end AG
namespace AG
open PySem PySem.Spec PyProof.Rows L2
/-! ### a list made by a comprehension -/
mutual
theorem Rep.tr {K : PySem.W.Frag} {W W' : Wd} (hT : ∀ a vs, W.H a = some (.tup vs) → W'.H a = some (.tup vs)) (hD : ∀ a o, W.H a = some o → ¬ (∃ vs, o = .lst vs) → W'.H a = some o ∧ (¬ Live W a → ¬ Live W' a)) (hL : ∀ a vs, W.H a = some (.lst vs) → ¬ Live W a → ¬ W.lk a → W'.H a = some (.lst vs) ∧ ¬ Live W' a ∧ ¬ W'.lk a)
    (hF : ∀ a vs, SqF K W.H a vs → SqF K W'.H a vs) (hA : ∀ (k : Nat) (a : Addr × Kd), W.as[k]? = some a → W'.as[k]? = some a) : ∀ (d : D) (v : V), Rep K W d v → Rep K W' d v
  | .non, v, h => by simpa only [Rep] using h
  | .bl b, v, h => by simpa only [Rep] using h
  | .int i, v, h => by simpa only [Rep] using h
  | .str s, v, h => by simpa only [Rep] using h
  | .ty n, v, h => by simpa only [Rep] using h
  | .dic t ks ds, v, h => by
    simp only [Rep] at h ⊢
    obtain ⟨a, us, o, e, h, h2, h3, n, r⟩ := h
    obtain ⟨q1, q2⟩ := hD a o h (fun ⟨vs, z⟩ => dicO_nolst h3 z)
    exact ⟨a, us, o, e, q1, h2, h3, q2 n, Reps.tr hT hD hL hF hA ds us r⟩
  | .frd ks ds, v, h => by
    simp only [Rep] at h ⊢
    obtain ⟨a, ob, us, l, e, h, h2, h3, r⟩ := h
    exact ⟨a, ob, us, l, e, (hD a _ h (fun ⟨vs, z⟩ => nomatch z)).1, h2, h3, Reps.tr hT hD hL hF hA ds us r⟩
  | .set is, v, h => by
    simp only [Rep] at h ⊢
    obtain ⟨a, n, e, h⟩ := h
    exact ⟨a, n, e, (hD a _ h (fun ⟨vs, z⟩ => nomatch z)).1⟩
  | .exc c, v, h => by simp only [Rep] at h
  | .obj c k, v, h => by
    simp only [Rep] at h ⊢
    obtain ⟨a, e, h⟩ := h
    exact ⟨a, e, hA k _ h⟩
  | .dct t k, v, h => by
    simp only [Rep] at h ⊢
    obtain ⟨a, e, h⟩ := h
    exact ⟨a, e, hA k _ h⟩
  | .ref k, v, h => by
    simp only [Rep] at h ⊢
    obtain ⟨a, e, h⟩ := h
    exact ⟨a, e, hA k _ h⟩
  | .tup ds, v, h => by
    simp only [Rep] at h ⊢
    obtain ⟨a, vs, e, h, r⟩ := h
    exact ⟨a, vs, e, hT a vs h, Reps.tr hT hD hL hF hA ds vs r⟩
  | .lst ds, v, h => by
    simp only [Rep] at h ⊢
    obtain ⟨a, vs, e, h, n, k, r⟩ := h
    obtain ⟨h1, h2, h3⟩ := hL a vs h n k
    exact ⟨a, vs, e, h1, h2, h3, Reps.tr hT hD hL hF hA ds vs r⟩
  | .fro ds, v, h => by
    simp only [Rep] at h ⊢
    obtain ⟨a, vs, e, h, r⟩ := h
    exact ⟨a, vs, e, hF a vs h, Reps.tr hT hD hL hF hA ds vs r⟩
theorem Reps.tr {K : PySem.W.Frag} {W W' : Wd} (hT : ∀ a vs, W.H a = some (.tup vs) → W'.H a = some (.tup vs)) (hD : ∀ a o, W.H a = some o → ¬ (∃ vs, o = .lst vs) → W'.H a = some o ∧ (¬ Live W a → ¬ Live W' a)) (hL : ∀ a vs, W.H a = some (.lst vs) → ¬ Live W a → ¬ W.lk a → W'.H a = some (.lst vs) ∧ ¬ Live W' a ∧ ¬ W'.lk a)
    (hF : ∀ a vs, SqF K W.H a vs → SqF K W'.H a vs) (hA : ∀ (k : Nat) (a : Addr × Kd), W.as[k]? = some a → W'.as[k]? = some a) : ∀ (ds : List D) (vs : List V), Reps K W ds vs → Reps K W' ds vs
  | [], vs, h => by simpa only [Reps] using h
  | d :: ds, vs, h => by
    simp only [Reps] at h ⊢
    obtain ⟨v, r, e, h1, h2⟩ := h
    exact ⟨v, r, e, Rep.tr hT hD hL hF hA d v h1, Reps.tr hT hD hL hF hA ds r h2⟩
end
/-- a list under work is done: settled, or a new cell -/
theorem res_done {K : PySem.W.Frag} {W0 W : Wd} {p : Addr} {m : Bool} {xs : List D} {us : List V} {d : D} {S' : Sto} (A0 : Abs K W0) (h0 : W0.H p = none) (A : Abs K W) (E : Ext W0 W) (hl : W.lk = fun a => a = p ∨ W0.lk a) (hp : W.H p = some (.lst us)) (r : Reps K W xs us)
    (e : mkL m xs W.S = .ok d S') : ∃ W', W'.H = W.H ∧ Nxt K W0 S' W' ∧ Rep K W' d (.ref p) := by
  have hlp : W.lk p := by rw [hl]; exact .inl rfl
  have hsub : ∀ a, W0.lk a → W.lk a := fun a z => by rw [hl]; exact .inr z
  have n0 : ¬ W0.lk p := fun z => by
    obtain ⟨⟨vs, e⟩, _⟩ := A0.res p z
    rw [h0] at e
    cases e
  have nl : ¬ Live W p := (A.res p hlp).2
  unfold mkL at e
  split at e
  · -- a new cell
    cases e
    have cs : ∀ {k : Nat} {ys : List D}, (W.S ++ [some xs])[k]? = some (some ys) → W.S[k]? = some (some ys) ∨ (k = W.S.length ∧ ys = xs) := fun {k ys} e => by
      by_cases hk : k < W.S.length
      · rw [List.getElem?_append_left hk] at e
        exact .inl e
      · rw [List.getElem?_append_right (by omega)] at e
        have := (List.getElem?_eq_some_iff.mp e).1
        simp at this
        rw [show k - W.S.length = 0 by omega] at e
        simp at e
        exact .inr ⟨by omega, e.symm⟩
    have lb : ∀ {k : Nat} {ys : List D}, W.S[k]? = some (some ys) → ∀ {a}, (W.as ++ [(p, Kd.lst)])[k]? = some a → W.as[k]? = some a := fun {k ys} e {a} h => by
      rw [List.getElem?_append_left (by rw [A.len]; exact (List.getElem?_eq_some_iff.mp e).1)] at h
      exact h
    have ap : (W.as ++ [(p, Kd.lst)])[W.S.length]? = some (p, Kd.lst) := by rw [← A.len]; simp
    have hA : ∀ (k : Nat) (a : Addr × Kd), W.as[k]? = some a → (W.as ++ [(p, Kd.lst)])[k]? = some a := fun k a h => by
      rw [List.getElem?_append_left (List.getElem?_eq_some_iff.mp h).1]
      exact h
    have tr : ∀ (ds : List D) (vs : List V), Reps K W ds vs → Reps K { H := W.H, S := W.S ++ [some xs], as := W.as ++ [(p, Kd.lst)], lk := W0.lk } ds vs := by
      refine Reps.tr (fun a vs h => h) (fun a o h hn => ⟨h, fun n z => ?_⟩) (fun a vs h n k => ⟨h, fun z => ?_, fun z => k (hsub a z)⟩) (fun a vs h => h) hA
      · rcases live_app A z with q | q
        · exact n q
        · subst q
          rw [hp] at h
          cases h
          exact hn ⟨_, rfl⟩
      · rcases live_app A z with q | q
        · exact n q
        · subst q
          exact k hlp
    refine ⟨{ H := W.H, S := W.S ++ [some xs], as := W.as ++ [(p, Kd.lst)], lk := W0.lk }, rfl, ⟨rfl, rfl, ?_, ?_⟩, ?_⟩
    · refine ⟨by simp [A.len], fun i j a k1 k2 ys zs h1 h2 h3 h4 => ?_, fun k ys h => ?_, fun a h => ?_⟩
      · rcases cs h1 with q1 | ⟨q1, _⟩
        · rcases cs h2 with q2 | ⟨q2, _⟩
          · exact A.inj i j a k1 k2 ys zs q1 q2 (lb q1 h3) (lb q2 h4)
          · subst q2
            have h4 : (W.as ++ [(p, Kd.lst)])[W.S.length]? = some (a, k2) := h4
            rw [ap] at h4
            cases h4
            exact absurd ⟨i, ys, k1, q1, lb q1 h3⟩ nl
        · subst q1
          have h3 : (W.as ++ [(p, Kd.lst)])[W.S.length]? = some (a, k1) := h3
          rw [ap] at h3
          cases h3
          rcases cs h2 with q2 | ⟨q2, _⟩
          · exact absurd ⟨j, zs, k2, q2, lb q2 h4⟩ nl
          · exact q2.symm
      · rcases cs h with q | ⟨q, e⟩
        · obtain ⟨a, kd, ds, vs, o, e1, e2, e3, r1⟩ := A.cell k ys q
          exact ⟨a, kd, ds, vs, o, hA k _ e1, e2, e3, tr _ _ r1⟩
        · subst q e
          exact ⟨p, .lst, _, us, _, ap, hp, ⟨rfl, rfl⟩, tr _ _ r⟩
      · obtain ⟨h1, h2⟩ := A.res a (hsub a h)
        refine ⟨h1, fun z => ?_⟩
        rcases live_app A z with q | q
        · exact h2 q
        · subst q
          exact n0 h
    · refine ⟨fun b o h n => ?_, fun k a h => hA k a (E.pre k a h)⟩
      obtain ⟨h1, h2, h3⟩ := E.keep b o h n
      refine ⟨h1, fun z => ?_, id⟩
      rcases live_app A z with q | q
      · exact h2 q
      · subst q
        rw [h0] at h
        cases h
    · simp only [Rep]
      exact ⟨p, rfl, ap⟩
  · cases e
    refine ⟨{ W with lk := W0.lk }, rfl, ⟨rfl, rfl, res_end A hsub, fun b o h n => ?_, E.pre⟩, ?_⟩
    · obtain ⟨h1, h2, h3⟩ := E.keep b o h n
      exact ⟨h1, h2, id⟩
    · simp only [Rep]
      exact ⟨p, us, rfl, hp, nl, n0, Reps.lkm hsub _ _ r⟩
theorem lc_ok {K : PySem.W.Frag} {m : Bool} {own : List Nat} {tgD : Tg} {g : TG} {mi : Env → M (List D)} {mc : Env → M Bool} {me : Env → M D} (hgk : TgOk K g tgD) (hsub : ∀ i ∈ tgs tgD, i ∈ own) : ∀ σ H Q,
    tI K (fun ρ => bnd (mi ρ) fun xs => bnd (lcL me tgD mc (wipeD ρ own) xs []) fun ys => mkL m ys) σ H Q → tLc (tIt K mi) g (tT K mc) (tI K me) own σ H Q := by
  rintro σ H Q ⟨W, ρ, rfl, A, sl, d, S', e, k⟩
  obtain ⟨xs, S1, e1, e⟩ := bnd_ok e
  obtain ⟨ys, S2, e2, e⟩ := bnd_ok e
  refine ⟨W, ρ, rfl, A, sl, xs, S1, e1, fun W1 J N wk p hp => ?_⟩
  rw [← N.st] at e2
  refine ⟨fun i n H => n = xs.length - i ∧ i ≤ xs.length ∧ ∃ (Wi : Wd) (acc : List D) (us : List V), Wi.H = H ∧ Abs K Wi ∧ Ext W1 Wi ∧ Wi.lk = (fun a => a = p ∨ W1.lk a) ∧ H p = some (.lst us) ∧ Reps K Wi acc us ∧ lcL me tgD mc (wipeD ρ own) (xs.drop i) acc Wi.S = .ok ys S2, ⟨xs.length, ?_⟩, ?_⟩
  · obtain ⟨A2, E2⟩ := res_start N.ab hp
    exact ⟨by simp, Nat.zero_le _, _, [], [], rfl, A2, E2, rfl, upd_same, by simp only [Reps], e2⟩
  · rintro i n H ⟨rfl, hi, Wi, acc, us, rfl, Ai, Ei, li, hpi, ri, ei⟩
    obtain ⟨w1, w2⟩ := wk Wi Ai Ei.toL i
    by_cases hlt : i < xs.length
    · refine .inr ?_
      obtain ⟨go, yl⟩ := w1 xs[i] (List.getElem?_eq_getElem hlt)
      rw [List.drop_eq_getElem_cons hlt] at ei
      simp only [lcL] at ei
      obtain ⟨ρ2, S3, e3, ei⟩ := bnd_ok ei
      obtain ⟨h3, rfl⟩ := opt_ok e3
      refine ⟨go, fun H' => i + 1 ≤ xs.length ∧ ∃ (Wi : Wd) (acc : List D) (us : List V), Wi.H = H' ∧ Abs K Wi ∧ Ext W1 Wi ∧ Wi.lk = (fun a => a = p ∨ W1.lk a) ∧ H' p = some (.lst us) ∧ Reps K Wi acc us ∧ lcL me tgD mc (wipeD ρ own) (xs.drop (i + 1)) acc Wi.S = .ok ys S2, fun H' nx => ⟨xs.length - (i + 1), by omega, rfl, nx⟩, fun x H' hy => ?_⟩
      obtain ⟨Wy, rfl, Ny, ry⟩ := yl x H' hy
      have slw : Sl K Wy (wipeD ρ own) (wipe σ own) := ((sl.wipe own).ext A (N.ext.trans Ei)).ext Ai Ny.ext |> fun z => z
      refine hgk Wy _ x (wipeD ρ own) ρ2 (wipe σ own) _ Ny.ab ry slw h3 fun σ2 sl2 hw => ⟨by rw [hw own hsub, wipe_wipe], ?_⟩
      obtain ⟨kk, S4, e4, ei⟩ := bnd_ok ei
      have lkp : Wy.lk p := by rw [Ny.lk, li]; exact .inl rfl
      have hpy : Wy.H p = some (.lst us) := (Ny.ext.keep p _ hpi (Ai.res p (by rw [li]; exact .inl rfl)).2).1
      refine ⟨Wy, ρ2, rfl, Ny.ab, sl2, kk, S4, by rw [Ny.st]; exact e4, fun Wc Nc => ?_⟩
      have hpc : Wc.H p = some (.lst us) := (Nc.ext.keep p _ hpy (Ny.ab.res p lkp).2).1
      have lkc : Wc.lk = fun a => a = p ∨ W1.lk a := by rw [Nc.lk, Ny.lk, li]
      cases kk with
      | true =>
        simp only [if_true] at ei ⊢
        obtain ⟨y, S5, e5, ei⟩ := bnd_ok ei
        obtain ⟨sm, ei⟩ := need_ok ei
        refine ⟨Wc, ρ2, rfl, Nc.ab, sl2.ext Ny.ab Nc.ext, y, S5, by rw [Nc.st]; exact e5, fun We v Ne re => ?_⟩
        have lke : We.lk = fun a => a = p ∨ W1.lk a := by rw [Ne.lk, lkc]
        have lkep : We.lk p := by rw [lke]; exact .inl rfl
        have hpe : We.H p = some (.lst us) := (Ne.ext.keep p _ hpc (Nc.ab.res p (by rw [lkc]; exact .inl rfl)).2).1
        have rae := Reps.ext Ai ((Ny.ext.trans Nc.ext).trans Ne.ext) _ _ ri
        refine ⟨us, hpe, ?_, by omega, { We with H := upd We.H p (.lst (us ++ [v])) }, acc ++ [y], us ++ [v], rfl, res_upd Ne.ab lkep _, ?_, lke, upd_same, Reps.upd Ne.ab lkep _ _ _ (reps_app _ _ _ _ rae (reps_one re)), ?_⟩
        · rw [reps_len _ _ ri]
          have := small_le sm
          exact Nat.lt_of_lt_of_le (Nat.lt_succ_self _) (line_1M (by omega))
        · refine ⟨fun b o h nn => ?_, fun kx a h => (((Ei.trans Ny.ext).trans Nc.ext).trans Ne.ext).pre kx a h⟩
          obtain ⟨h1, h2, h3⟩ := (((Ei.trans Ny.ext).trans Nc.ext).trans Ne.ext).keep b o h nn
          refine ⟨?_, h2, h3⟩
          show upd We.H p _ b = some o
          rw [upd_ne (ne_of_none h hp)]
          exact h1
        · show lcL me tgD mc (wipeD ρ own) (xs.drop (i + 1)) (acc ++ [y]) We.S = _
          rw [Ne.st]
          exact ei
      | false =>
        simp only [Bool.false_eq_true, if_false] at ei ⊢
        exact ⟨by omega, Wc, acc, us, rfl, Nc.ab, (Ei.trans Ny.ext).trans Nc.ext, lkc, hpc, Reps.ext Ai (Ny.ext.trans Nc.ext) _ _ ri, by rw [Nc.st]; exact ei⟩
    · refine .inl ⟨w2 (by omega), ?_⟩
      rw [List.drop_eq_nil_of_le (by omega)] at ei
      obtain ⟨rfl, rfl⟩ := ret_ok (show ret acc Wi.S = _ from ei)
      obtain ⟨Wz, hz, Nz, rz⟩ := res_done (m := m) N.ab hp Ai Ei li hpi ri e
      rw [← hz]
      exact k Wz _ ⟨Nz.st, Nz.lk.trans N.lk, Nz.ab, N.ext.trans Nz.ext⟩ rz
theorem lc2_ok {K : PySem.W.Frag} {m : Bool} {own own1 : List Nat} {tgD tgD1 : Tg} {g g1 : TG} {mi mi1 : Env → M (List D)} {me : Env → M D} (hgk : TgOk K g tgD) (hgk1 : TgOk K g1 tgD1) (hsub : ∀ i ∈ tgs tgD, i ∈ own) (hsub1 : ∀ i ∈ tgs tgD1, i ∈ own1) : ∀ σ H Q,
    tI K (fun ρ => bnd (mi ρ) fun xs => bnd (lcL2 me tgD tgD1 mi1 own1 (wipeD ρ own) xs []) fun ys => mkL m ys) σ H Q → tLc2 (tIt K mi) g (tT K fun _ => ret true) (tIt K mi1) g1 (tT K fun _ => ret true) (tI K me) own own1 σ H Q := by
  rintro σ H Q ⟨W, ρ, rfl, A, sl, d, S', e, k⟩
  obtain ⟨xs, S1, e1, e⟩ := bnd_ok e
  obtain ⟨ys, S2, e2, e⟩ := bnd_ok e
  refine ⟨W, ρ, rfl, A, sl, xs, S1, e1, fun W1 J N wk p hp => ?_⟩
  rw [← N.st] at e2
  refine ⟨fun i n H => n = xs.length - i ∧ i ≤ xs.length ∧ ∃ (Wi : Wd) (acc : List D) (us : List V), Wi.H = H ∧ Abs K Wi ∧ Ext W1 Wi ∧ Wi.lk = (fun a => a = p ∨ W1.lk a) ∧ H p = some (.lst us) ∧ Reps K Wi acc us ∧ lcL2 me tgD tgD1 mi1 own1 (wipeD ρ own) (xs.drop i) acc Wi.S = .ok ys S2, ⟨xs.length, ?_⟩, ?_⟩
  · obtain ⟨A2, E2⟩ := res_start N.ab hp
    exact ⟨by simp, Nat.zero_le _, _, [], [], rfl, A2, E2, rfl, upd_same, by simp only [Reps], e2⟩
  · rintro i n H ⟨rfl, hi, Wi, acc, us, rfl, Ai, Ei, li, hpi, ri, ei⟩
    obtain ⟨w1, w2⟩ := wk Wi Ai Ei.toL i
    by_cases hlt : i < xs.length
    · refine .inr ?_
      obtain ⟨go, yl⟩ := w1 xs[i] (List.getElem?_eq_getElem hlt)
      rw [List.drop_eq_getElem_cons hlt] at ei
      simp only [lcL2] at ei
      obtain ⟨ρ2, S3, e3, ei⟩ := bnd_ok ei
      obtain ⟨h3, rfl⟩ := opt_ok e3
      obtain ⟨zs, S4, e4, ei⟩ := bnd_ok ei
      obtain ⟨acc2, S5, e5, ei⟩ := bnd_ok ei
      refine ⟨go, fun H' => i + 1 ≤ xs.length ∧ ∃ (Wi : Wd) (acc : List D) (us : List V), Wi.H = H' ∧ Abs K Wi ∧ Ext W1 Wi ∧ Wi.lk = (fun a => a = p ∨ W1.lk a) ∧ H' p = some (.lst us) ∧ Reps K Wi acc us ∧ lcL2 me tgD tgD1 mi1 own1 (wipeD ρ own) (xs.drop (i + 1)) acc Wi.S = .ok ys S2, fun H' nx => ⟨xs.length - (i + 1), by omega, rfl, nx⟩, fun x H' hy => ?_⟩
      obtain ⟨Wy, rfl, Ny, ry⟩ := yl x H' hy
      have slw : Sl K Wy (wipeD ρ own) (wipe σ own) := ((sl.wipe own).ext A (N.ext.trans Ei)).ext Ai Ny.ext
      refine hgk Wy _ x (wipeD ρ own) ρ2 (wipe σ own) _ Ny.ab ry slw h3 fun σ2 sl2 hw => ⟨by rw [hw own hsub, wipe_wipe], ?_⟩
      have lkp : Wy.lk p := by rw [Ny.lk, li]; exact .inl rfl
      have hpy : Wy.H p = some (.lst us) := (Ny.ext.keep p _ hpi (Ai.res p (by rw [li]; exact .inl rfl)).2).1
      refine ⟨Wy, ρ2, rfl, Ny.ab, sl2, true, Wy.S, rfl, fun Wc Nc => ?_⟩
      simp only [if_true]
      have hpc : Wc.H p = some (.lst us) := (Nc.ext.keep p _ hpy (Ny.ab.res p lkp).2).1
      have lkc : Wc.lk = fun a => a = p ∨ W1.lk a := by rw [Nc.lk, Ny.lk, li]
      have slc := sl2.ext Ny.ab Nc.ext
      refine ⟨Wc, ρ2, rfl, Nc.ab, slc, zs, S4, by rw [Nc.st, Ny.st]; exact e4, fun W4 J1 N4 wk1 => ?_⟩
      have hp4 : W4.H p = some (.lst us) := (N4.ext.keep p _ hpc (Nc.ab.res p (by rw [lkc]; exact .inl rfl)).2).1
      have lk4 : W4.lk = fun a => a = p ∨ W1.lk a := by rw [N4.lk, lkc]
      have r4 := Reps.ext Ai ((Ny.ext.trans Nc.ext).trans N4.ext) _ _ ri
      have E4 : Ext W1 W4 := Ei.trans ((Ny.ext.trans Nc.ext).trans N4.ext)
      have sl4 := slc.ext Nc.ab N4.ext
      rw [← N4.st] at e5
      refine ⟨fun j n H => n = zs.length - j ∧ j ≤ zs.length ∧ ∃ (Wj : Wd) (ac : List D) (vs : List V), Wj.H = H ∧ Abs K Wj ∧ Ext W1 Wj ∧ ExtL W4 Wj ∧ Wj.lk = (fun a => a = p ∨ W1.lk a) ∧ H p = some (.lst vs) ∧ Reps K Wj ac vs ∧ lcL me tgD1 (fun _ => ret true) (wipeD ρ2 own1) (zs.drop j) ac Wj.S = .ok acc2 S5, ⟨zs.length, ?_⟩, ?_⟩
      · exact ⟨by simp, Nat.zero_le _, W4, acc, us, rfl, N4.ab, E4, (Ext.refl W4).toL, lk4, hp4, r4, e5⟩
      · rintro j n H ⟨rfl, hj, Wj, ac, vs, rfl, Aj, E1j, Ej, lj, hpj, rj, ej⟩
        obtain ⟨v1, v2⟩ := wk1 Wj Aj Ej j
        by_cases hlj : j < zs.length
        · refine .inr ?_
          obtain ⟨go1, yl1⟩ := v1 zs[j] (List.getElem?_eq_getElem hlj)
          rw [List.drop_eq_getElem_cons hlj] at ej
          simp only [lcL] at ej
          obtain ⟨ρ3, S6, e6, ej⟩ := bnd_ok ej
          obtain ⟨h6, rfl⟩ := opt_ok e6
          obtain ⟨kk, S7, e7, ej⟩ := bnd_ok ej
          obtain ⟨rfl, rfl⟩ := ret_ok e7
          simp only [if_true] at ej
          obtain ⟨y, S8, e8, ej⟩ := bnd_ok ej
          obtain ⟨sm, ej⟩ := need_ok ej
          refine ⟨go1, fun H' => j + 1 ≤ zs.length ∧ ∃ (Wj : Wd) (ac : List D) (vs : List V), Wj.H = H' ∧ Abs K Wj ∧ Ext W1 Wj ∧ ExtL W4 Wj ∧ Wj.lk = (fun a => a = p ∨ W1.lk a) ∧ H' p = some (.lst vs) ∧ Reps K Wj ac vs ∧ lcL me tgD1 (fun _ => ret true) (wipeD ρ2 own1) (zs.drop (j + 1)) ac Wj.S = .ok acc2 S5, fun H' nx => ⟨zs.length - (j + 1), by omega, rfl, nx⟩, fun z H' hz => ?_⟩
          obtain ⟨Wz, rfl, Nz, rz⟩ := yl1 z H' hz
          have slz : Sl K Wz (wipeD ρ2 own1) (wipe σ2 own1) := ((sl4.wipe own1).extL N4.ab Ej).ext Aj Nz.ext
          refine hgk1 Wz _ z (wipeD ρ2 own1) ρ3 (wipe σ2 own1) _ Nz.ab rz slz h6 fun σ3 sl3 hw1 => ⟨by rw [hw1 own1 hsub1, wipe_wipe], ?_⟩
          have lkz : Wz.lk p := by rw [Nz.lk, lj]; exact .inl rfl
          have hpz : Wz.H p = some (.lst vs) := (Nz.ext.keep p _ hpj (Aj.res p (by rw [lj]; exact .inl rfl)).2).1
          refine ⟨Wz, ρ3, rfl, Nz.ab, sl3, true, Wz.S, rfl, fun Wd9 Nd => ?_⟩
          simp only [if_true]
          have hpd : Wd9.H p = some (.lst vs) := (Nd.ext.keep p _ hpz (Nz.ab.res p lkz).2).1
          have lkd : Wd9.lk = fun a => a = p ∨ W1.lk a := by rw [Nd.lk, Nz.lk, lj]
          refine ⟨Wd9, ρ3, rfl, Nd.ab, sl3.ext Nz.ab Nd.ext, y, S8, by rw [Nd.st, Nz.st]; exact e8, fun We v Ne re => ?_⟩
          have lke : We.lk = fun a => a = p ∨ W1.lk a := by rw [Ne.lk, lkd]
          have lkep : We.lk p := by rw [lke]; exact .inl rfl
          have hpe : We.H p = some (.lst vs) := (Ne.ext.keep p _ hpd (Nd.ab.res p (by rw [lkd]; exact .inl rfl)).2).1
          have rae := Reps.ext Aj ((Nz.ext.trans Nd.ext).trans Ne.ext) _ _ rj
          have Eall := ((E1j.trans Nz.ext).trans Nd.ext).trans Ne.ext
          have Eloc := ((Ej.trans Nz.ext.toL).trans Nd.ext.toL).trans Ne.ext.toL
          refine ⟨vs, hpe, ?_, by omega, { We with H := upd We.H p (.lst (vs ++ [v])) }, ac ++ [y], vs ++ [v], rfl, res_upd Ne.ab lkep _, ?_, ?_, lke, upd_same, Reps.upd Ne.ab lkep _ _ _ (reps_app _ _ _ _ rae (reps_one re)), ?_⟩
          · rw [reps_len _ _ rj]
            have := small_le sm
            exact Nat.lt_of_lt_of_le (Nat.lt_succ_self _) (line_1M (by omega))
          · refine ⟨fun b o h nn => ?_, fun kx a h => Eall.pre kx a h⟩
            obtain ⟨h1, h2, h3⟩ := Eall.keep b o h nn
            refine ⟨?_, h2, h3⟩
            show upd We.H p _ b = some o
            rw [upd_ne (ne_of_none h hp)]
            exact h1
          · refine ⟨fun b o h nn ll => ?_, fun kx a h => Eloc.pre kx a h⟩
            obtain ⟨h1, h2, h3⟩ := Eloc.keep b o h nn ll
            refine ⟨?_, h2, h3⟩
            show upd We.H p _ b = some o
            rw [upd_ne (fun z : b = p => ll (by rw [z, lk4]; exact .inl rfl))]
            exact h1
          · show lcL me tgD1 (fun _ => ret true) (wipeD ρ2 own1) (zs.drop (j + 1)) (ac ++ [y]) We.S = _
            rw [Ne.st]
            exact ej
        · refine .inl ⟨v2 (by omega), ?_⟩
          rw [List.drop_eq_nil_of_le (by omega)] at ej
          obtain ⟨rfl, rfl⟩ := ret_ok (show ret ac Wj.S = _ from ej)
          exact ⟨by omega, Wj, ac, vs, rfl, Aj, E1j, lj, hpj, rj, ei⟩
    · refine .inl ⟨w2 (by omega), ?_⟩
      rw [List.drop_eq_nil_of_le (by omega)] at ei
      obtain ⟨rfl, rfl⟩ := ret_ok (show ret acc Wi.S = _ from ei)
      obtain ⟨Wz, hz, Nz, rz⟩ := res_done (m := m) N.ab hp Ai Ei li hpi ri e
      rw [← hz]
      exact k Wz _ ⟨Nz.st, Nz.lk.trans N.lk, Nz.ab, N.ext.trans Nz.ext⟩ rz
/-! ### statements -/
section
variable (K : PySem.W.Frag)
def FlOk (D' : Ends) (f : Fl) (W' : Wd) : Prop := match f with
  | .nx ρ' => ∀ σ', Sl K W' ρ' σ' → D'.nx σ' W'.H
  | .bk ρ' => ∀ σ', Sl K W' ρ' σ' → D'.bk σ' W'.H
  | .ct ρ' => ∀ σ', Sl K W' ρ' σ' → D'.ct σ' W'.H
  | .rt d => ∀ v, Rep K W' d v → D'.rt v W'.H
def tS (m : Env → M Fl) : TS := fun D' σ H => ∃ (W : Wd) (ρ : Env), W.H = H ∧ Abs K W ∧ Sl K W ρ σ ∧ ∃ f S', m ρ W.S = .ok f S' ∧ ∀ W', Nxt K W S' W' → FlOk K D' f W'
end
section
variable {X : Cx} {a b c e : Expr} {pos : Pos} {ma mb mc : Env → M D} {tg : Expr} {tgD : Tg} {g : TG}
theorem asg_ok (hgk : TgOk X.K g tgD) : ∀ D' σ H, tS X.K (fun ρ => bnd (ma ρ) fun x => bnd (opt (asg tgD x ρ)) fun ρ2 => ret (.nx ρ2)) D' σ H → tAsg (tI X.K ma) g D' σ H := by
  rintro D' σ H ⟨W, ρ, rfl, A, sl, f, S', e, k⟩
  obtain ⟨x, S1, e1, e⟩ := bnd_ok e
  obtain ⟨ρ2, S2, e2, e3⟩ := bnd_ok e
  obtain ⟨h2, h2'⟩ := opt_ok e2
  obtain ⟨h3, h4⟩ := ret_ok e3
  subst h2' h3 h4
  refine ⟨W, ρ, rfl, A, sl, x, _, e1, fun W1 v N r => ?_⟩
  exact hgk W1 x v ρ ρ2 σ _ N.ab r (sl.ext A N.ext) h2 fun σ' sl' _ => k W1 N σ' sl'
theorem set_ok {i : Nat} : ∀ D' σ H, tS X.K (fun ρ => bnd (ma ρ) fun x => ret (.nx (ρ.set i (some x)))) D' σ H → tAsg (tI X.K ma) (gName i) D' σ H := asg_ok (tg_name i)
theorem par_ok {i j : Nat} : ∀ D' σ H, tS X.K (fun ρ => bnd (ma ρ) fun x => bnd (mb ρ) fun y => ret (.nx ((ρ.set i (some x)).set j (some y)))) D' σ H →
    tPar i j (tAs X.K fun ρ => bnd (ma ρ) fun x => bnd (bnd (mb ρ) fun x => bnd (ret []) fun xs => ret (x :: xs)) fun xs => ret (x :: xs)) D' σ H := by
  rintro D' σ H ⟨W, ρ, rfl, A, sl, f, S', e, k⟩
  obtain ⟨x, S1, e1, e⟩ := bnd_ok e
  obtain ⟨y, S2, e2, e⟩ := bnd_ok e
  obtain ⟨rfl, rfl⟩ := ret_ok e
  refine ⟨W, ρ, rfl, A, sl, [x, y], S2, bnd_mk e1 (bnd_mk (bnd_mk e2 rfl) rfl), fun W1 vs N r => ?_⟩
  obtain ⟨v, w, rfl, r1, r2⟩ := reps2 r
  exact ⟨v, w, rfl, k W1 N _ (((sl.ext A N.ext).set i r1).set j r2)⟩
theorem k_setix {K : PySem.W.Frag} {W : Wd} (A : Abs K W) {x y z : D} {v1 v2 v3 : V} {S' : Sto} {u : Unit} {Q : Hp → Prop} (r2 : Rep K W x v2) (r3 : Rep K W y v3) (r1 : Rep K W z v1) (e4 : setIx x y z W.S = .ok u S') (k : ∀ W', Nxt K W S' W' → Q W'.H) : rSetL v2 v3 v1 W.H Q := by
  unfold setIx at e4
  split at e4
  · rename_i kx j
    obtain ⟨xs, S5, e5, e4⟩ := bnd_ok e4
    obtain ⟨rfl, hk, p, us, rfl, h1, h2, q⟩ := getC_ok A r2 e5
    cases hj : L2.ixN xs.length j with
    | none => rw [hj] at e4; cases e4
    | some n =>
      rw [hj] at e4
      have e6 := setC_ok hk e4
      rw [rep_int r3]
      refine ⟨p, us, j, n, rfl, rfl, h2, by rw [reps_len _ _ q]; exact hj, ?_⟩
      have N4 := set_cell A hk h1 (reps_set n _ _ z v1 q r1)
      rw [← e6] at N4
      exact k _ N4
  · cases e4
theorem k_app {K : PySem.W.Frag} {W : Wd} (A : Abs K W) {x y : D} {v1 w : V} {S' : Sto} {u : Unit} {Q : VK} (r1 : Rep K W x v1) (r3 : Rep K W y w) (e4 : appD x y W.S = .ok u S') (k : ∀ W', Nxt K W S' W' → Q .non W'.H) : rAppend v1 [w] W.H Q := by
  unfold appD at e4
  split at e4
  · rename_i kx
    obtain ⟨xs, S5, e5, e4⟩ := bnd_ok e4
    obtain ⟨rfl, hk, p, us, rfl, h1, h2, q⟩ := getC_ok A r1 e5
    obtain ⟨sm, e4⟩ := need_ok e4
    have e6 := setC_ok hk e4
    refine ⟨p, us, w, rfl, rfl, h2, ?_, ?_⟩
    · rw [reps_len _ _ q]
      have := small_le sm
      exact Nat.lt_of_lt_of_le (Nat.lt_succ_self _) (line_1M (by omega))
    · have N4 := set_cell A hk h1 (reps_app _ _ _ _ q (reps_one r3))
      rw [← e6] at N4
      exact k _ N4
  · cases e4
theorem k_extd {K : PySem.W.Frag} {W : Wd} (A : Abs K W) {x y : D} {v1 w : V} {S' : Sto} {u : Unit} {Q : VK} (r1 : Rep K W x v1) (r3 : Rep K W y w) (e4 : extD x y W.S = .ok u S') (k : ∀ W', Nxt K W S' W' → Q .non W'.H) : rExtend v1 [w] W.H Q := by
  cases x with
  | ref kx =>
    cases y with
    | lst zs =>
      obtain ⟨xs, S5, e5, e4⟩ := bnd_ok (show bnd (getC kx) _ W.S = _ from e4)
      obtain ⟨rfl, hk, p, us, rfl, h1, h2, q⟩ := getC_ok A r1 e5
      obtain ⟨sm, e4⟩ := need_ok e4
      obtain ⟨sm1, sm2⟩ := and2 sm
      have e6 := setC_ok hk e4
      simp only [Rep] at r3
      obtain ⟨b, ws, rfl, hb, _, _, q2⟩ := r3
      refine ⟨p, b, us, ws, rfl, rfl, h2, hb, ?_, ?_⟩
      · rw [reps_len _ _ q, reps_len _ _ q2]
        have l1 := small_le sm1
        have l2 := small_le sm2
        rw [sizeLine_eq]
        omega
      · have N4 := set_cell A hk h1 (reps_app _ _ _ _ q q2)
        rw [← e6] at N4
        exact k _ N4
    | _ => cases e4
  | _ => cases e4
theorem setix_ok {mo mi me : Env → M D} : ∀ D' σ H, tS X.K (fun ρ => bnd (me ρ) fun v => bnd (mo ρ) fun x => bnd (mi ρ) fun y => bnd (setIx x y v) fun _ => ret (.nx ρ)) D' σ H →
    tAsg (tI X.K me) (gSub (tI X.K mo) (tI X.K mi) rSetL) D' σ H := by
  rintro D' σ H ⟨W, ρ, rfl, A, sl, f, S', e, k⟩
  obtain ⟨z, S1, e1, e⟩ := bnd_ok e
  obtain ⟨x, S2, e2, e⟩ := bnd_ok e
  obtain ⟨y, S3, e3, e⟩ := bnd_ok e
  obtain ⟨_, S4, e4, e⟩ := bnd_ok e
  obtain ⟨rfl, rfl⟩ := ret_ok e
  refine ⟨W, ρ, rfl, A, sl, z, S1, e1, fun W1 v1 N1 r1 => ?_⟩
  refine ⟨W1, ρ, rfl, N1.ab, sl.ext A N1.ext, x, S2, by rw [N1.st]; exact e2, fun W2 v2 N2 r2 => ?_⟩
  refine ⟨W2, ρ, rfl, N2.ab, (sl.ext A N1.ext).ext N1.ab N2.ext, y, S3, by rw [N2.st]; exact e3, fun W3 v3 N3 r3 => ?_⟩
  refine k_setix N3.ab (Rep.ext N2.ab N3.ext _ _ r2) r3 (Rep.ext N1.ab (N2.ext.trans N3.ext) _ _ r1) (by rw [N3.st]; exact e4) fun W4 N4 => ?_
  have E := ((N1.ext.trans N2.ext).trans N3.ext).trans N4.ext
  exact k _ ⟨N4.st, N4.lk.trans (N3.lk.trans (N2.lk.trans N1.lk)), N4.ab, E⟩ σ (sl.ext A E)
theorem app_ok' {mo me : Env → M D} : ∀ D' σ H, tS X.K (fun ρ => bnd (mo ρ) fun x => bnd (isC x) fun _ => bnd (me ρ) fun v => bnd (appD x v) fun _ => ret (.nx ρ)) D' σ H →
    tDrop (tBM X.K "list" rAppend (tI X.K mo) (tAs X.K fun ρ => bnd (me ρ) fun x => bnd (ret []) fun xs => ret (x :: xs))) D' σ H := by
  rintro D' σ H ⟨W, ρ, rfl, A, sl, f, S', e, k⟩
  obtain ⟨x, S1, e1, e⟩ := bnd_ok e
  obtain ⟨_, S2, e2, e⟩ := bnd_ok e
  obtain ⟨y, S3, e3, e⟩ := bnd_ok e
  obtain ⟨_, S4, e4, e⟩ := bnd_ok e
  obtain ⟨rfl, rfl⟩ := ret_ok e
  refine ⟨W, ρ, rfl, A, sl, x, S1, e1, fun W1 v1 N1 r1 => ?_⟩
  rw [← N1.st] at e2
  obtain ⟨h, ty⟩ := isC_ok N1.ab r1 e2
  rw [h] at e3
  refine ⟨ty, W1, ρ, rfl, N1.ab, sl.ext A N1.ext, [y], S3, bnd_mk e3 rfl, fun W2 vs N2 r2 => ?_⟩
  obtain ⟨w, rfl, r3⟩ := reps1 r2
  refine k_app N2.ab (Rep.ext N1.ab N2.ext _ _ r1) r3 (by rw [N2.st]; exact e4) fun W4 N4 => ?_
  have E := (N1.ext.trans N2.ext).trans N4.ext
  exact k _ ⟨N4.st, N4.lk.trans (N2.lk.trans N1.lk), N4.ab, E⟩ σ (sl.ext A E)
theorem extd_ok' {mo me : Env → M D} : ∀ D' σ H, tS X.K (fun ρ => bnd (mo ρ) fun x => bnd (isC x) fun _ => bnd (me ρ) fun v => bnd (extD x v) fun _ => ret (.nx ρ)) D' σ H →
    tDrop (tBM X.K "list" rExtend (tI X.K mo) (tAs X.K fun ρ => bnd (me ρ) fun x => bnd (ret []) fun xs => ret (x :: xs))) D' σ H := by
  rintro D' σ H ⟨W, ρ, rfl, A, sl, f, S', e, k⟩
  obtain ⟨x, S1, e1, e⟩ := bnd_ok e
  obtain ⟨_, S2, e2, e⟩ := bnd_ok e
  obtain ⟨y, S3, e3, e⟩ := bnd_ok e
  obtain ⟨_, S4, e4, e⟩ := bnd_ok e
  obtain ⟨rfl, rfl⟩ := ret_ok e
  refine ⟨W, ρ, rfl, A, sl, x, S1, e1, fun W1 v1 N1 r1 => ?_⟩
  rw [← N1.st] at e2
  obtain ⟨h, ty⟩ := isC_ok N1.ab r1 e2
  rw [h] at e3
  refine ⟨ty, W1, ρ, rfl, N1.ab, sl.ext A N1.ext, [y], S3, bnd_mk e3 rfl, fun W2 vs N2 r2 => ?_⟩
  obtain ⟨w, rfl, r3⟩ := reps1 r2
  refine k_extd N2.ab (Rep.ext N1.ab N2.ext _ _ r1) r3 (by rw [N2.st]; exact e4) fun W4 N4 => ?_
  have E := (N1.ext.trans N2.ext).trans N4.ext
  exact k _ ⟨N4.st, N4.lk.trans (N2.lk.trans N1.lk), N4.ab, E⟩ σ (sl.ext A E)
theorem drop_ok : ∀ D' σ H, tS X.K (fun ρ => bnd (ma ρ) fun _ => ret (.nx ρ)) D' σ H → tDrop (tI X.K ma) D' σ H := by
  rintro D' σ H ⟨W, ρ, rfl, A, sl, f, S', e, k⟩
  obtain ⟨x, S1, e1, e⟩ := bnd_ok e
  obtain ⟨rfl, rfl⟩ := ret_ok e
  exact ⟨W, ρ, rfl, A, sl, x, S1, e1, fun W1 v N r => k W1 N σ (sl.ext A N.ext)⟩
theorem ret_ok' : ∀ D' σ H, tS X.K (fun ρ => bnd (ma ρ) fun x => ret (.rt x)) D' σ H → tRet (tI X.K ma) D' σ H := by
  rintro D' σ H ⟨W, ρ, rfl, A, sl, f, S', e, k⟩
  obtain ⟨x, S1, e1, e⟩ := bnd_ok e
  obtain ⟨rfl, rfl⟩ := ret_ok e
  exact ⟨W, ρ, rfl, A, sl, x, S1, e1, fun W1 v N r => k W1 N v r⟩
variable {nc : Env → M Bool} {sa sb : Env → M Fl}
theorem ife_ok : ∀ D' σ H, tS X.K (fun ρ => bnd (nc ρ) fun k => if k then sa ρ else sb ρ) D' σ H → tIfS (tT X.K nc) (tS X.K sa) (tS X.K sb) D' σ H := by
  rintro D' σ H ⟨W, ρ, rfl, A, sl, f, S', e, k⟩
  obtain ⟨x, S1, e1, e⟩ := bnd_ok e
  refine ⟨W, ρ, rfl, A, sl, x, S1, e1, fun W1 N => ?_⟩
  cases x with
  | true =>
    simp only [if_true] at e ⊢
    exact ⟨W1, ρ, rfl, N.ab, sl.ext A N.ext, f, S', by rw [N.st]; exact e, fun W2 N2 => k W2 (N.trans N2)⟩
  | false =>
    simp only [Bool.false_eq_true, if_false] at e ⊢
    exact ⟨W1, ρ, rfl, N.ab, sl.ext A N.ext, f, S', by rw [N.st]; exact e, fun W2 N2 => k W2 (N.trans N2)⟩
theorem FlOk.mono {K : PySem.W.Frag} {D' : Ends} {f : Fl} {W : Wd} (h : FlOk K D' f W) : FlOk K D' f W := h
theorem seq_ok : ∀ D' σ H, tS X.K (fun ρ => bnd (sa ρ) fun f => match f with
    | .nx ρ2 => sb ρ2
    | f => ret f) D' σ H → tSeq (tS X.K sa) (tS X.K sb) D' σ H := by
  rintro D' σ H ⟨W, ρ, rfl, A, sl, f, S', e, k⟩
  obtain ⟨x, S1, e1, e⟩ := bnd_ok e
  refine ⟨W, ρ, rfl, A, sl, x, S1, e1, fun W1 N => ?_⟩
  cases x with
  | nx ρ2 => exact fun σ' sl' => ⟨W1, ρ2, rfl, N.ab, sl', f, S', by rw [N.st]; exact e, fun W2 N2 => k W2 (N.trans N2)⟩
  | rt d =>
    obtain ⟨rfl, rfl⟩ := ret_ok (show ret (Fl.rt d) S1 = _ from e)
    exact k W1 N
  | bk d =>
    obtain ⟨rfl, rfl⟩ := ret_ok (show ret (Fl.bk d) S1 = _ from e)
    exact k W1 N
  | ct d =>
    obtain ⟨rfl, rfl⟩ := ret_ok (show ret (Fl.ct d) S1 = _ from e)
    exact k W1 N
theorem next_ok : ∀ D' σ H, tS X.K (fun ρ => ret (.nx ρ)) D' σ H → tNext D' σ H := by
  rintro D' σ H ⟨W, ρ, rfl, A, sl, f, S', e, k⟩
  obtain ⟨rfl, rfl⟩ := ret_ok e
  exact k W (Nxt.refl A) σ sl
theorem brk_ok : ∀ D' σ H, tS X.K (fun ρ => ret (.bk ρ)) D' σ H → tBreak D' σ H := by
  rintro D' σ H ⟨W, ρ, rfl, A, sl, f, S', e, k⟩
  obtain ⟨rfl, rfl⟩ := ret_ok e
  exact k W (Nxt.refl A) σ sl
theorem cont_ok : ∀ D' σ H, tS X.K (fun ρ => ret (.ct ρ)) D' σ H → tCont D' σ H := by
  rintro D' σ H ⟨W, ρ, rfl, A, sl, f, S', e, k⟩
  obtain ⟨rfl, rfl⟩ := ret_ok e
  exact k W (Nxt.refl A) σ sl
theorem for_ok {mi : Env → M (List D)} (hgk : TgOk X.K g tgD) : ∀ D' σ H, tS X.K (fun ρ => bnd (mi ρ) fun xs => forL tgD sa xs ρ) D' σ H → tFor (tIt X.K mi) g (tS X.K sa) D' σ H := by
  rintro D' σ H ⟨W, ρ, rfl, A, sl, f, S', e, k⟩
  obtain ⟨xs, S1, e1, e⟩ := bnd_ok e
  refine ⟨W, ρ, rfl, A, sl, xs, S1, e1, fun W1 J N wk => ?_⟩
  refine ⟨fun i n σ H => n = xs.length - i ∧ i ≤ xs.length ∧ ∃ (Wi : Wd) (ρi : Env), Wi.H = H ∧ Abs X.K Wi ∧ Ext W1 Wi ∧ Wi.lk = W1.lk ∧ Sl X.K Wi ρi σ ∧ forL tgD sa (xs.drop i) ρi Wi.S = .ok f S',
    ⟨xs.length, by simp, Nat.zero_le _, W1, ρ, rfl, N.ab, Ext.refl _, rfl, sl.ext A N.ext, by rw [N.st]; exact e⟩, ?_⟩
  rintro i n σi H ⟨rfl, hi, Wi, ρi, rfl, Ai, Ei, li, sli, ei⟩
  obtain ⟨w1, w2⟩ := wk Wi Ai Ei.toL i
  by_cases hlt : i < xs.length
  · refine .inr ?_
    obtain ⟨go, yl⟩ := w1 xs[i] (List.getElem?_eq_getElem hlt)
    rw [List.drop_eq_getElem_cons hlt] at ei
    simp only [forL] at ei
    obtain ⟨ρ2, S3, e3, ei⟩ := bnd_ok ei
    obtain ⟨h3, rfl⟩ := opt_ok e3
    obtain ⟨f2, S4, e4, ei⟩ := bnd_ok ei
    refine ⟨go, fun σ' H' => i + 1 ≤ xs.length ∧ ∃ (Wi : Wd) (ρi : Env), Wi.H = H' ∧ Abs X.K Wi ∧ Ext W1 Wi ∧ Wi.lk = W1.lk ∧ Sl X.K Wi ρi σ' ∧ forL tgD sa (xs.drop (i + 1)) ρi Wi.S = .ok f S', fun σ' H' nx => ⟨xs.length - (i + 1), by omega, rfl, nx⟩, fun x H' hy => ?_⟩
    obtain ⟨Wy, rfl, Ny, ry⟩ := yl x H' hy
    refine hgk Wy _ x ρi ρ2 σi _ Ny.ab ry (sli.ext Ai Ny.ext) h3 fun σ2 sl2 _ => ?_
    refine ⟨Wy, ρ2, rfl, Ny.ab, sl2, f2, S4, by rw [Ny.st]; exact e4, fun Wb Nb => ?_⟩
    have lkb : Wb.lk = W1.lk := by rw [Nb.lk, Ny.lk, li]
    have Eb : Ext W1 Wb := (Ei.trans Ny.ext).trans Nb.ext
    have Nall : ∀ {S''}, Wb.S = S'' → Nxt X.K W S'' Wb := fun h => ⟨h, lkb.trans N.lk, Nb.ab, N.ext.trans Eb⟩
    cases f2 with
    | nx ρ3 => exact fun σ' sl' => ⟨by omega, Wb, ρ3, rfl, Nb.ab, Eb, lkb, sl', by rw [Nb.st]; exact ei⟩
    | ct ρ3 => exact fun σ' sl' => ⟨by omega, Wb, ρ3, rfl, Nb.ab, Eb, lkb, sl', by rw [Nb.st]; exact ei⟩
    | bk ρ3 =>
      obtain ⟨rfl, rfl⟩ := ret_ok (show ret (Fl.nx ρ3) S4 = _ from ei)
      exact k Wb (Nall Nb.st)
    | rt d =>
      obtain ⟨rfl, rfl⟩ := ret_ok (show ret (Fl.rt d) S4 = _ from ei)
      exact k Wb (Nall Nb.st)
  · refine .inl ⟨w2 (by omega), ?_⟩
    rw [List.drop_eq_nil_of_le (by omega)] at ei
    obtain ⟨rfl, hS⟩ := ret_ok (show ret (Fl.nx ρi) Wi.S = _ from ei)
    exact k Wi ⟨hS, li.trans N.lk, Ai, N.ext.trans Ei⟩ σi sli
/-- a list that may change, looked at anew at each turn -/
def StepJ (K : PySem.W.Frag) (J : L2.It) (en : Bool) (c : Nat) (a : Addr) : Prop := ∀ (Wi : Wd), Abs K Wi → Wi.as[c]? = some (a, .lst) → ∀ xs, Wi.S[c]? = some (some xs) → ∀ i : Nat,
  (∀ x, xs[i]? = some x → J.go i Wi.H ∧ ∀ v H', J.yld i Wi.H v H' → ∃ W2, W2.H = H' ∧ Nxt K Wi Wi.S W2 ∧ Rep K W2 (stepA en i x) v) ∧ (xs[i]? = none → J.stop i Wi.H)
theorem cell_at {K : PySem.W.Frag} {Wi : Wd} (A : Abs K Wi) {c : Nat} {a : Addr} (ha : Wi.as[c]? = some (a, .lst)) {xs : List D} (hx : Wi.S[c]? = some (some xs)) : ∃ vs, Wi.H a = some (.lst vs) ∧ Reps K Wi xs vs := by
  obtain ⟨b, kd, ds, us, o, h1, h2, h3, q⟩ := A.cell c xs hx
  rw [ha] at h1
  cases h1
  obtain ⟨rfl, rfl⟩ := h3
  exact ⟨us, h2, q⟩
theorem stepJ_l {K : PySem.W.Frag} {c : Nat} {a : Addr} : StepJ K (Itl K a) false c a := by
  intro Wi A ha xs hx i
  obtain ⟨vs, h1, q⟩ := cell_at A ha hx
  have hl := reps_len _ _ q
  refine ⟨fun x he => ?_, fun he => ⟨vs, SqL.of h1, by rw [List.getElem?_eq_none_iff] at he; omega⟩⟩
  obtain ⟨v, h2, h3⟩ := reps_get _ _ i q x he
  refine ⟨⟨vs, v, SqL.of h1, h2⟩, fun u H' hy => ?_⟩
  obtain ⟨rfl, hy⟩ := hy
  have := hy vs (SqL.of h1)
  rw [h2] at this
  cases this
  exact ⟨Wi, rfl, Nxt.refl A, h3⟩
theorem stepJ_e {K : PySem.W.Frag} {c : Nat} {a : Addr} : StepJ K (Ite K a) true c a := by
  intro Wi A ha xs hx i
  obtain ⟨vs, h1, q⟩ := cell_at A ha hx
  have hl := reps_len _ _ q
  refine ⟨fun x he => ?_, fun he => ⟨vs, SqL.of h1, by rw [List.getElem?_eq_none_iff] at he; omega⟩⟩
  obtain ⟨v, h2, h3⟩ := reps_get _ _ i q x he
  refine ⟨⟨vs, v, SqL.of h1, h2⟩, fun u H' hy => ?_⟩
  obtain ⟨T, y, rfl, hT, rfl, hy⟩ := hy
  have := hy vs (SqL.of h1)
  rw [h2] at this
  cases this
  obtain ⟨N, r⟩ := new_tup A hT (ds := [.int (i : Nat), x]) (vs := [.int (i : Nat), v]) (by simp only [Reps, Rep]; exact ⟨_, _, rfl, rfl, _, _, rfl, h3, rfl⟩)
  exact ⟨_, rfl, N, r⟩
theorem forR_ok (hgk : TgOk X.K g tgD) {en : Bool} {c : Nat} {a : Addr} {J : L2.It} (hJ : StepJ X.K J en c a) {W1 : Wd} (A1 : Abs X.K W1) (ha : W1.as[c]? = some (a, .lst)) {ρ : Env} {σ : L2.St} (sl : Sl X.K W1 ρ σ) {D' : Ends} {f : Fl} {S' : Sto} {n : Nat}
    (e : forR tgD sa en c n 0 ρ W1.S = .ok f S') (k : ∀ W', Nxt X.K W1 S' W' → FlOk X.K D' f W') : ∃ Wm : Nat → Nat → L2.St → Hp → Prop, (∃ m, Wm 0 m σ W1.H) ∧ ∀ i m σ H, Wm i m σ H →
      (J.stop i H ∧ D'.nx σ H) ∨ (J.go i H ∧ ∃ N : L2.St → Hp → Prop, (∀ σ' H', N σ' H' → ∃ m', m' < m ∧ Wm (i + 1) m' σ' H') ∧ ∀ x H', J.yld i H x H' → g x σ H' fun σ2 H2 => tS X.K sa { D' with nx := N, ct := N, bk := D'.nx } σ2 H2) := by
  refine ⟨fun i m σ H => ∃ (Wi : Wd) (ρi : Env), Wi.H = H ∧ Abs X.K Wi ∧ Ext W1 Wi ∧ Wi.lk = W1.lk ∧ Sl X.K Wi ρi σ ∧ forR tgD sa en c m i ρi Wi.S = .ok f S', ⟨n, W1, ρ, rfl, A1, Ext.refl _, rfl, sl, e⟩, ?_⟩
  rintro i m σi H ⟨Wi, ρi, rfl, Ai, Ei, li, sli, ei⟩
  cases m with
  | zero => cases ei
  | succ m =>
    simp only [forR] at ei
    obtain ⟨xs, S2, e2, ei⟩ := bnd_ok ei
    have hx : Wi.S[c]? = some (some xs) ∧ S2 = Wi.S := by
      unfold getC at e2
      split at e2
      · rename_i ys h
        cases e2
        exact ⟨h, rfl⟩
      · cases e2
    obtain ⟨hx, rfl⟩ := hx
    obtain ⟨w1, w2⟩ := hJ Wi Ai (Ei.pre _ _ ha) xs hx i
    cases hq : xs[i]? with
    | none =>
      rw [hq] at ei
      obtain ⟨rfl, hS⟩ := ret_ok (show ret (Fl.nx ρi) Wi.S = _ from ei)
      exact .inl ⟨w2 hq, k Wi ⟨hS, li, Ai, Ei⟩ σi sli⟩
    | some x =>
      rw [hq] at ei
      refine .inr ?_
      obtain ⟨go, yl⟩ := w1 x hq
      simp only [] at ei
      obtain ⟨ρ2, S3, e3, ei⟩ := bnd_ok ei
      obtain ⟨h3, rfl⟩ := opt_ok e3
      obtain ⟨f2, S4, e4, ei⟩ := bnd_ok ei
      refine ⟨go, fun σ' H' => ∃ (Wi : Wd) (ρi : Env), Wi.H = H' ∧ Abs X.K Wi ∧ Ext W1 Wi ∧ Wi.lk = W1.lk ∧ Sl X.K Wi ρi σ' ∧ forR tgD sa en c m (i + 1) ρi Wi.S = .ok f S', fun σ' H' nx => ⟨m, by omega, nx⟩, fun v H' hy => ?_⟩
      obtain ⟨Wy, rfl, Ny, ry⟩ := yl v H' hy
      refine hgk Wy _ v ρi ρ2 σi _ Ny.ab ry (sli.ext Ai Ny.ext) h3 fun σ2 sl2 _ => ?_
      refine ⟨Wy, ρ2, rfl, Ny.ab, sl2, f2, S4, by rw [Ny.st]; exact e4, fun Wb Nb => ?_⟩
      have lkb : Wb.lk = W1.lk := by rw [Nb.lk, Ny.lk, li]
      have Eb : Ext W1 Wb := (Ei.trans Ny.ext).trans Nb.ext
      have Nall : ∀ {S''}, Wb.S = S'' → Nxt X.K W1 S'' Wb := fun h => ⟨h, lkb, Nb.ab, Eb⟩
      cases f2 with
      | nx ρ3 => exact fun σ' sl' => ⟨Wb, ρ3, rfl, Nb.ab, Eb, lkb, sl', by rw [Nb.st]; exact ei⟩
      | ct ρ3 => exact fun σ' sl' => ⟨Wb, ρ3, rfl, Nb.ab, Eb, lkb, sl', by rw [Nb.st]; exact ei⟩
      | bk ρ3 =>
        obtain ⟨rfl, rfl⟩ := ret_ok (show ret (Fl.nx ρ3) S4 = _ from ei)
        exact k Wb (Nall Nb.st)
      | rt d =>
        obtain ⟨rfl, rfl⟩ := ret_ok (show ret (Fl.rt d) S4 = _ from ei)
        exact k Wb (Nall Nb.st)
theorem forR_cell {c n : Nat} {ρ : Env} {en : Bool} {S S' : Sto} {f : Fl} (e : forR tgD sa en c n 0 ρ S = .ok f S') : ∃ xs, S[c]? = some (some xs) := by
  cases n with
  | zero => cases e
  | succ n =>
    simp only [forR] at e
    obtain ⟨xs, S2, e2, _⟩ := bnd_ok e
    unfold getC at e2
    split at e2
    · rename_i ys h
      exact ⟨ys, h⟩
    · cases e2
theorem forA_ok {n : Nat} (hgk : TgOk X.K g tgD) : ∀ D' σ H, tS X.K (fun ρ => bnd (ma ρ) fun x => forAD tgD sa false n x ρ) D' σ H → tFor (fun σ H R => iTup X.K (tI X.K ma) σ H R ∨ iList X.K (tI X.K ma) σ H R) g (tS X.K sa) D' σ H := by
  rintro D' σ H ⟨W, ρ, rfl, A, sl, f, S', e, k⟩
  obtain ⟨x, S1, e1, e⟩ := bnd_ok e
  cases x with
  | tup xs => exact seq_w (for_ok hgk D' σ W.H ⟨W, ρ, rfl, A, sl, f, S', bnd_mk (bnd_mk e1 rfl) e, k⟩)
  | lst xs => exact seq_w (for_ok hgk D' σ W.H ⟨W, ρ, rfl, A, sl, f, S', bnd_mk (bnd_mk e1 rfl) e, k⟩)
  | ref c =>
    refine .inr ⟨W, ρ, rfl, A, sl, .ref c, S1, e1, fun W1 v N r => ?_⟩
    have e : forR tgD sa false c n 0 ρ W1.S = .ok f S' := by rw [N.st]; exact e
    simp only [Rep] at r
    obtain ⟨a, rfl, ha⟩ := r
    obtain ⟨xs, hx⟩ := forR_cell e
    obtain ⟨vs, h1, _⟩ := cell_at N.ab ha hx
    exact ⟨a, rfl, ⟨vs, SqL.of h1⟩, forR_ok hgk stepJ_l N.ab ha (sl.ext A N.ext) e fun W' N' => k W' (N.trans N')⟩
  | _ => cases e
theorem forAE_ok {n : Nat} (hgk : TgOk X.K g tgD) : ∀ D' σ H, tS X.K (fun ρ => bnd (ma ρ) fun x => forAD tgD sa true n x ρ) D' σ H → tFor (fun σ H R => iEnumT X.K (tAs X.K fun ρ => bnd (ma ρ) fun x => bnd (ret []) fun xs => ret (x :: xs)) σ H R ∨ iEnum X.K (tAs X.K fun ρ => bnd (ma ρ) fun x => bnd (ret []) fun xs => ret (x :: xs)) σ H R) g (tS X.K sa) D' σ H := by
  rintro D' σ H ⟨W, ρ, rfl, A, sl, f, S', e, k⟩
  obtain ⟨x, S1, e1, e⟩ := bnd_ok e
  cases x with
  | tup xs => exact enm_w (for_ok hgk D' σ W.H ⟨W, ρ, rfl, A, sl, f, S', bnd_mk (bnd_mk e1 rfl) e, k⟩)
  | lst xs => exact enm_w (for_ok hgk D' σ W.H ⟨W, ρ, rfl, A, sl, f, S', bnd_mk (bnd_mk e1 rfl) e, k⟩)
  | ref c =>
    refine .inr ⟨W, ρ, rfl, A, sl, [.ref c], S1, bnd_mk e1 rfl, fun W1 vs N r => ?_⟩
    have e : forR tgD sa true c n 0 ρ W1.S = .ok f S' := by rw [N.st]; exact e
    obtain ⟨v, rfl, r1⟩ := reps1 r
    simp only [Rep] at r1
    obtain ⟨a, rfl, ha⟩ := r1
    obtain ⟨xs, hx⟩ := forR_cell e
    obtain ⟨vs, h1, _⟩ := cell_at N.ab ha hx
    exact ⟨a, vs, rfl, SqL.of h1, forR_ok hgk stepJ_e N.ab ha (sl.ext A N.ext) e fun W' N' => k W' (N.trans N')⟩
  | _ => cases e
theorem lcA_ok {K : PySem.W.Frag} {m : Bool} {own : List Nat} {tgD : Tg} {g : TG} {ma : Env → M D} {mc : Env → M Bool} {me : Env → M D} (hgk : TgOk K g tgD) (hsub : ∀ i ∈ tgs tgD, i ∈ own) : ∀ σ H Q,
    tI K (fun ρ => bnd (ma ρ) fun x => lcAD m me tgD mc (wipeD ρ own) x) σ H Q → tLc (fun σ H R => iTup K (tI K ma) σ H R ∨ iList K (tI K ma) σ H R) g (tT K mc) (tI K me) own σ H Q := by
  rintro σ H Q ⟨W, ρ, rfl, A, sl, d, S', e, k⟩
  obtain ⟨x, S1, e1, e⟩ := bnd_ok e
  cases x with
  | tup xs => exact seq_w (lc_ok hgk hsub σ W.H Q ⟨W, ρ, rfl, A, sl, d, S', bnd_mk (bnd_mk e1 rfl) e, k⟩)
  | lst xs => exact seq_w (lc_ok hgk hsub σ W.H Q ⟨W, ρ, rfl, A, sl, d, S', bnd_mk (bnd_mk e1 rfl) e, k⟩)
  | ref c =>
    obtain ⟨ys, S2, e2, e⟩ := bnd_ok (show bnd (lcR me tgD mc (wipeD ρ own) c 1000000 0 []) (fun ys => mkL m ys) S1 = _ from e)
    generalize 1000000 = fuel at e2
    refine .inr ⟨W, ρ, rfl, A, sl, .ref c, S1, e1, fun W1 v N r => ?_⟩
    rw [← N.st] at e2
    simp only [Rep] at r
    obtain ⟨a, rfl, ha⟩ := r
    have hx0 : ∃ xs, W1.S[c]? = some (some xs) := by
      cases fuel with
      | zero => cases e2
      | succ n =>
        simp only [lcR] at e2
        obtain ⟨xs, S3, e3, _⟩ := bnd_ok e2
        unfold getC at e3
        split at e3
        · rename_i ys h
          exact ⟨ys, h⟩
        · cases e3
    obtain ⟨xs0, hx0⟩ := hx0
    obtain ⟨vs0, h10, _⟩ := cell_at N.ab ha hx0
    refine ⟨a, rfl, ⟨vs0, SqL.of h10⟩, fun p hp => ?_⟩
    refine ⟨fun i n H => ∃ (Wi : Wd) (acc : List D) (us : List V), Wi.H = H ∧ Abs K Wi ∧ Ext W1 Wi ∧ Wi.lk = (fun a => a = p ∨ W1.lk a) ∧ H p = some (.lst us) ∧ Reps K Wi acc us ∧ lcR me tgD mc (wipeD ρ own) c n i acc Wi.S = .ok ys S2, ⟨fuel, ?_⟩, ?_⟩
    · obtain ⟨A2, E2⟩ := res_start N.ab hp
      exact ⟨_, [], [], rfl, A2, E2, rfl, upd_same, by simp only [Reps], e2⟩
    · rintro i n H ⟨Wi, acc, us, rfl, Ai, Ei, li, hpi, ri, ei⟩
      cases n with
      | zero => cases ei
      | succ n =>
        simp only [lcR] at ei
        obtain ⟨xs, S3, e3, ei⟩ := bnd_ok ei
        have hx : Wi.S[c]? = some (some xs) ∧ S3 = Wi.S := by
          unfold getC at e3
          split at e3
          · rename_i ys h
            cases e3
            exact ⟨h, rfl⟩
          · cases e3
        obtain ⟨hx, rfl⟩ := hx
        obtain ⟨w1, w2⟩ := (stepJ_l (K := K) (c := c) (a := a)) Wi Ai (Ei.pre _ _ ha) xs hx i
        cases hq : xs[i]? with
        | none =>
          rw [hq] at ei
          obtain ⟨rfl, rfl⟩ := ret_ok (show ret acc Wi.S = _ from ei)
          obtain ⟨Wz, hz, Nz, rz⟩ := res_done (m := m) N.ab hp Ai Ei li hpi ri e
          refine .inl ⟨w2 hq, ?_⟩
          rw [← hz]
          exact k Wz _ ⟨Nz.st, Nz.lk.trans N.lk, Nz.ab, N.ext.trans Nz.ext⟩ rz
        | some x =>
          rw [hq] at ei
          simp only [] at ei
          refine .inr ?_
          obtain ⟨go, yl⟩ := w1 x hq
          obtain ⟨ρ2, S3, e3, ei⟩ := bnd_ok ei
          obtain ⟨h3, rfl⟩ := opt_ok e3
          refine ⟨go, fun H' => ∃ (Wi : Wd) (acc : List D) (us : List V), Wi.H = H' ∧ Abs K Wi ∧ Ext W1 Wi ∧ Wi.lk = (fun a => a = p ∨ W1.lk a) ∧ H' p = some (.lst us) ∧ Reps K Wi acc us ∧ lcR me tgD mc (wipeD ρ own) c n (i + 1) acc Wi.S = .ok ys S2, fun H' nx => ⟨n, by omega, nx⟩, fun v H' hy => ?_⟩
          obtain ⟨Wy, rfl, Ny, ry⟩ := yl v H' hy
          have slw : Sl K Wy (wipeD ρ own) (wipe σ own) := ((sl.wipe own).ext A (N.ext.trans Ei)).ext Ai Ny.ext
          refine hgk Wy _ v (wipeD ρ own) ρ2 (wipe σ own) _ Ny.ab ry slw h3 fun σ2 sl2 hw => ⟨by rw [hw own hsub, wipe_wipe], ?_⟩
          obtain ⟨kk, S4, e4, ei⟩ := bnd_ok ei
          have lkp : Wy.lk p := by rw [Ny.lk, li]; exact .inl rfl
          have hpy : Wy.H p = some (.lst us) := (Ny.ext.keep p _ hpi (Ai.res p (by rw [li]; exact .inl rfl)).2).1
          refine ⟨Wy, ρ2, rfl, Ny.ab, sl2, kk, S4, by rw [Ny.st]; exact e4, fun Wc Nc => ?_⟩
          have hpc : Wc.H p = some (.lst us) := (Nc.ext.keep p _ hpy (Ny.ab.res p lkp).2).1
          have lkc : Wc.lk = fun a => a = p ∨ W1.lk a := by rw [Nc.lk, Ny.lk, li]
          cases kk with
          | true =>
            simp only [if_true] at ei ⊢
            obtain ⟨y, S5, e5, ei⟩ := bnd_ok ei
            obtain ⟨sm, ei⟩ := need_ok ei
            refine ⟨Wc, ρ2, rfl, Nc.ab, sl2.ext Ny.ab Nc.ext, y, S5, by rw [Nc.st]; exact e5, fun We u Ne re => ?_⟩
            have lke : We.lk = fun a => a = p ∨ W1.lk a := by rw [Ne.lk, lkc]
            have lkep : We.lk p := by rw [lke]; exact .inl rfl
            have hpe : We.H p = some (.lst us) := (Ne.ext.keep p _ hpc (Nc.ab.res p (by rw [lkc]; exact .inl rfl)).2).1
            have rae := Reps.ext Ai ((Ny.ext.trans Nc.ext).trans Ne.ext) _ _ ri
            refine ⟨us, hpe, ?_, { We with H := upd We.H p (.lst (us ++ [u])) }, acc ++ [y], us ++ [u], rfl, res_upd Ne.ab lkep _, ?_, lke, upd_same, Reps.upd Ne.ab lkep _ _ _ (reps_app _ _ _ _ rae (reps_one re)), ?_⟩
            · rw [reps_len _ _ ri]
              have := small_le sm
              exact Nat.lt_of_lt_of_le (Nat.lt_succ_self _) (line_1M (by omega))
            · refine ⟨fun b o h nn => ?_, fun kx a h => (((Ei.trans Ny.ext).trans Nc.ext).trans Ne.ext).pre kx a h⟩
              obtain ⟨h1, h2, h3⟩ := (((Ei.trans Ny.ext).trans Nc.ext).trans Ne.ext).keep b o h nn
              refine ⟨?_, h2, h3⟩
              show upd We.H p _ b = some o
              rw [upd_ne (ne_of_none h hp)]
              exact h1
            · show lcR me tgD mc (wipeD ρ own) c n (i + 1) (acc ++ [y]) We.S = _
              rw [Ne.st]
              exact ei
          | false =>
            simp only [Bool.false_eq_true, if_false] at ei ⊢
            exact ⟨Wc, acc, us, rfl, Nc.ab, (Ei.trans Ny.ext).trans Nc.ext, lkc, hpc, Reps.ext Ai (Ny.ext.trans Nc.ext) _ _ ri, by rw [Nc.st]; exact ei⟩
  | _ => cases e
theorem while_ok {fu : Nat} : ∀ D' σ H, tS X.K (fun ρ => whL nc sa fu ρ) D' σ H → tWhile (tT X.K nc) (tS X.K sa) D' σ H := by
  rintro D' σ H ⟨W, ρ, rfl, A, sl, f, S', e, k⟩
  refine ⟨fun n σ H => ∃ (Wi : Wd) (ρi : Env), Wi.H = H ∧ Abs X.K Wi ∧ Ext W Wi ∧ Wi.lk = W.lk ∧ Sl X.K Wi ρi σ ∧ whL nc sa n ρi Wi.S = .ok f S',
    ⟨fu, W, ρ, rfl, A, Ext.refl _, rfl, sl, e⟩, ?_⟩
  rintro n σi H ⟨Wi, ρi, rfl, Ai, Ei, li, sli, ei⟩
  cases n with
  | zero => cases ei
  | succ n =>
    simp only [whL] at ei
    obtain ⟨kk, S2, e2, ei⟩ := bnd_ok ei
    refine ⟨Wi, ρi, rfl, Ai, sli, kk, S2, e2, fun W2 N2 => ?_⟩
    have E2 := Ei.trans N2.ext
    have l2 : W2.lk = W.lk := by rw [N2.lk, li]
    cases kk with
    | true =>
      simp only [if_true] at ei ⊢
      obtain ⟨f2, S4, e4, ei⟩ := bnd_ok ei
      refine ⟨fun σ' H' => ∃ (Wi : Wd) (ρi : Env), Wi.H = H' ∧ Abs X.K Wi ∧ Ext W Wi ∧ Wi.lk = W.lk ∧ Sl X.K Wi ρi σ' ∧ whL nc sa n ρi Wi.S = .ok f S', fun σ' H' nx => ⟨n, by omega, nx⟩, ?_⟩
      refine ⟨W2, ρi, rfl, N2.ab, sli.ext Ai N2.ext, f2, S4, by rw [N2.st]; exact e4, fun Wb Nb => ?_⟩
      have lkb : Wb.lk = W.lk := by rw [Nb.lk, l2]
      have Eb := E2.trans Nb.ext
      have Nall : ∀ {S''}, Wb.S = S'' → Nxt X.K W S'' Wb := fun h => ⟨h, lkb, Nb.ab, Eb⟩
      cases f2 with
      | nx ρ3 => exact fun σ' sl' => ⟨Wb, ρ3, rfl, Nb.ab, Eb, lkb, sl', by rw [Nb.st]; exact ei⟩
      | ct ρ3 => exact fun σ' sl' => ⟨Wb, ρ3, rfl, Nb.ab, Eb, lkb, sl', by rw [Nb.st]; exact ei⟩
      | bk ρ3 =>
        obtain ⟨rfl, rfl⟩ := ret_ok (show ret (Fl.nx ρ3) S4 = _ from ei)
        exact k Wb (Nall Nb.st)
      | rt d =>
        obtain ⟨rfl, rfl⟩ := ret_ok (show ret (Fl.rt d) S4 = _ from ei)
        exact k Wb (Nall Nb.st)
    | false =>
      simp only [Bool.false_eq_true, if_false] at ei ⊢
      obtain ⟨rfl, hS⟩ := ret_ok ei
      exact k W2 ⟨N2.st.trans hS, l2, N2.ab, E2⟩ σi (sli.ext Ai N2.ext)
end
end AG
namespace AG
open PySem PySem.Spec PyProof.Rows L2 PpSet
theorem ints_all : ∀ (xs : List D) (ns : List Int), intsOf xs = some ns → xs = ns.map D.int
  | [], ns, e => by simp only [intsOf, Option.some.injEq] at e; subst e; rfl
  | x :: xs, ns, e => by
    cases x with
    | int i =>
      simp only [intsOf] at e
      cases q : intsOf xs with
      | none => rw [q] at e; cases e
      | some l =>
        rw [q] at e
        cases e
        rw [ints_all xs l q]
        rfl
    | _ => simp only [intsOf] at e; cases e
theorem setD_ok {ys : List D} {S S' : Sto} {d : D} (e : setD ys S = .ok d S') : S' = S ∧ ∃ ns : List Int, ys = ns.map D.int ∧ ns.length ≤ 1000 ∧ d = .set ns := by
  unfold setD at e
  cases q : intsOf ys with
  | none => rw [q] at e; cases e
  | some ns =>
    rw [q] at e
    obtain ⟨c, e⟩ := need_ok e
    obtain ⟨e1, e2⟩ := ret_ok e
    exact ⟨e2.symm, ns, ints_all _ _ q, of_decide_eq_true c, e1.symm⟩
/-- what is made stands behind what was there -/
theorem lcL_pre {me : Env → M D} {tg : Tg} {mc : Env → M Bool} {ρ : Env} : ∀ (xs acc ys : List D) (S S' : Sto), lcL me tg mc ρ xs acc S = .ok ys S' → ∃ zs, ys = acc ++ zs
  | [], acc, ys, S, S', e => by
    obtain ⟨e1, _⟩ := ret_ok (show ret acc S = _ from e)
    exact ⟨[], by rw [← e1, List.append_nil]⟩
  | x :: xs, acc, ys, S, S', e => by
    simp only [lcL] at e
    obtain ⟨ρ2, S1, _, e⟩ := bnd_ok e
    obtain ⟨k, S2, _, e⟩ := bnd_ok e
    cases k with
    | true =>
      simp only [if_true] at e
      obtain ⟨y, S3, _, e⟩ := bnd_ok e
      obtain ⟨_, e⟩ := need_ok e
      obtain ⟨zs, h⟩ := lcL_pre xs _ ys _ _ e
      exact ⟨y :: zs, by rw [h, List.append_assoc]; rfl⟩
    | false =>
      simp only [Bool.false_eq_true, if_false] at e
      exact lcL_pre xs _ ys _ _ e
theorem map_pre : ∀ (acc zs : List D) (ns : List Int), acc ++ zs = ns.map D.int → ∃ n1 n2, ns = n1 ++ n2 ∧ acc = n1.map D.int ∧ zs = n2.map D.int
  | [], zs, ns, e => ⟨[], ns, rfl, rfl, e⟩
  | a :: acc, zs, ns, e => by
    cases ns with
    | nil => cases e
    | cons n ns =>
      rw [List.cons_append, List.map_cons] at e
      injection e with e1 e2
      obtain ⟨n1, n2, h1, h2, h3⟩ := map_pre acc zs ns e2
      exact ⟨n :: n1, n2, by rw [h1]; rfl, by rw [e1, h2]; rfl, h3⟩
theorem si_ok {K : PySem.W.Frag} {w : World} {own : List Nat} {tgD : Tg} {g : TG} {mi : Env → M (List D)} {me : Env → M D} (hgk : TgOk K g tgD) (hsub : ∀ i ∈ tgs tgD, i ∈ own) : ∀ σ H Q,
    tI K (fun ρ => bnd (mi ρ) fun xs => bnd (lcL me tgD (fun _ => ret true) (wipeD ρ own) xs []) setD) σ H Q → tSi w (tIt K mi) g (tI K me) own σ H Q := by
  rintro σ H Q ⟨W, ρ, rfl, A, sl, d, S', e, k⟩
  obtain ⟨xs, S1, e1, e⟩ := bnd_ok e
  obtain ⟨ys, S2, e2, e⟩ := bnd_ok e
  obtain ⟨rfl, ns, rfl, hns, rfl⟩ := setD_ok e
  refine ⟨W, ρ, rfl, A, sl, xs, S1, e1, fun W1 J N wk qD hD => ?_⟩
  rw [← N.st] at e2
  refine ⟨fun i n H => n = xs.length - i ∧ i ≤ xs.length ∧ ∃ (Wi : Wd) (n1 : List Int) (m : Nat), Wi.H = H ∧ Abs K Wi ∧ Ext W1 Wi ∧ Wi.lk = W1.lk ∧ H qD = some (SetO w qD (fun j => decide (j ∈ n1)) m) ∧ m ≤ n1.length ∧ lcL me tgD (fun _ => ret true) (wipeD ρ own) (xs.drop i) (n1.map D.int) Wi.S = .ok (ns.map D.int) S', ⟨xs.length, ?_⟩, ?_⟩
  · obtain ⟨N2, _, _⟩ := new_obj N.ab hD (SetO w qD (fun _ => false) 0)
    refine ⟨by simp, Nat.zero_le _, _, [], 0, rfl, N2.ab, N2.ext, rfl, ?_, Nat.le_refl _, e2⟩
    show upd W1.H qD _ qD = _
    rw [upd_same]
    congr 1
  · rintro i n H ⟨rfl, hi, Wi, n1, m, rfl, Ai, Ei, li, hDi, hm, ei⟩
    obtain ⟨w1, w2⟩ := wk Wi Ai Ei.toL i
    by_cases hlt : i < xs.length
    · refine .inr ?_
      obtain ⟨go, yl⟩ := w1 xs[i] (List.getElem?_eq_getElem hlt)
      rw [List.drop_eq_getElem_cons hlt] at ei
      simp only [lcL] at ei
      obtain ⟨ρ2, S3, e3, ei⟩ := bnd_ok ei
      obtain ⟨h3, rfl⟩ := opt_ok e3
      refine ⟨go, fun H' => i + 1 ≤ xs.length ∧ ∃ (Wi : Wd) (n1 : List Int) (m : Nat), Wi.H = H' ∧ Abs K Wi ∧ Ext W1 Wi ∧ Wi.lk = W1.lk ∧ H' qD = some (SetO w qD (fun j => decide (j ∈ n1)) m) ∧ m ≤ n1.length ∧ lcL me tgD (fun _ => ret true) (wipeD ρ own) (xs.drop (i + 1)) (n1.map D.int) Wi.S = .ok (ns.map D.int) S', fun H' nx => ⟨xs.length - (i + 1), by omega, rfl, nx⟩, fun x H' hy => ?_⟩
      obtain ⟨Wy, rfl, Ny, ry⟩ := yl x H' hy
      have slw : Sl K Wy (wipeD ρ own) (wipe σ own) := ((sl.wipe own).ext A (N.ext.trans Ei)).ext Ai Ny.ext |> fun z => z
      refine hgk Wy _ x (wipeD ρ own) ρ2 (wipe σ own) _ Ny.ab ry slw h3 fun σ2 sl2 hw => ⟨by rw [hw own hsub, wipe_wipe], ?_⟩
      obtain ⟨kk, S4, e4, ei⟩ := bnd_ok ei
      obtain ⟨rfl, rfl⟩ := ret_ok e4
      simp only [if_true] at ei
      obtain ⟨y, S5, e5, ei⟩ := bnd_ok ei
      obtain ⟨sm, ei⟩ := need_ok ei
      have hDy : Wy.H qD = some (SetO w qD (fun j => decide (j ∈ n1)) m) := (Ny.ext.keep qD _ hDi (Ai.nolive hDi (fun z => z))).1
      refine ⟨Wy, ρ2, rfl, Ny.ab, sl2, y, S5, by rw [Ny.st]; exact e5, fun We v Ne re => ?_⟩
      have hDe : We.H qD = some (SetO w qD (fun j => decide (j ∈ n1)) m) := (Ne.ext.keep qD _ hDy (Ny.ab.nolive hDy (fun z => z))).1
      obtain ⟨zs, hz⟩ := lcL_pre _ _ _ _ _ ei
      obtain ⟨n2, n3, hn, hn2, _⟩ := map_pre _ _ _ hz.symm
      have hn2 : n1.map D.int ++ [y] = n2.map D.int := hn2
      obtain ⟨n4, n5, hn4, hn5, hn6⟩ := map_pre _ _ _ hn2
      have e4 : n4 = n1 := by
        have inj : ∀ (a b : List Int), a.map D.int = b.map D.int → a = b := by
          intro a
          induction a with
          | nil => intro b h; cases b with
            | nil => rfl
            | cons _ _ => cases h
          | cons x a ih => intro b h; cases b with
            | nil => cases h
            | cons z b =>
              rw [List.map_cons, List.map_cons] at h
              injection h with h1 h2
              injection h1 with h1
              rw [h1, ih b h2]
        exact (inj _ _ hn5).symm
      subst e4
      obtain ⟨c, rfl⟩ : ∃ c, n5 = [c] := by
        cases n5 with
        | nil => cases hn6
        | cons c r => cases r with
          | nil => exact ⟨c, rfl⟩
          | cons _ _ => cases hn6
      have hy : y = D.int c := by
        have : [y] = [D.int c] := hn6
        injection this
      subst hy
      have hl : n4.length + 1 ≤ 1000 := by
        have h1 : n2.length = n4.length + 1 := by rw [hn4]; simp
        have h2 : ns.length = n2.length + n3.length := by rw [hn]; simp
        omega
      rw [rep_int re]
      refine ⟨c, fun j => decide (j ∈ n4), m, rfl, hDe, by unfold scanBound; omega, by omega, { We with H := upd We.H qD (SetO w qD (fun j => decide (j ∈ n4) || decide (j = c)) (if decide (c ∈ n4) = true then m else m + 1)) }, n4 ++ [c], (if decide (c ∈ n4) = true then m else m + 1), rfl, abs_updE Ne.ab hDe _, ?_, by rw [show ({ We with H := upd We.H qD (SetO w qD (fun j => decide (j ∈ n4) || decide (j = c)) (if decide (c ∈ n4) = true then m else m + 1)) } : Wd).lk = We.lk from rfl, Ne.lk, Ny.lk, li], ?_, ?_, ?_⟩
      · refine ⟨fun b o h nn => ?_, fun kx a h => ((Ei.trans Ny.ext).trans Ne.ext).pre kx a h⟩
        obtain ⟨h1, h2, h3⟩ := ((Ei.trans Ny.ext).trans Ne.ext).keep b o h nn
        refine ⟨?_, h2, h3⟩
        show upd We.H qD _ b = some o
        rw [upd_ne (ne_of_none h hD)]
        exact h1
      · rw [upd_same]
        congr 2
        funext j
        simp
      · rw [List.length_append, List.length_singleton]
        split <;> omega
      · show lcL me tgD (fun _ => ret true) (wipeD ρ own) (xs.drop (i + 1)) ((n4 ++ [c]).map D.int) We.S = _
        rw [Ne.st, List.map_append]
        exact ei
    · refine .inl ⟨w2 (by omega), ?_⟩
      rw [List.drop_eq_nil_of_le (by omega)] at ei
      obtain ⟨q1, rfl⟩ := ret_ok (show ret _ Wi.S = _ from ei)
      have q2 : n1 = ns := by
        have inj : ∀ (a b : List Int), a.map D.int = b.map D.int → a = b := by
          intro a
          induction a with
          | nil => intro b h; cases b with
            | nil => rfl
            | cons _ _ => cases h
          | cons x a ih => intro b h; cases b with
            | nil => cases h
            | cons z b =>
              rw [List.map_cons, List.map_cons] at h
              injection h with h1 h2
              injection h1 with h1
              rw [h1, ih b h2]
        exact inj _ _ q1
      subst q2
      refine ⟨fun j => decide (j ∈ n1), m, hDi, ?_⟩
      refine k { Wi with H := upd Wi.H qD (.set (fun j => decide (j ∈ n1)) m) } (.ref qD) ⟨rfl, ?_, abs_updE Ai hDi _, ?_⟩ ?_
      · show Wi.lk = W.lk
        rw [li, N.lk]
      · refine ⟨fun b o h nn => ?_, fun kx a h => (N.ext.trans Ei).pre kx a h⟩
        obtain ⟨h1, h2, h3⟩ := (N.ext.trans Ei).keep b o h nn
        refine ⟨?_, h2, h3⟩
        show upd Wi.H qD _ b = some o
        have hb : W1.H b = some o := (N.ext.keep b o h nn).1
        rw [upd_ne (ne_of_none hb hD)]
        exact h1
      · simp only [Rep]
        exact ⟨qD, m, rfl, upd_same⟩
end AG
namespace AG
open PySem PySem.Spec PyProof.Rows L2
/-! ### a def's word, where no text is being shown further out -/
structure FnG (P : Program) (w : World) (K : PySem.W.Frag) (mg : Str → Option Value) (base : Heap) (k : Nat) (f : Addr) (fd : FuncData) (ps : List Str) (sp : Sp) : Prop where
  arity : ∀ vs H Q E, sp vs H Q E → vs.length = ps.length
  go : ∀ (A : Around) (outer : List PySem.Env) (s : Shared) (H : Hp) (args : Args) (us : List Value) (vs : List V) (Q : VK) (E : XK),
    A.guards = some [] → Room k A → Env0 P w K mg base A outer s H → BindsTo s fd args (ps.zip us) → Vals vs us → sp vs H Q E →
    codeAny (model P w) A (.call (.ref f) args) (CR (L2.CX P w) outer P w H s Q E) s
theorem FnG.up {P : Program} {w : World} {K : PySem.W.Frag} {mg : Str → Option Value} {base : Heap} {j k : Nat} {f : Addr} {fd : FuncData} {ps : List Str} {sp : Sp} (F : FnG P w K mg base j f fd ps sp) (h : j ≤ k) : FnG P w K mg base k f fd ps sp :=
  ⟨F.arity, fun A outer s H args us vs Q E g r => F.go A outer s H args us vs Q E g (r.mono h)⟩
/-- a def as it is called by so many written values: what is bound, and its defaults, is behind -/
structure FnW (P : Program) (w : World) (K : PySem.W.Frag) (mg : Str → Option Value) (base : Heap) (k : Nat) (f : Addr) (sp : Sp) : Prop where
  go : ∀ (A : Around) (outer : List PySem.Env) (s : Shared) (H : Hp) (us : List Value) (vs : List V) (Q : VK) (E : XK),
    A.guards = some [] → Room k A → Env0 P w K mg base A outer s H → K.In s.heap → Vals vs us → sp vs H Q E →
    codeAny (model P w) A (.call (.ref f) ⟨us, []⟩) (CR (L2.CX P w) outer P w H s Q E) s
theorem FnG.word {P : Program} {w : World} {K : PySem.W.Frag} {mg : Str → Option Value} {base : Heap} {k : Nat} {f : Addr} {fd : FuncData} {ps : List Str} {sp sp' : Sp} {es : List Value} {des : List V} (F : FnG P w K mg base k f fd ps sp) (hb : Binds K fd ps es) (hd : Vals des es)
    (h : ∀ vs H Q E, sp' vs H Q E → sp (vs ++ des) H Q E) : FnW P w K mg base k f sp' :=
  ⟨fun A outer s H us vs Q E g r e kin rv hq => F.go A outer s H ⟨us, []⟩ (us ++ es) (vs ++ des) Q E g r e (hb s us kin (by rw [← (rv.append hd).length]; exact F.arity _ _ _ _ (h _ _ _ _ hq))) (rv.append hd) (h _ _ _ _ hq)⟩
structure FunA (K : PySem.W.Frag) (x qual : Str) (st : Stmt) (f : Addr) (fd : FuncData) : Prop where
  ex : ∃ (oc : Value) (od : Option Addr) (dV kV doc pm : Value) (an : Option Addr) (cdv ct : Value) (osl : Array (Option Value)),
    fd = PySem.W.fnOf x qual (defArgs st) (defBody st) (defScope st) dV kV doc pm an cdv ct ∧ K.lookup f = some ⟨oc, od, .func fd, osl⟩ ∧ PySem.W.codeIn K cdv qual = true
theorem cx_e0 {P : Program} {w : World} {outer : List PySem.Env} {H : Hp} {s : Shared} {e : Value} {s' : Shared} (h : L2.CX P w outer H s E0 e s') : False := by
  obtain ⟨a, B, H', cls, d, _, _, _, _, _, _, _, q⟩ := h
  exact q
section
variable {X : Cx} {k : Nat} {f : Addr} {sp : Sp} {x : Str} {p pos : Pos} {e : Expr} {es : List Expr} {t : TA}
theorem g_run {pins : List (Addr × Obj)} {σ : L2.St} {H : Hp} {s : Shared} {Q : VK} {us : List Value} {vs : List V} (F : FnW X.prog X.w X.K X.mg X.base k f sp)
    (hg : X.A.guards = some []) (hr : Room k X.A) (I : Inv X pins σ H s) (r : Vals vs us) (h : sp vs H Q E0) :
    wpAny (model X.prog X.w) X.A (call (.ref f) us) (EP X pins σ Q) X.xe s := by
  refine wpAny_call (codeAny_mono (F.go X.A X.stack s H us vs Q E0 hg hr I.env0 I.kIn r h) ?_)
  intro res s' hq
  match res, hq with
  | .error _, hq => exact (cx_e0 hq).elim
  | .ok (.ret u), hq => exact I.after hq
  | .ok .next, hq => exact hq.elim
  | .ok .brk, hq => exact hq.elim
  | .ok .cont, hq => exact hq.elim
def tCallG (sp : Sp) (t : TA) : TE := fun σ H Q => t σ H fun vs H1 => sp vs H1 Q E0
theorem g_call (F : FnW X.prog X.w X.K X.mg X.base k f sp) (hgd : X.A.guards = some []) (hr : Room k X.A) (hg : Gl X x) (hm : X.mg x = some (.ref f))
    (hk : PySem.W.keepIn X.K (.ref f) = true) (ha : PA X (e :: es) t) (hdb : (x == ("__debug__" : Str)) = false)
    (he : starEach (e :: es) X.env = (false, eval e X.env) :: starEach es X.env) (hpl : (backTo pos (starEach es X.env)).any (·.1) = false) :
    PE X (.Call (.Name x p) (e :: es) [] pos) (tCallG sp t) := by
  constructor
  intro pins s σ H Q I h
  apply wpAny_Call_Name_kw
  refine ld_glob I hg hm ?_ hdb
  refine PySem.W.callWith_K (h₀ := X.base) I.ok.mod.kin hk ?_ he hpl
  refine thn (ha.run pos pins s σ H _ I h) ?_
  rintro us s1 ⟨vs, H1, I1, r, q⟩
  exact ⟨I1.kIn, g_run F hgd hr I1 r q⟩
theorem g_call0 (F : FnW X.prog X.w X.K X.mg X.base k f sp) (hgd : X.A.guards = some []) (hr : Room k X.A) (hg : Gl X x) (hm : X.mg x = some (.ref f))
    (hk : PySem.W.keepIn X.K (.ref f) = true) (hdb : (x == ("__debug__" : Str)) = false) :
    PE X (.Call (.Name x p) [] [] pos) (tCallG sp tNil) := by
  constructor
  intro pins s σ H Q I h
  apply wpAny_Call_Name_kw
  refine ld_glob I hg hm ?_ hdb
  exact PySem.W.callWith_K0 I.kIn hk (g_run (us := []) F hgd hr I .nil h)
end
/-- a def of the text keeps its word, by its body -/
theorem g_fnX {P : Program} {w : World} {K : PySem.W.Frag} {mg : Str → Option Value} {base : Heap} {x qual : Str} {st : Stmt} {f : Addr} {fd : FuncData} {N ps : List Str} {k : Nat} {sp : Sp} (F : FunA K x qual st f fd) (S : FnScope N ps (defScope st))
    (arity : ∀ vs H Q E, sp vs H Q E → vs.length = ps.length)
    (body : ∀ (cdv : Value) (A : Around) (outer : List PySem.Env) (s : Shared) (H : Hp) (vs : List V) (Q : VK) (E : XK), A.guards = some [] → Room k (A.deeper (envOfC qual (defScope st) s.heap.objs.size f cdv)) → sp vs H Q E →
      ∃ t, PSs (cxOf (L2.CX P w) P w K mg base N qual (defScope st) f cdv A outer s H E) (defBody st) t ∧ t { nx := fun _ H' => Q .non H', rt := Q } (start N vs) H) :
    FnG P w K mg base (k + 1) f fd ps sp := by
  obtain ⟨oc, od, dV, kV, doc, pm, an, cdv, ct, osl, rfl, lk, hcd⟩ := F.ex
  refine ⟨arity, ?_⟩
  intro A outer s H args us vs Q E hgd hr e0 hb rv hsp
  have nn := arity _ _ _ _ hsp
  have up : ∀ b o, base.get? b = some o → s.heap.get? b = some o := fun b o e => (e0.bs b o e).1
  have kin : K.In s.heap := e0.mod.kin.keeps up
  have kinds : ∀ y ∈ ps.zip us, (defScope st).names.lookup y.1 = some .local ∨
      ((defScope st).names.lookup y.1 = some .cell ∧ ((cellsFrom (s.heap.objs.size + 1) (defScope st).names []).lookup y.1).isSome = true) := by
    rintro ⟨n, v⟩ hy
    have hn : n ∈ ps := (List.of_mem_zip hy).1
    rcases S.par n hn with q | q
    · exact Or.inl q
    · exact Or.inr ⟨q, PySem.W.cellsFrom_some _ _ _ (Or.inl q)⟩
  refine codeAny_call_function hr.depth (kin _ _ lk) rfl S.co S.gen rfl (PySem.W.codeRec_of kin hcd) (hb _ _ _ _ ?_)
  refine wpAny_newFunctionEnv_cells S.kind kinds ?_
  intro env he s1 inside
  subst he
  refine ⟨(e0.mod.nolimit.keeps up).keeps inside.toInCall.keep, codeAny_func ?_⟩
  obtain ⟨t, ht, hq⟩ := body cdv A outer s H vs Q E hgd (hr.deeper _) hsp
  have I0 := inv_start (CX := (L2.CX P w)) (f := f) (cd := cdv) (qual := qual) (E := E) S hr.hd e0 nn rv inside
  have main := ht.run [] s1 (start N vs) H _ I0 hq
  refine wpAny_mono main ?_ (fun _ _ z => z)
  intro fl s' hs
  have out : ∀ {σ' : L2.St} {H' : Hp} {v : V} {u : Value}, Inv (cxOf (L2.CX P w) P w K mg base N qual (defScope st) f cdv A outer s H E) [] σ' H' s' → RelV v u → Q v H' → CE outer P w H s Q u s' := by
    intro σ' H' v u J r q
    exact ⟨v, H', J.os, J.bare, J.base, J.hok, r, q⟩
  match fl, hs with
  | .ret u, ⟨v, σ', H', J, r, q⟩ => exact out J r q
  | .next, ⟨σ', H', J, q⟩ => exact out (v := V.non) (u := Value.none) J rfl q
  | .brk, ⟨_, _, _, q⟩ => exact q.elim
  | .cont, ⟨_, _, _, q⟩ => exact q.elim
theorem g_fn {P : Program} {w : World} {K : PySem.W.Frag} {mg : Str → Option Value} {base : Heap} {x qual : Str} {st : Stmt} {f : Addr} {fd : FuncData} {N ps : List Str} {k : Nat} {sp : Sp} (F : FunA K x qual st f fd) (S : FnScope N ps (defScope st))
    (arity : ∀ vs H Q E, sp vs H Q E → vs.length = ps.length)
    (body : ∀ (cdv : Value) (A : Around) (outer : List PySem.Env) (s : Shared) (H : Hp) (vs : List V) (Q : VK) (E : XK), A.guards = some [] → Room k (A.deeper (envOfC qual (defScope st) s.heap.objs.size f cdv)) → sp vs H Q E →
      ∃ t, PSs (cxOf (L2.CX P w) P w K mg base N qual (defScope st) f cdv A outer s H E).nox (defBody st) t ∧ t { nx := fun _ H' => Q .non H', rt := Q } (start N vs) H) :
    FnG P w K mg base (k + 1) f fd ps sp :=
  g_fnX F S arity fun cdv A outer s H vs Q E hg hr h => let ⟨t, h1, h2⟩ := body cdv A outer s H vs Q E hg hr h; ⟨t, h1.nox, h2⟩
/-- the meaning of a def as its word -/
def spF (K : PySem.W.Frag) (n : Nat) (F : List D → M D) : Sp := fun vs H Q _ => vs.length = n ∧ ∃ (W : Wd) (ds : List D), W.H = H ∧ Abs K W ∧ Reps K W ds vs ∧ ∃ d S', F ds W.S = .ok d S' ∧ ∀ W' v, Nxt K W S' W' → Rep K W' d v → Q v W'.H
theorem f_call {K : PySem.W.Frag} {n : Nat} {F : List D → M D} {ms : Env → M (List D)} (hn : ∀ (ρ : Env) (S : Sto) (xs : List D) (S' : Sto), ms ρ S = .ok xs S' → xs.length = n) : ∀ σ H Q, tI K (fun ρ => bnd (ms ρ) F) σ H Q → tCallG (spF K n F) (tAs K ms) σ H Q := by
  rintro σ H Q ⟨W, ρ, rfl, A, sl, d, S', e, k⟩
  obtain ⟨ds, S1, e1, e⟩ := bnd_ok e
  refine ⟨W, ρ, rfl, A, sl, ds, S1, e1, fun W1 vs N1 r1 => ?_⟩
  exact ⟨by rw [reps_len _ _ r1]; exact hn _ _ _ _ e1, W1, ds, rfl, N1.ab, r1, d, S', by rw [N1.st]; exact e, fun W2 v N2 r2 => k W2 v (N1.trans N2) r2⟩
end AG
namespace AG
open PySem PySem.Spec PyProof.Rows L2
/-! ### dicts and objects, by data -/
theorem Nxt.self {K : PySem.W.Frag} {W W1 : Wd} {S : Sto} (N : Nxt K W S W1) : Nxt K W W1.S W1 := ⟨rfl, N.lk, N.ab, N.ext⟩
def kyV : Ky → Option Key
  | .i i => some (.inl i)
  | .s s => some (.inr s)
  | .t _ => none
theorem kK_cons {k : Ky} {ks : List Ky} {l : List Key} (h : kK (k :: ks) = some l) : ∃ x r, kyV k = some x ∧ kK ks = some r ∧ l = x :: r := by
  cases k with
  | i i =>
    simp only [kK] at h
    obtain ⟨r, h1, rfl⟩ := Option.map_eq_some_iff.mp h
    exact ⟨_, r, rfl, h1, rfl⟩
  | s s =>
    simp only [kK] at h
    obtain ⟨r, h1, rfl⟩ := Option.map_eq_some_iff.mp h
    exact ⟨_, r, rfl, h1, rfl⟩
  | t is => cases h
theorem kT_cons {k : Ky} {ks : List Ky} {l : List (List Key)} (h : kT (k :: ks) = some l) : ∃ is r, k = .t is ∧ kT ks = some r ∧ l = is.map Sum.inl :: r := by
  cases k with
  | t is =>
    simp only [kT] at h
    obtain ⟨r, h1, rfl⟩ := Option.map_eq_some_iff.mp h
    exact ⟨is, r, rfl, h1, rfl⟩
  | _ => cases h
theorem kS_cons {k : Ky} {ks : List Ky} {l : List Str} (h : kS (k :: ks) = some l) : ∃ s r, k = .s s ∧ kS ks = some r ∧ l = s :: r := by
  cases k with
  | s s =>
    simp only [kS] at h
    obtain ⟨r, h1, rfl⟩ := Option.map_eq_some_iff.mp h
    exact ⟨s, r, rfl, h1, rfl⟩
  | _ => cases h
theorem kyV_inj {a b : Ky} {x y : Key} (ha : kyV a = some x) (hb : kyV b = some y) : a = b ↔ x = y := by
  cases a <;> cases b <;> simp only [kyV, Option.some.injEq, reduceCtorEq] at ha hb <;> subst ha hb <;> simp
theorem inl_inj {a b : List Int} : a = b ↔ a.map (Sum.inl : Int → Key) = b.map Sum.inl := by
  constructor
  · intro h; rw [h]
  · intro h
    induction a generalizing b with
    | nil => cases b with
      | nil => rfl
      | cons _ _ => cases h
    | cons x xs ih => cases b with
      | nil => cases h
      | cons y ys =>
        simp only [List.map_cons, List.cons.injEq, Sum.inl.injEq] at h
        rw [h.1, ih h.2]
/-- what is found in a dict -/
def DR (K : PySem.W.Frag) (W : Wd) (o : Option D) (r : Option V) : Prop := match o, r with
  | some d, some v => Rep K W d v
  | none, none => True
  | _, _ => False
theorem look_K {K : PySem.W.Frag} {W : Wd} {q : Ky} {y : Key} (hq : kyV q = some y) : ∀ (ks : List Ky) (ds : List D) (us : List V) (l : List Key), kK ks = some l → us.length = ks.length → Reps K W ds us → DR K W (lookY ks ds q) (valV (l.zip us) y)
  | [], ds, us, l, h, hl, r => by
    cases h
    have : us = [] := List.eq_nil_of_length_eq_zero hl
    subst this
    cases ds <;> exact trivial
  | k :: ks, ds, us, l, h, hl, r => by
    obtain ⟨x, l', h1, h2, rfl⟩ := kK_cons h
    cases ds with
    | nil => simp only [Reps] at r; subst r; cases hl
    | cons d ds =>
      simp only [Reps] at r
      obtain ⟨v, us', rfl, r1, r2⟩ := r
      rw [List.zip_cons_cons]
      simp only [lookY]
      by_cases e : k = q
      · rw [if_pos e, valV_pos (show x = y from (kyV_inj h1 hq).mp e)]
        exact r1
      · rw [if_neg e, valV_neg (show ¬ x = y from fun z => e ((kyV_inj h1 hq).mpr z))]
        exact look_K hq ks ds us' l' h2 (by simpa using hl) r2
theorem look_T {K : PySem.W.Frag} {W : Wd} {is : List Int} : ∀ (ks : List Ky) (ds : List D) (us : List V) (l : List (List Key)), kT ks = some l → us.length = ks.length → Reps K W ds us → DR K W (lookY ks ds (.t is)) (valV (l.zip us) (is.map Sum.inl))
  | [], ds, us, l, h, hl, r => by
    cases h
    have : us = [] := List.eq_nil_of_length_eq_zero hl
    subst this
    cases ds <;> exact trivial
  | k :: ks, ds, us, l, h, hl, r => by
    obtain ⟨js, l', rfl, h2, rfl⟩ := kT_cons h
    cases ds with
    | nil => simp only [Reps] at r; subst r; cases hl
    | cons d ds =>
      simp only [Reps] at r
      obtain ⟨v, us', rfl, r1, r2⟩ := r
      rw [List.zip_cons_cons]
      simp only [lookY]
      by_cases e : js = is
      · subst e
        rw [if_pos rfl, valV_pos rfl]
        exact r1
      · rw [if_neg (fun z => e (by cases z; rfl)), valV_neg (show ¬ js.map Sum.inl = is.map Sum.inl from fun z => e (inl_inj.mpr z))]
        exact look_T ks ds us' l' h2 (by simpa using hl) r2
theorem look_S {K : PySem.W.Frag} {W : Wd} {f : Str} : ∀ (ks : List Ky) (ds : List D) (us : List V) (l : List Str), kS ks = some l → us.length = ks.length → Reps K W ds us → DR K W (lookY ks ds (.s f)) ((l.zip us).lookup f)
  | [], ds, us, l, h, hl, r => by
    cases h
    have : us = [] := List.eq_nil_of_length_eq_zero hl
    subst this
    cases ds <;> exact trivial
  | k :: ks, ds, us, l, h, hl, r => by
    obtain ⟨g, l', rfl, h2, rfl⟩ := kS_cons h
    cases ds with
    | nil => simp only [Reps] at r; subst r; cases hl
    | cons d ds =>
      simp only [Reps] at r
      obtain ⟨v, us', rfl, r1, r2⟩ := r
      rw [List.zip_cons_cons]
      simp only [lookY, List.lookup]
      by_cases e : g = f
      · subst e
        rw [if_pos rfl, beq_self_eq_true]
        exact r1
      · rw [if_neg (fun z => e (by cases z; rfl)), beq_eq_false_iff_ne.mpr (Ne.symm e)]
        exact look_S ks ds us' l' h2 (by simpa using hl) r2
theorem kK_mem {q : Ky} {y : Key} (hq : kyV q = some y) : ∀ (ks : List Ky) (l : List Key), kK ks = some l → (q ∈ ks ↔ y ∈ l)
  | [], l, h => by cases h; simp
  | k :: ks, l, h => by
    obtain ⟨x, l', h1, h2, rfl⟩ := kK_cons h
    rw [List.mem_cons, List.mem_cons, kK_mem hq ks l' h2]
    constructor
    · rintro (z | z)
      · exact .inl ((kyV_inj hq h1).mp z)
      · exact .inr z
    · rintro (z | z)
      · exact .inl ((kyV_inj hq h1).mpr z)
      · exact .inr z
theorem kT_mem {is : List Int} : ∀ (ks : List Ky) (l : List (List Key)), kT ks = some l → (Ky.t is ∈ ks ↔ is.map Sum.inl ∈ l)
  | [], l, h => by cases h; simp
  | k :: ks, l, h => by
    obtain ⟨js, l', rfl, h2, rfl⟩ := kT_cons h
    rw [List.mem_cons, List.mem_cons, kT_mem ks l' h2]
    constructor
    · rintro (z | z)
      · cases z; exact .inl rfl
      · exact .inr z
    · rintro (z | z)
      · exact .inl (by rw [inl_inj.mpr z])
      · exact .inr z
theorem kK_app {q : Ky} {y : Key} (hq : kyV q = some y) : ∀ (ks : List Ky) (l : List Key), kK ks = some l → kK (ks ++ [q]) = some (l ++ [y])
  | [], l, h => by
    cases h
    cases q <;> simp only [kyV, Option.some.injEq, reduceCtorEq] at hq <;> subst hq <;> rfl
  | k :: ks, l, h => by
    obtain ⟨x, l', h1, h2, rfl⟩ := kK_cons h
    have ih := kK_app hq ks l' h2
    cases k <;> simp only [kyV, Option.some.injEq, reduceCtorEq] at h1 <;> subst h1 <;> simp only [List.cons_append, kK, ih, Option.map_some]
theorem kT_app {is : List Int} : ∀ (ks : List Ky) (l : List (List Key)), kT ks = some l → kT (ks ++ [.t is]) = some (l ++ [is.map Sum.inl])
  | [], l, h => by cases h; rfl
  | k :: ks, l, h => by
    obtain ⟨js, l', rfl, h2, rfl⟩ := kT_cons h
    simp only [List.cons_append, kT, kT_app ks l' h2, Option.map_some]
theorem kK_len : ∀ (ks : List Ky) (l : List Key), kK ks = some l → l.length = ks.length
  | [], l, h => by cases h; rfl
  | k :: ks, l, h => by
    obtain ⟨x, l', h1, h2, rfl⟩ := kK_cons h
    rw [List.length_cons, List.length_cons, kK_len ks l' h2]
theorem kT_len : ∀ (ks : List Ky) (l : List (List Key)), kT ks = some l → l.length = ks.length
  | [], l, h => by cases h; rfl
  | k :: ks, l, h => by
    obtain ⟨js, l', rfl, h2, rfl⟩ := kT_cons h
    rw [List.length_cons, List.length_cons, kT_len ks l' h2]
theorem zip_any {κ : Type} [DecidableEq κ] {y : κ} : ∀ (l : List κ) (us : List V), us.length = l.length → ((l.zip us).any fun kv => decide (kv.1 = y)) = decide (y ∈ l)
  | [], us, h => by simp
  | x :: l, [], h => by cases h
  | x :: l, u :: us, h => by
    rw [List.zip_cons_cons, List.any_cons, zip_any l us (by simpa using h)]
    by_cases e : x = y
    · subst e; simp
    · simp [e, Ne.symm e]
theorem zip_anyT {κ : Type} [DecidableEq κ] {y : κ} {l : List κ} {us : List V} (h : us.length = l.length) (hm : y ∈ l) : ((l.zip us).any fun kv => decide (kv.1 = y)) = true := by rw [zip_any l us h]; exact decide_eq_true hm
theorem zip_anyF {κ : Type} [DecidableEq κ] {y : κ} {l : List κ} {us : List V} (h : us.length = l.length) (hm : ¬ y ∈ l) : ¬ ((l.zip us).any fun kv => decide (kv.1 = y)) = true := by rw [zip_any l us h, decide_eq_false hm]; exact Bool.false_ne_true
/-- the values where the key's is set -/
def setV {κ : Type} [DecidableEq κ] (l : List κ) (us : List V) (y : κ) (w : V) : List V := (l.zip us).map fun kv => if kv.1 = y then w else kv.2
theorem zip_set {κ : Type} [DecidableEq κ] {y : κ} {w : V} : ∀ (l : List κ) (us : List V), us.length = l.length → (l.zip us).map (fun kv => if kv.1 = y then (kv.1, w) else kv) = l.zip (setV l us y w) ∧ (setV l us y w).length = l.length
  | [], us, h => by simp [setV]
  | x :: l, [], h => by cases h
  | x :: l, u :: us, h => by
    obtain ⟨h1, h2⟩ := zip_set (y := y) (w := w) l us (by simpa using h)
    have e : setV (x :: l) (u :: us) y w = (if x = y then w else u) :: setV l us y w := by simp [setV]
    rw [e, List.zip_cons_cons, List.map_cons, h1, List.zip_cons_cons]
    refine ⟨?_, by rw [List.length_cons, h2, List.length_cons]⟩
    by_cases q : x = y
    · simp [q]
    · simp [q]
theorem set_K {K : PySem.W.Frag} {W : Wd} {q : Ky} {y : Key} (hq : kyV q = some y) {w : D} {u : V} (rw' : Rep K W w u) : ∀ (ks : List Ky) (ds : List D) (us : List V) (l : List Key), kK ks = some l → us.length = ks.length → Reps K W ds us → Reps K W (setY ks ds q w) (setV l us y u)
  | [], ds, us, l, h, hl, r => by
    cases h
    have : us = [] := List.eq_nil_of_length_eq_zero hl
    subst this
    cases ds <;> simp [setY, setV, Reps]
  | k :: ks, ds, us, l, h, hl, r => by
    obtain ⟨x, l', h1, h2, rfl⟩ := kK_cons h
    cases ds with
    | nil => simp only [Reps] at r; subst r; cases hl
    | cons d ds =>
      simp only [Reps] at r
      obtain ⟨v, us', rfl, r1, r2⟩ := r
      have e : setV (x :: l') (v :: us') y u = (if x = y then u else v) :: setV l' us' y u := by simp [setV]
      rw [e]
      simp only [setY, Reps]
      refine ⟨_, _, rfl, ?_, set_K hq rw' ks ds us' l' h2 (by simpa using hl) r2⟩
      by_cases e : k = q
      · rw [if_pos e, if_pos (show x = y from (kyV_inj h1 hq).mp e)]
        exact rw'
      · rw [if_neg e, if_neg (show ¬ x = y from fun z => e ((kyV_inj h1 hq).mpr z))]
        exact r1
theorem set_T {K : PySem.W.Frag} {W : Wd} {is : List Int} {w : D} {u : V} (rw' : Rep K W w u) : ∀ (ks : List Ky) (ds : List D) (us : List V) (l : List (List Key)), kT ks = some l → us.length = ks.length → Reps K W ds us → Reps K W (setY ks ds (.t is) w) (setV l us (is.map Sum.inl) u)
  | [], ds, us, l, h, hl, r => by
    cases h
    have : us = [] := List.eq_nil_of_length_eq_zero hl
    subst this
    cases ds <;> simp [setY, setV, Reps]
  | k :: ks, ds, us, l, h, hl, r => by
    obtain ⟨js, l', rfl, h2, rfl⟩ := kT_cons h
    cases ds with
    | nil => simp only [Reps] at r; subst r; cases hl
    | cons d ds =>
      simp only [Reps] at r
      obtain ⟨v, us', rfl, r1, r2⟩ := r
      have e : setV (js.map Sum.inl :: l') (v :: us') (is.map Sum.inl) u = (if js.map (Sum.inl : Int → Key) = is.map Sum.inl then u else v) :: setV l' us' (is.map Sum.inl) u := by simp only [setV, List.zip_cons_cons, List.map_cons]
      rw [e]
      simp only [setY, Reps]
      refine ⟨_, _, rfl, ?_, set_T rw' ks ds us' l' h2 (by simpa using hl) r2⟩
      by_cases e : js = is
      · subst e
        rw [if_pos rfl, if_pos rfl]
        exact rw'
      · rw [if_neg (fun z => e (by cases z; rfl)), if_neg (show ¬ js.map Sum.inl = is.map Sum.inl from fun z => e (inl_inj.mpr z))]
        exact r1
theorem put_F {K : PySem.W.Frag} {W : Wd} {f : Str} {w : D} {u : V} (rw' : Rep K W w u) : ∀ (ks : List Ky) (ds : List D) (us : List V) (l : List Str), kS ks = some l → us.length = ks.length → Reps K W ds us →
    ∃ l' us', kS (putA ks ds (.s f) w).1 = some l' ∧ us'.length = (putA ks ds (.s f) w).1.length ∧ L2.putF f u (l.zip us) = l'.zip us' ∧ Reps K W (putA ks ds (.s f) w).2 us'
  | [], ds, us, l, h, hl, r => by
    cases h
    have : us = [] := List.eq_nil_of_length_eq_zero hl
    subst this
    cases ds with
    | nil => exact ⟨[f], [u], rfl, rfl, rfl, reps_one rw'⟩
    | cons _ _ => simp only [Reps] at r; obtain ⟨_, _, z, _⟩ := r; cases z
  | k :: ks, ds, us, l, h, hl, r => by
    obtain ⟨g, l', rfl, h2, rfl⟩ := kS_cons h
    cases ds with
    | nil => simp only [Reps] at r; subst r; cases hl
    | cons d ds =>
      simp only [Reps] at r
      obtain ⟨v, us', rfl, r1, r2⟩ := r
      rw [List.zip_cons_cons]
      by_cases e : g = f
      · subst e
        simp only [putA, if_true, L2.putF]
        refine ⟨g :: l', u :: us', by simp only [kS, h2, Option.map_some], by simpa using hl, rfl, ?_⟩
        simp only [Reps]
        exact ⟨u, us', rfl, rw', r2⟩
      · obtain ⟨l2, us2, q1, q2, q3, q4⟩ := put_F rw' ks ds us' l' h2 (by simpa using hl) r2 (f := f)
        have e2 : ¬ Ky.s g = .s f := fun z => e (by cases z; rfl)
        simp only [putA, if_neg e2, L2.putF, if_neg e]
        refine ⟨g :: l2, v :: us2, by simp only [kS, q1, Option.map_some], by simp only [List.length_cons, q2], by rw [q3]; rfl, ?_⟩
        simp only [Reps]
        exact ⟨v, us2, rfl, r1, q4⟩
/-- a dict's place -/
theorem dicD_ok {K : PySem.W.Frag} {W : Wd} (A : Abs K W) {x : D} {v : V} {S' : Sto} {p : Bool × List Ky × List D} (r : Rep K W x v) (e : dicD x W.S = .ok p S') :
    S' = W.S ∧ ∃ a us o, v = .ref a ∧ W.H a = some o ∧ us.length = p.2.1.length ∧ dicO p.1 p.2.1 us = some o ∧ Reps K W p.2.2 us := by
  unfold dicD at e
  split at e
  · rename_i t k
    obtain ⟨q, S1, e1, e⟩ := bnd_ok e
    obtain ⟨c, e⟩ := need_ok e
    obtain ⟨rfl, rfl⟩ := ret_ok e
    unfold getK at e1
    obtain ⟨xs, S2, e2, e1⟩ := bnd_ok e1
    unfold getC at e2
    split at e2
    · rename_i ys hk
      cases e2
      split at e1
      · obtain ⟨rfl, rfl⟩ := ret_ok e1
        obtain ⟨a, kd, ds, us, o, h1, h2, h3, h4⟩ := A.cell k _ hk
        simp only [Rep] at r
        obtain ⟨b, rfl, h5⟩ := r
        rw [h1] at h5
        cases h5
        obtain ⟨ks', z, h6, h7⟩ := h3
        cases z
        exact ⟨rfl, a, us, o, rfl, h2, h6, h7, h4⟩
      · cases e1
    · cases e2
  · obtain ⟨rfl, rfl⟩ := ret_ok e
    simp only [Rep] at r
    obtain ⟨a, us, o, rfl, h1, h2, h3, _, h4⟩ := r
    exact ⟨rfl, a, us, o, rfl, h1, h2, h3, h4⟩
  · cases e
theorem keyI_ok {K : PySem.W.Frag} {W : Wd} : ∀ (xs : List D) (vs : List V) (l : List Int), keyI xs = some l → Reps K W xs vs → vs = (l.map (Sum.inl : Int → Key)).map kV
  | [], vs, l, e, r => by cases e; simp only [Reps] at r; subst r; rfl
  | x :: xs, vs, l, e, r => by
    cases x with
    | int i =>
      simp only [keyI] at e
      cases q : keyI xs with
      | none => rw [q] at e; cases e
      | some l' =>
        rw [q] at e
        cases e
        simp only [Reps] at r
        obtain ⟨v, us, rfl, h1, h2⟩ := r
        rw [rep_int h1, keyI_ok xs us l' q h2]
        rfl
    | _ => cases e
/-- what stands at a key -/
theorem dget_ok {K : PySem.W.Frag} {W : Wd} {t : Bool} {ks : List Ky} {ds : List D} {us : List V} {o : HO} {a : Addr} {y : D} {w : V} {q : Ky} (hH : W.H a = some o) (hl : us.length = ks.length) (hd : dicO t ks us = some o) (r : Reps K W ds us)
    (ry : Rep K W y w) (hq : keyD y = some q) (ht : q.isT = t) : ∃ ro, DGet W.H a w ro ∧ DR K W (lookY ks ds q) ro := by
  unfold keyD at hq
  split at hq
  · cases hq
    cases ht
    obtain ⟨l, h1, rfl⟩ := dicO_K hd
    rw [rep_int ry]
    exact ⟨_, DGet.k (k := .inl _) hH, look_K rfl ks ds us l h1 hl r⟩
  · cases hq
    cases ht
    obtain ⟨l, h1, rfl⟩ := dicO_K hd
    simp only [Rep] at ry
    subst ry
    exact ⟨_, DGet.k (k := .inr _) hH, look_K rfl ks ds us l h1 hl r⟩
  · rename_i xs
    cases hk : keyI xs with
    | none => rw [hk] at hq; cases hq
    | some l =>
      rw [hk] at hq
      cases hq
      cases ht
      obtain ⟨l', h1, rfl⟩ := dicO_T hd
      simp only [Rep] at ry
      obtain ⟨b, vs, rfl, hb, rv⟩ := ry
      rw [keyI_ok xs vs l hk rv] at hb
      exact ⟨_, DGet.t hH hb, look_T ks ds us l' h1 hl r⟩
  · cases hq
section
variable {X : Cx} {a b e : Expr} {pos pos' : Pos} {ma mb me : Env → M D}
theorem s_dget (hu : X.A.units + 1 < cLine) (ha : PE X a (tI X.K ma)) (hb : PE X b (tI X.K mb)) (hs : NoSl b) : PE X (.Subscript a b pos) (tI X.K fun ρ => bnd (ma ρ) fun x => bnd (mb ρ) fun y => dgetD x y) := by
  refine (pe_dget hu ha hb hs).weak ?_
  rintro σ H Q ⟨W, ρ, rfl, A, sl, d, S', e, k⟩
  obtain ⟨x, S1, e1, e⟩ := bnd_ok e
  obtain ⟨y, S2, e2, e⟩ := bnd_ok e
  refine ⟨W, ρ, rfl, A, sl, x, S1, e1, fun W1 v1 N1 r1 => ?_⟩
  refine ⟨W1, ρ, rfl, N1.ab, sl.ext A N1.ext, y, S2, by rw [N1.st]; exact e2, fun W2 v2 N2 r2 => ?_⟩
  unfold dgetD at e
  obtain ⟨p, S3, e3, e⟩ := bnd_ok e
  rw [← N2.st] at e3
  obtain ⟨rfl, c, us, o, rfl, h1, h2, h3, h4⟩ := dicD_ok N2.ab (Rep.ext N1.ab N2.ext _ _ r1) e3
  cases hk : keyD y with
  | none => rw [hk] at e; cases e
  | some q =>
    rw [hk] at e
    obtain ⟨ht, e⟩ := need_ok e
    obtain ⟨e4, rfl⟩ := opt_ok e
    obtain ⟨ro, h5, h6⟩ := dget_ok h1 h2 h3 h4 r2 hk (eq_of_beq ht)
    rw [e4] at h6
    cases ro with
    | none => exact h6.elim
    | some v => exact ⟨c, v, rfl, h5, k W2 v (N1.trans N2).self h6⟩
theorem din_ok {n : Bool} (x y : D) {W : Wd} {v1 v2 : V} {S' : Sto} {d : Bool} (A : Abs X.K W) (r1 : Rep X.K W x v1) (r2 : Rep X.K W y v2) (e : dinD x y W.S = .ok d S') : S' = W.S ∧ ∃ c ro, v1 = .ref c ∧ DGet W.H c v2 ro ∧ ro.isSome = d := by
  unfold dinD at e
  obtain ⟨p, S3, e3, e⟩ := bnd_ok e
  obtain ⟨rfl, c, us, o, rfl, h1, h2, h3, h4⟩ := dicD_ok A r1 e3
  cases hk : keyD y with
  | none => rw [hk] at e; cases e
  | some q =>
    rw [hk] at e
    obtain ⟨ht, e⟩ := need_ok e
    obtain ⟨e4, rfl⟩ := ret_ok e
    obtain ⟨ro, h5, h6⟩ := dget_ok h1 h2 h3 h4 r2 hk (eq_of_beq ht)
    refine ⟨rfl, c, ro, rfl, h5, ?_⟩
    rw [← e4]
    cases hl : lookY p.2.1 p.2.2 q with
    | none =>
      rw [hl] at h6
      cases ro with
      | none => rfl
      | some v => exact h6.elim
    | some d =>
      rw [hl] at h6
      cases ro with
      | none => exact h6.elim
      | some v => rfl
theorem s_din {n : Bool} (hu : X.A.units + 1 < cLine) (ha : PE X a (tI X.K ma)) (hb : PE X b (tI X.K mb)) {op : CmpOp} (hop : op = if n then .NotIn else .In) (hm : behindInMarks op b = false) :
    PE X (.Compare a [op] [b] pos) (tI X.K fun ρ => bnd (ma ρ) fun y => bnd (mb ρ) fun x => bnd (dinD x y) fun k => ret (.bl (k != n))) := by
  cases n with
  | false =>
    subst hop
    refine (pe_cmp (pc_din hu ha hb) hm).weak ?_
    rintro σ H Q ⟨W, ρ, rfl, A, sl, d, S', e, k⟩
    obtain ⟨y, S1, e1, e⟩ := bnd_ok e
    obtain ⟨x, S2, e2, e⟩ := bnd_ok e
    obtain ⟨z, S3, e3, e⟩ := bnd_ok e
    obtain ⟨rfl, rfl⟩ := ret_ok e
    refine ⟨W, ρ, rfl, A, sl, y, S1, e1, fun W1 v1 N1 r1 => ?_⟩
    refine ⟨W1, ρ, rfl, N1.ab, sl.ext A N1.ext, x, S2, by rw [N1.st]; exact e2, fun W2 v2 N2 r2 => ?_⟩
    rw [← N2.st] at e3
    obtain ⟨rfl, c, ro, rfl, h1, h2⟩ := din_ok (n := false) x y N2.ab r2 (Rep.ext N1.ab N2.ext _ _ r1) e3
    refine ⟨c, ro, rfl, h1, ?_⟩
    rw [h2]
    have := k W2 _ (N1.trans N2).self (bl_rep _)
    simpa using this
  | true =>
    subst hop
    refine (pe_cmp (pc_dnotin hu ha hb) hm).weak ?_
    rintro σ H Q ⟨W, ρ, rfl, A, sl, d, S', e, k⟩
    obtain ⟨y, S1, e1, e⟩ := bnd_ok e
    obtain ⟨x, S2, e2, e⟩ := bnd_ok e
    obtain ⟨z, S3, e3, e⟩ := bnd_ok e
    obtain ⟨rfl, rfl⟩ := ret_ok e
    refine ⟨W, ρ, rfl, A, sl, y, S1, e1, fun W1 v1 N1 r1 => ?_⟩
    refine ⟨W1, ρ, rfl, N1.ab, sl.ext A N1.ext, x, S2, by rw [N1.st]; exact e2, fun W2 v2 N2 r2 => ?_⟩
    rw [← N2.st] at e3
    obtain ⟨rfl, c, ro, rfl, h1, h2⟩ := din_ok (n := true) x y N2.ab r2 (Rep.ext N1.ab N2.ext _ _ r1) e3
    refine ⟨c, ro, rfl, h1, ?_⟩
    rw [h2]
    have := k W2 _ (N1.trans N2).self (bl_rep _)
    simpa using this
theorem t_din {n : Bool} (hu : X.A.units + 1 < cLine) (ha : PE X a (tI X.K ma)) (hb : PE X b (tI X.K mb)) {op : CmpOp} (hop : op = if n then .NotIn else .In) (hm : behindInMarks op b = false) :
    PT X (.Compare a [op] [b] pos) (tT X.K fun ρ => bnd (ma ρ) fun y => bnd (mb ρ) fun x => bnd (dinD x y) fun k => ret (k != n)) := by
  cases n with
  | false =>
    subst hop
    refine (pt_cmp (pc_din hu ha hb) hm).weak ?_
    rintro σ H Q ⟨W, ρ, rfl, A, sl, d, S', e, k⟩
    obtain ⟨y, S1, e1, e⟩ := bnd_ok e
    obtain ⟨x, S2, e2, e⟩ := bnd_ok e
    obtain ⟨z, S3, e3, e⟩ := bnd_ok e
    obtain ⟨rfl, rfl⟩ := ret_ok e
    refine ⟨W, ρ, rfl, A, sl, y, S1, e1, fun W1 v1 N1 r1 => ?_⟩
    refine ⟨W1, ρ, rfl, N1.ab, sl.ext A N1.ext, x, S2, by rw [N1.st]; exact e2, fun W2 v2 N2 r2 => ?_⟩
    rw [← N2.st] at e3
    obtain ⟨rfl, c, ro, rfl, h1, h2⟩ := din_ok (n := false) x y N2.ab r2 (Rep.ext N1.ab N2.ext _ _ r1) e3
    refine ⟨c, ro, rfl, h1, _, rfl, ?_⟩
    rw [h2]
    have := k W2 (N1.trans N2).self
    simpa using this
  | true =>
    subst hop
    refine (pt_cmp (pc_dnotin hu ha hb) hm).weak ?_
    rintro σ H Q ⟨W, ρ, rfl, A, sl, d, S', e, k⟩
    obtain ⟨y, S1, e1, e⟩ := bnd_ok e
    obtain ⟨x, S2, e2, e⟩ := bnd_ok e
    obtain ⟨z, S3, e3, e⟩ := bnd_ok e
    obtain ⟨rfl, rfl⟩ := ret_ok e
    refine ⟨W, ρ, rfl, A, sl, y, S1, e1, fun W1 v1 N1 r1 => ?_⟩
    refine ⟨W1, ρ, rfl, N1.ab, sl.ext A N1.ext, x, S2, by rw [N1.st]; exact e2, fun W2 v2 N2 r2 => ?_⟩
    rw [← N2.st] at e3
    obtain ⟨rfl, c, ro, rfl, h1, h2⟩ := din_ok (n := true) x y N2.ab r2 (Rep.ext N1.ab N2.ext _ _ r1) e3
    refine ⟨c, ro, rfl, h1, _, rfl, ?_⟩
    rw [h2]
    have := k W2 (N1.trans N2).self
    simpa using this
theorem s_dnew {t : Bool} : PE X (.Dict [] [] pos) (tI X.K fun _ => newT t) := by
  cases t with
  | false =>
    refine pe_dnewK.weak ?_
    rintro σ H Q ⟨W, ρ, rfl, A, sl, d, S', e, k⟩
    cases e
    intro p hp
    obtain ⟨N, h⟩ := new_cellK A hp (kd := .dic false) (xs := [.dic false [] []]) (ds := []) (us := []) (o := .dK []) ⟨[], rfl, rfl, rfl⟩ (by simp only [Reps])
    exact k _ _ N (by simp only [Rep]; exact ⟨p, rfl, h⟩)
  | true =>
    refine pe_dnewT.weak ?_
    rintro σ H Q ⟨W, ρ, rfl, A, sl, d, S', e, k⟩
    cases e
    intro p hp
    obtain ⟨N, h⟩ := new_cellK A hp (kd := .dic true) (xs := [.dic true [] []]) (ds := []) (us := []) (o := .dT []) ⟨[], rfl, rfl, rfl⟩ (by simp only [Reps])
    exact k _ _ N (by simp only [Rep]; exact ⟨p, rfl, h⟩)
/-- an object's place -/
theorem obj_ok {W : Wd} (A : Abs X.K W) {c : String} {k : Nat} {v : V} {S' : Sto} {p : Bool × List Ky × List D} (r : Rep X.K W (.obj c k) v) (e : getK k W.S = .ok p S') :
    S' = W.S ∧ ∃ a xs us ns C dx, v = .ref a ∧ W.S[k]? = some (some xs) ∧ W.as[k]? = some (a, .obj c) ∧ p.1 = false ∧ kS p.2.1 = some ns ∧ us.length = p.2.1.length ∧ PySem.W.nsIn X.K mainGlobals (Str.ofString c) = some (some (.ref C)) ∧ W.H a = some (.ins C dx (ns.zip us)) ∧ Reps X.K W p.2.2 us := by
  unfold getK at e
  obtain ⟨xs, S2, e2, e1⟩ := bnd_ok e
  unfold getC at e2
  split at e2
  · rename_i ys hk
    cases e2
    obtain ⟨a, kd, ds, us, o, h1, h2, h3, h4⟩ := A.cell k _ hk
    simp only [Rep] at r
    obtain ⟨b, rfl, h5⟩ := r
    rw [h1] at h5
    cases h5
    obtain ⟨ks, ns, C, dx, rfl, h6, h7, h8, rfl⟩ := h3
    obtain ⟨rfl, rfl⟩ := ret_ok (show ret (false, ks, ds) W.S = _ from e1)
    exact ⟨rfl, a, _, us, ns, C, dx, rfl, hk, h1, rfl, h6, h7, h8, h2, h4⟩
  · cases e2
end
end AG
namespace AG
open PySem PySem.Spec PyProof.Rows L2
/-! ### for k, v in d.items(), d a locked dict with tuple keys -/
def IteI (d : Addr) (ob : Obj) (kvs : List (List Key × V)) : L2.It :=
  ⟨fun i H => H d = some (.frz ob (.dT kvs)) ∧ i < kvs.length, fun i H x H' => ∃ (T q : Addr) (k : List Key) (v : V), kvs[i]? = some (k, v) ∧ x = .ref T ∧ H T = none ∧ H q = some (.tup (k.map kV)) ∧ H' = upd H T (.tup [.ref q, v]), fun i H => H d = some (.frz ob (.dT kvs)) ∧ kvs.length ≤ i⟩
section
variable {X : Cx} {pins : List (Addr × Obj)} {σ : L2.St} {H : Hp} {s : Shared} {d : Addr} {o : Obj}
theorem frz_raw {kvs : List (List Key × V)} (J : Inv X pins σ H s) (h : H d = some (.frz o (.dT kvs))) :
    (d == sysModules) = false ∧ ∃ (es : Array DictEntry) (ep : Nat), o.data = .dict es ep ∧ DT.Raw s.heap d es ep ∧ es.size = kvs.length ∧
      ∀ (i : Nat) (k : List Key) (v : V), kvs[i]? = some (k, v) → ∃ (hi : i < es.size) (q : Addr), es[i].key = .ref q ∧ H q = some (.tup (k.map kV)) ∧ RelV v es[i].val := by
  obtain ⟨hd, z, hs, xs, pr, o', es, ep, ho, hx, hdt, he, hrest⟩ := J.hok d _ h
  rw [hd] at ho
  cases ho
  have l1 : es.size = xs.length := size_of_entries he
  have l2 : kvs.length = xs.length := Paired.length pr
  refine ⟨hs, es, ep, hdt, ⟨o, hd, hx, hdt⟩, l1.trans l2.symm, fun i k v e => ?_⟩
  have hi : i < es.size := by
    rw [l1, ← l2]
    exact (List.getElem?_eq_some_iff.mp e).1
  obtain ⟨b, hb, e1, e2, e3⟩ := paired_get pr e
  have q := entry_at he i
  rw [hb, Array.getElem?_eq_getElem hi] at q
  have q2 : es[i] = entryOfKey _ b := Option.some.inj q
  refine ⟨hi, b.2.1, ?_, e2, ?_⟩
  · rw [q2]; rfl
  · rw [q2]; exact e3
end
section
variable {P : Program} {w : World} {K : PySem.W.Frag} {d : Addr} {o : Obj} {es : Array DictEntry} {ep : Nat}
theorem turn_itmT {kvs : List (List Key × V)} {elts : List Expr} {kk : Nat} {tpos : Pos} (it : Addr) (hod : o.data = .dict es ep) :
    Turn P w K (.Tuple elts kk tpos) (IteI d o kvs) [it] it (fun i h => ∃ a b, IsItemIter h it d i es.size ep a b) where
  mem := by simp
  obj := fun i h st b hb => by
    have e : b = it := by simpa using hb
    subst e
    obtain ⟨_, _, e⟩ := st
    exact ⟨_, e, fun v z => nomatch z⟩
  keep := fun i h h' st k => let ⟨a, b, e⟩ := st; ⟨a, b, k it (by simp) _ e⟩
  item := by
    intro Y hP hw hK hc i pins s σ H E J hf st hg
    subst hP hw hK
    obtain ⟨hd, hi⟩ := hg
    obtain ⟨hs, es', ep', hdt, raw, hsz, hent⟩ := frz_raw J hd
    obtain ⟨rfl, rfl⟩ := dict_ep hod hdt
    obtain ⟨⟨k, v⟩, hkv⟩ : ∃ p, kvs[i]? = some p := ⟨kvs[i], List.getElem?_eq_getElem hi⟩
    obtain ⟨hie, q, hq1, hq2, hq3⟩ := hent i k v hkv
    obtain ⟨a, b, he⟩ := st
    have itl : it < s.heap.objs.size := Heap.lt_size he
    refine DT.nextI he raw hie fun h1 out hT hz hk => ?_
    refine ⟨_, rfl, wpAny_letOwnedTupleGo_items (s := { s with heap := h1 }) out fun h2 he2 sb => ?_⟩
    have hT2 : h2.get? s.heap.objs.size = some { cls := .type "tuple", data := .seq #[es'[i].key, es'[i].val] } := (sb.2 _ (Nat.ne_of_gt itl)).trans hT
    have new : ObjOk Y.prog Y.w (upd H s.heap.objs.size (.tup [.ref q, v])) h2 s.heap.objs.size (.tup [.ref q, v]) :=
      ⟨by show 2 ≤ sizeLine; decide, [es'[i].key, es'[i].val], .cons (by rw [hq1]; rfl) (.cons hq3 .nil), ⟨_, hT2, rfl, _, rfl⟩⟩
    have J1 : Inv Y pins σ (upd H s.heap.objs.size (.tup [.ref q, v])) { s with heap := h2 } :=
      J.turnedNew (t' := s.toks) (ch := [it]) (fun c u hb e => (sb.2 c (by simpa using hb)).trans (hk c u (by simpa using hb) e)) hf (Nat.le_refl _) new
    refine ⟨.ref s.heap.objs.size, _, J1, rfl, ⟨_, q, k, v, hkv, rfl, J.hok.fresh (Nat.le_refl _), hq2, rfl⟩, ⟨_, _, he2⟩, fun c hb => ?_⟩
    have e : c = it := by simpa using hb
    rw [e, upd_ne (Nat.ne_of_lt itl)]
    exact (hf it (by simp)).1
  done := by
    intro Y hP hw hK hc i pins s σ H E J hf st hg
    subst hP hw hK
    obtain ⟨hd, hi⟩ := hg
    obtain ⟨f0, f1, f2, f3, f4, f5⟩ := hf it (by simp)
    obtain ⟨hs, es', ep', hdt, raw, hsz, hent⟩ := frz_raw J hd
    obtain ⟨rfl, rfl⟩ := dict_ep hod hdt
    obtain ⟨a, b, he⟩ := st
    exact DT.endI (J.ok.hd hc) he raw (by omega) fun h' eb => ⟨rfl, J.turned (t' := s.toks) (fun c u hb e => eb c u hb e) f0 f1 f3 f4 f5⟩
  self := fun A i s Q E st h => let ⟨_, _, e⟩ := st; PySem.W.kcp_self e h
end
def iItmT (td : TE) : TI := fun σ H R => td σ H fun x H1 => ∃ d o kvs, x = .ref d ∧ H1 d = some (.frz o (.dT kvs)) ∧ R (IteI d o kvs) H1
theorem pi_itmT {X : Cx} {e : Expr} {td : TE} {apos cpos tpos : Pos} {elts : List Expr} {kk : Nat} (he : PE X e td) (hbase : attributeBase e "items" X.env (eval e X.env) = eval e X.env) (hline : (apos.endLine == cpos.line) = true) :
    PI X (.Tuple elts kk tpos) (.Call (.Attribute e "items" apos) [] [] cpos) (iItmT td) := by
  refine ⟨fun pins s σ H R J h => ?_⟩
  refine wpAny_Call_method (T := "dict") (id := "dict.items") hbase rfl hline PySem.F.plainAttrs_dict PySem.F.slot_dict_items PySem.F.type_dict_items (thn (he.run pins s σ H _ J h) fun u sa ⟨x, Ha, Ja, rx, qx⟩ => ?_)
  obtain ⟨d, o, kvs, ex, hd, q⟩ := qx
  subst ex
  obtain rfl : u = Value.ref d := rx
  obtain ⟨hs, es, ep, hdt, raw, hsz, hent⟩ := frz_raw Ja hd
  have hx := raw
  obtain ⟨o2, ho2, hx2, hd2⟩ := hx
  refine ⟨raw.typeIs, ?_, ?_⟩
  · intro a z
    cases z
    exact ⟨o2, ho2, hx2.2.1⟩
  · have Jb : Inv X pins σ Ha { sa with heap := sa.heap.push { cls := .type "dict_items", data := .fields #[.ref d] } } := Ja.kept (t' := sa.toks) fun b ob q => Heap.get?_push_of_some _ q
    have fin : wpAny (model X.prog X.w) X.A (pyIter (.ref sa.heap.objs.size)) (PIE X pins σ (.Tuple elts kk tpos) R) X.xe { sa with heap := sa.heap.push { cls := .type "dict_items", data := .fields #[.ref d] } } :=
      DT.iterI (d := d) (es := es) (ep := ep) ⟨_, Heap.get?_push_size _ rfl, rfl, rfl⟩ (raw.push _) (pi_one (tk := sa.toks) Jb _ (turn_itmT _ hdt) ⟨.none, .none, Heap.get?_push_size _ rfl⟩ q)
    exact method_meetsIn PySem.F.slot_dict_items PySem.F.entry_dict_items rfl (PySem.evalArgs_none ⟨rfl, raw.typeIs, PySem.F.args_dict_items_1 _, _, DT.meetsItems (es := es) (ep := ep) hs, raw, fin⟩)
theorem itmL_get : ∀ (ks : List Ky) (vs : List D) (l : List (List Key)) (us : List V) (i : Nat) (d : D), kT ks = some l → us.length = ks.length → (itmL ks vs)[i]? = some d → ∃ is x, ks[i]? = some (.t is) ∧ vs[i]? = some x ∧ l[i]? = some (is.map Sum.inl) ∧ d = .tup [.tup (is.map D.int), x]
  | [], vs, l, us, i, d, h, hl, e => by simp [itmL] at e
  | k :: ks, [], l, us, i, d, h, hl, e => by
    obtain ⟨is, r, rfl, _, _⟩ := kT_cons h
    simp [itmL] at e
  | k :: ks, x :: vs, l, us, i, d, h, hl, e => by
    obtain ⟨is, r, rfl, h2, rfl⟩ := kT_cons h
    cases us with
    | nil => cases hl
    | cons u us =>
      cases i with
      | zero =>
        simp only [itmL, List.getElem?_cons_zero, Option.some.injEq] at e
        exact ⟨is, x, rfl, rfl, rfl, e.symm⟩
      | succ i =>
        simp only [itmL, List.getElem?_cons_succ] at e
        obtain ⟨js, y, q1, q2, q3, q4⟩ := itmL_get ks vs r us i d h2 (by simpa using hl) e
        exact ⟨js, y, by simpa using q1, by simpa using q2, by simpa using q3, q4⟩
theorem itmL_len : ∀ (ks : List Ky) (vs : List D) (l : List (List Key)), kT ks = some l → vs.length = ks.length → (itmL ks vs).length = ks.length
  | [], vs, l, h, hl => by simp [itmL]
  | k :: ks, [], l, h, hl => by cases hl
  | k :: ks, x :: vs, l, h, hl => by
    obtain ⟨is, r, rfl, h2, rfl⟩ := kT_cons h
    simp only [itmL, List.length_cons]
    rw [itmL_len ks vs r h2 (by simpa using hl)]
theorem kV_ints (is : List Int) : (is.map (Sum.inl : Int → Key)).map kV = is.map V.int := by
  rw [List.map_map]
  rfl
theorem reps_intsI {K : PySem.W.Frag} {W : Wd} : ∀ l : List Int, Reps K W (l.map D.int) (l.map V.int)
  | [] => by simp only [List.map_nil, Reps]
  | x :: xs => by
    simp only [List.map_cons, Reps]
    exact ⟨_, _, rfl, by simp only [Rep], reps_intsI xs⟩
theorem walks_itm {K : PySem.W.Frag} {W : Wd} (A : Abs K W) {p : Addr} {ob : Obj} {ks : List Ky} {l : List (List Key)} {us : List V} {ds : List D} (hp : W.H p = some (.frz ob (.dT (l.zip us)))) (hk : kT ks = some l) (hl : us.length = ks.length) (q : Reps K W ds us) : Walks K (IteI p ob (l.zip us)) (itmL ks ds) W := by
  intro W' A' E i
  have h1 := (E.keep p _ hp (A.nolive hp (fun z => z)) (A.nolk hp (fun _ z => nomatch z))).1
  have q' := Reps.extL A E _ _ q
  have hds := reps_len _ _ q'
  have hll := kT_len ks l hk
  have hz : (l.zip us).length = ks.length := by rw [List.length_zip]; omega
  have hi := itmL_len ks ds l hk (by omega)
  refine ⟨fun d hd => ?_, fun hge => ⟨h1, by omega⟩⟩
  obtain ⟨is, x, e1, e2, e3, rfl⟩ := itmL_get ks ds l us i d hk hl hd
  obtain ⟨v, e4, r4⟩ := reps_get _ _ i q' x e2
  have ez : (l.zip us)[i]? = some (is.map Sum.inl, v) := by rw [List.getElem?_zip_eq_some]; exact ⟨e3, e4⟩
  refine ⟨⟨h1, (List.getElem?_eq_some_iff.mp ez).1⟩, fun w H' hy => ?_⟩
  obtain ⟨T, b, k, v', hkv, rfl, hT, hb, rfl⟩ := hy
  rw [ez] at hkv
  cases hkv
  rw [kV_ints] at hb
  obtain ⟨N, r⟩ := new_tup A' hT (ds := [.tup (is.map D.int), x]) (vs := [.ref b, v]) (by simp only [Reps, Rep]; exact ⟨_, _, rfl, ⟨_, _, rfl, hb, reps_intsI is⟩, _, _, rfl, r4, rfl⟩)
  exact ⟨_, rfl, N, r⟩
section
variable {X : Cx} {a b c : Expr} {pos : Pos} {ma mb mc : Env → M D}
theorem i_itm {apos cpos tpos : Pos} {elts : List Expr} {kk : Nat} (ha : PE X a (tI X.K ma)) (hbase : attributeBase a "items" X.env (eval a X.env) = eval a X.env) (hline : (apos.endLine == cpos.line) = true) :
    PI X (.Tuple elts kk tpos) (.Call (.Attribute a "items" apos) [] [] cpos) (tIt X.K fun ρ => bnd (ma ρ) fun x => match x with
    | .frd ks vs => ret (itmL ks vs)
    | _ => bad) := by
  refine (pi_itmT ha hbase hline).weak ?_
  rintro σ H R ⟨W, ρ, rfl, A, sl, xs, S', e, k⟩
  obtain ⟨x, S1, e1, e⟩ := bnd_ok e
  cases x with
  | frd ks vs =>
    obtain ⟨rfl, rfl⟩ := ret_ok (show ret (itmL ks vs) S1 = _ from e)
    refine ⟨W, ρ, rfl, A, sl, _, S1, e1, fun W1 v N r => ?_⟩
    simp only [Rep] at r
    obtain ⟨p, ob, us, l, rfl, hp, h1, h2, q⟩ := r
    exact ⟨p, ob, l.zip us, rfl, hp, k W1 _ N (walks_itm N.ab hp h1 h2 q)⟩
  | _ => cases e
theorem rngC_get {i c : Int} {n k : Nat} {d : D} (h : (rngC i c n)[k]? = some d) : k < n ∧ d = .int (i + (k : Nat) * c) := by
  unfold rngC at h
  rw [List.getElem?_map] at h
  obtain ⟨j, hj, rfl⟩ := Option.map_eq_some_iff.mp h
  obtain ⟨h1, h2⟩ := List.getElem?_eq_some_iff.mp hj
  rw [List.length_range] at h1
  rw [List.getElem_range] at h2
  subst h2
  exact ⟨h1, rfl⟩
theorem i_rng3 {tg : Expr} {p : Pos} (hg : Gl X "range") (hm : X.mg "range" = none) (ha : PE X a (tI X.K ma)) (hb : PE X b (tI X.K mb)) (hc : PE X c (tI X.K mc)) (h1 : starEach [a, b, c] X.env = (false, eval a X.env) :: starEach [b, c] X.env)
    (h2 : starEach [b, c] X.env = (false, eval b X.env) :: starEach [c] X.env) (h3 : starEach [c] X.env = (false, eval c X.env) :: starEach [] X.env) (hpl : (backTo pos (starEach [b, c] X.env)).any (·.1) = false) :
    PI X tg (.Call (.Name "range" p) [a, b, c] [] pos) (tIt X.K fun ρ => bnd (ma ρ) fun x => bnd (mb ρ) fun y => bnd (mc ρ) fun z => rng3D x y z) := by
  refine (pi_range3 hg hm (s_cons ha (s_cons hb (s_cons hc s_nil h3) h2) h1) h1 hpl).weak ?_
  rintro σ H R ⟨W, ρ, rfl, A, sl, xs, S', e, k⟩
  obtain ⟨x, S1, e1, e⟩ := bnd_ok e
  obtain ⟨y, S2, e2, e⟩ := bnd_ok e
  obtain ⟨z, S3, e3, e⟩ := bnd_ok e
  cases x with
  | int i =>
    cases y with
    | int j =>
      cases z with
      | int c =>
        obtain ⟨hn, e⟩ := need_ok (show need _ (ret (rngC i c (Builtin.Range.rangeSize i j c).toNat)) S3 = _ from e)
        obtain ⟨hn, q4⟩ := and2 hn
        obtain ⟨hn, q3⟩ := and2 hn
        obtain ⟨q1, q2⟩ := and2 hn
        obtain ⟨rfl, rfl⟩ := ret_ok e
        have q4 := of_decide_eq_true q4
        refine ⟨W, ρ, rfl, A, sl, [.int i, .int j, .int c], S3, bnd_mk e1 (bnd_mk (bnd_mk e2 (bnd_mk (bnd_mk e3 rfl) rfl)) rfl), fun W1 vs N r => ?_⟩
        simp only [Reps, Rep] at r
        obtain ⟨_, _, rfl, rfl, _, _, rfl, rfl, _, _, rfl, rfl, rfl⟩ := r
        refine ⟨i, j, c, (Builtin.Range.rangeSize i j c).toNat, rfl, ⟨of_decide_eq_true q1, of_decide_eq_true q2, q3, by omega⟩, k W1 _ N ?_⟩
        intro W' A' E m
        refine ⟨fun d hd => ?_, fun hge => ?_⟩
        · obtain ⟨hm, rfl⟩ := rngC_get hd
          refine ⟨hm, fun v H' hy => ?_⟩
          obtain ⟨rfl, rfl⟩ := hy
          exact ⟨W', rfl, Nxt.refl A', by simp only [Rep]⟩
        · unfold rngC at hge
          rw [List.length_map, List.length_range] at hge
          exact hge
      | _ => cases e
    | _ => cases e
  | _ => cases e
/-- a subscript of a dict that may be locked -/
theorem s_dgetF {pos' : Pos} (hu : X.A.units + 1 < cLine) (ha : PE X a (tI X.K ma)) (hb : PE X b (tI X.K mb)) (hs : NoSl b) : PE X (.Subscript a b pos) (tI X.K fun ρ => bnd (ma ρ) fun x => bnd (mb ρ) fun y => dgetF x y) := by
  refine ⟨fun pins s σ H Q J h => ?_⟩
  obtain ⟨W, ρ, e0, A, sl, d, S', e, k⟩ := id h
  obtain ⟨x, S1, e1, e⟩ := bnd_ok e
  obtain ⟨y, S2, e2, e⟩ := bnd_ok e
  cases x with
  | frd ks vs =>
    refine (pe_dget hu ha hb hs).run pins s σ H Q J ⟨W, ρ, e0, A, sl, _, S1, e1, fun W1 v1 N1 r1 => ?_⟩
    refine ⟨W1, ρ, rfl, N1.ab, sl.ext A N1.ext, y, S2, by rw [N1.st]; exact e2, fun W2 v2 N2 r2 => ?_⟩
    have r1' := Rep.ext N1.ab N2.ext _ _ r1
    simp only [Rep] at r1'
    obtain ⟨p, ob, us, l, rfl, hp, h1, h2, r⟩ := r1'
    change (match keyD y with
      | some (.t is) => opt (lookY ks vs (.t is))
      | _ => bad) S2 = _ at e
    cases y with
    | tup ys =>
      rw [show keyD (.tup ys) = (match keyI ys with
        | some l => some (.t l)
        | none => none) from rfl] at e
      cases hk : keyI ys with
      | none => rw [hk] at e; cases e
      | some is =>
        rw [hk] at e
        obtain ⟨e4, rfl⟩ := opt_ok (show opt (lookY ks vs (.t is)) S2 = _ from e)
        simp only [Rep] at r2
        obtain ⟨b', ws, rfl, hb', rv⟩ := r2
        rw [keyI_ok ys ws is hk rv] at hb'
        have hl := look_T ks vs us l h1 h2 r (is := is)
        rw [e4] at hl
        cases hv : valV (l.zip us) (is.map Sum.inl) with
        | none => rw [hv] at hl; exact hl.elim
        | some v =>
          rw [hv] at hl
          exact ⟨p, v, rfl, .inr ⟨_, _, b', .inr ⟨ob, hp⟩, rfl, hb', hv.symm⟩, k W2 v (N1.trans N2) hl⟩
    | int i => cases e
    | str i => cases e
    | _ => cases e
  | _ =>
    refine (s_dget hu ha hb hs).run pins s σ H Q J ⟨W, ρ, e0, A, sl, d, S', bnd_mk e1 (bnd_mk e2 e), k⟩
end
/-- a dict's cell is locked ahead of the statement -/
theorem s_frz {X : Cx} {st : Stmt} {m : Env → M Fl} {i : Nat} (h : PS X st (tS X.K m)) : PS X st (tS X.K fun ρ => bnd (setfD ρ i) m) := by
  refine ⟨fun pins s σ H D' J hq => ?_⟩
  obtain ⟨W, ρ, rfl, A, sl, f, S', e, k⟩ := hq
  obtain ⟨ρ2, S1, e1, e2⟩ := bnd_ok e
  unfold setfD at e1
  split at e1
  · rename_i c hi
    split at e1
    · rename_i ks ds hk
      cases e1
      obtain ⟨v, h1, r1⟩ := sl.2 i _ hi
      simp only [Rep] at r1
      obtain ⟨a, rfl, ha⟩ := r1
      obtain ⟨b, kd, ds0, us, o0, h2, h3, h5, h4⟩ := A.cell c _ hk
      rw [ha] at h2
      cases h2
      obtain ⟨ks', q1, q2, q3⟩ := h5
      cases q1
      obtain ⟨l, q4, rfl⟩ := dicO_T q3
      obtain ⟨od, J1⟩ := J.lock h3 trivial
      obtain ⟨A1, E1, r2⟩ := frz_cell (ob := od) A hk ha h3 q4 q2 h4
      refine h.run pins s σ _ D' J1 ⟨{ W with H := upd W.H a (.frz od (.dT (l.zip us))), S := W.S.set c none }, _, rfl, A1, ?_, f, S', e2, fun W' N => k W' ⟨N.st, N.lk, N.ab, E1.trans N.ext⟩⟩
      have q := (sl.ext A E1).set i r2
      rw [show σ.set i (some (V.ref a)) = σ from ?_] at q
      · exact q
      · apply List.ext_getElem?
        intro j
        by_cases hj : j = i
        · subst hj
          rw [List.getElem?_set_self (List.getElem?_eq_some_iff.mp h1).1, h1]
        · rw [List.getElem?_set_ne (Ne.symm hj)]
    · cases e1
  · cases e1
end AG
namespace AG
open PySem PySem.Spec PyProof.Rows L2
/-! ### attributes, methods, new objects -/
/-- what super() is not -/
def okBase : Expr → Bool
  | .Call (.Name x _) _ _ _ => !(x == ("super" : Str))
  | _ => true
theorem ab_ok {e : Expr} (h : okBase e = true) (n : Str) (env : PySem.Env) : attributeBase e n env (eval e env) = eval e env := by
  unfold attributeBase
  split
  · rename_i id p pos
    have : (id != ("super" : Str)) = true := h
    rw [this]
    rfl
  · rfl
/-- a written class of the text -/
structure ClsT (K : PySem.W.Frag) (c : String) (C : Addr) : Prop where
  at_ : PySem.W.nsIn K mainGlobals (Str.ofString c) = some (some (.ref C))
  cls : Cls K C
section
variable {X : Cx} {o e value : Expr} {es : List Expr} {f : Str} {pos pos' apos p : Pos} {mo me ma : Env → M D} {ms : Env → M (List D)}
/-- the attribute's name is none of the class -/
def FldOk (K : PySem.W.Frag) (f : Str) : Prop := ∀ c C, PySem.W.nsIn K mainGlobals c = some (some (.ref C)) → Cls K C → NoAttr K C f
theorem s_fld {f : String} {c : String} {C : Addr} (T : ClsT X.K c C) (hn : NoAttr X.K C (Str.ofString f)) (ho : PE X o (tI X.K mo)) (hb : okBase o = true) :
    PE X (.Attribute o (Str.ofString f) pos) (tI X.K fun ρ => bnd (mo ρ) (fldD c f)) := by
  refine (pe_fld ho (ab_ok hb _ _)).weak ?_
  rintro σ H Q ⟨W, ρ, rfl, A, sl, d, S', e, k⟩
  obtain ⟨x, S1, e1, e⟩ := bnd_ok e
  refine ⟨W, ρ, rfl, A, sl, x, S1, e1, fun W1 v N r => ?_⟩
  unfold fldD at e
  split at e
  · rename_i c' kk
    obtain ⟨hc, e⟩ := need_ok e
    obtain ⟨q, S2, e2, e⟩ := bnd_ok e
    obtain ⟨hq, e⟩ := need_ok e
    obtain ⟨e3, rfl⟩ := opt_ok e
    rw [← N.st] at e2
    obtain ⟨rfl, a, xs, us, ns, C', dx, rfl, _, _, _, h1, h2, h3, h4, h5⟩ := obj_ok N.ab r e2
    have hcc := of_decide_eq_true hc
    subst hcc
    rw [T.at_] at h3
    cases h3
    have := look_S (f := Str.ofString f) _ _ us ns h1 h2 h5
    rw [e3] at this
    cases hl : (ns.zip us).lookup (Str.ofString f) with
    | none => rw [hl] at this; exact this.elim
    | some w =>
      rw [hl] at this
      exact ⟨a, C, dx, _, w, rfl, h4, T.cls, hn, hl, k W1 w N.self this⟩
  · cases e
theorem s_setfl {f : String} {c : String} {C : Addr} (T : ClsT X.K c C) (hn : NoAttr X.K C (Str.ofString f)) (ho : PE X o (tI X.K mo)) (he : PE X value (tI X.K me)) (hs : swapsWith value (some (.Attribute o (Str.ofString f) pos')) pos.line X.env = pure false) :
    PS X (.Assign [.Attribute o (Str.ofString f) pos'] value pos) (tS X.K fun ρ => bnd (me ρ) fun v => bnd (mo ρ) fun x => bnd (setflD c f x v) fun _ => ret (.nx ρ)) := by
  refine (ps_fld ho he hs).weak ?_
  rintro D' σ H ⟨W, ρ, rfl, A, sl, fl, S', e, k⟩
  obtain ⟨y, S1, e1, e⟩ := bnd_ok e
  obtain ⟨x, S2, e2, e⟩ := bnd_ok e
  obtain ⟨_, S3, e3, e⟩ := bnd_ok e
  obtain ⟨rfl, rfl⟩ := ret_ok e
  refine ⟨W, ρ, rfl, A, sl, y, S1, e1, fun W1 v1 N1 r1 => ?_⟩
  refine ⟨W1, ρ, rfl, N1.ab, sl.ext A N1.ext, x, S2, by rw [N1.st]; exact e2, fun W2 v2 N2 r2 => ?_⟩
  unfold setflD at e3
  split at e3
  · rename_i c' kk
    obtain ⟨hc, e30⟩ := need_ok e3
    obtain ⟨q, S4, e4, e31⟩ := bnd_ok e30
    obtain ⟨hq, e32⟩ := need_ok e31
    obtain ⟨hq1, hq2⟩ := and2 hq
    rw [← N2.st] at e4
    obtain ⟨rfl, a, xs, us, ns, C', dx, rfl, hk, ha, _, h1, h2, h3, h4, h5⟩ := obj_ok N2.ab r2 e4
    have hcc := of_decide_eq_true hc
    subst hcc
    have h3' := h3
    rw [T.at_] at h3
    cases h3
    have hl100 := of_decide_eq_true hq2
    have hlz : (ns.zip us).length < 1000 := by
      rw [List.length_zip, h2]
      omega
    refine ⟨a, C, dx, _, rfl, h4, T.cls, hn, hlz, ?_⟩
    obtain ⟨l', us', q1, q2, q3, q4⟩ := put_F (f := Str.ofString f) (Rep.ext N1.ab N2.ext _ _ r1) _ _ us ns h1 h2 h5
    have e6 := setC_ok hk e32
    have N3 := set_cellK N2.ab hk ha (kd := .obj c) (xs := [.dic false (putA q.2.1 q.2.2 (.s f) y).1 (putA q.2.1 q.2.2 (.s f) y).2]) (o := .ins C dx (L2.putF (Str.ofString f) v1 (ns.zip us))) ⟨_, l', C, dx, rfl, q1, q2, h3', by rw [q3]⟩ q4
    rw [← e6] at N3
    have E := (N1.ext.trans N2.ext).trans N3.ext
    exact k _ ⟨N3.st, N3.lk.trans (N2.lk.trans N1.lk), N3.ab, E⟩ σ (sl.ext A E)
  · cases e3
theorem dputD_ok {W : Wd} (A : Abs X.K W) {x y w : D} {v1 v2 v3 : V} {S' : Sto} {u : Unit} (r1 : Rep X.K W x v1) (r2 : Rep X.K W y v2) (r3 : Rep X.K W w v3) (e : dputD x y w W.S = .ok u S') :
    ∃ a H4, v1 = .ref a ∧ DPut W.H a v2 v3 H4 ∧ ∃ W', W'.H = H4 ∧ Nxt X.K W S' W' := by
  unfold dputD at e
  split at e
  · rename_i t c
    obtain ⟨p, S3, e3, e⟩ := bnd_ok e
    cases hk : keyD y with
    | none => rw [hk] at e; cases e
    | some q =>
      rw [hk] at e
      obtain ⟨hc, e0⟩ := need_ok e
      obtain ⟨hc1, hc3⟩ := and2 hc
      obtain ⟨hc11, hc2⟩ := and2 hc1
      have c1 := eq_of_beq hc11
      have c2 := eq_of_beq hc2
      have c3 := of_decide_eq_true hc3
      -- the cell
      unfold getK at e3
      obtain ⟨xs, S4, e4, e33⟩ := bnd_ok e3
      unfold getC at e4
      split at e4
      · rename_i ys hcell
        cases e4
        obtain ⟨a, kd, ds, us, o, h1, h2, h3, h4⟩ := A.cell c _ hcell
        simp only [Rep] at r1
        obtain ⟨b, rfl, h5⟩ := r1
        rw [h1] at h5
        cases h5
        obtain ⟨ks, rfl, h6, h7⟩ := h3
        obtain ⟨rfl, rfl⟩ := ret_ok (show ret (t, ks, ds) W.S = _ from e33)
        have e6 := setC_ok hcell e0
        simp only [] at e6 c3
        -- by the key's kind
        have fin : ∀ (o' : HO) (us' : List V), us'.length = (putY ks ds q w).1.length → dicO t (putY ks ds q w).1 us' = some o' → Reps X.K W (putY ks ds q w).2 us' → ∃ W', W'.H = upd W.H a o' ∧ Nxt X.K W S' W' := fun o' us' z1 z2 z3 => by
          have N := set_cellK A hcell h1 (kd := .dic t) (xs := [.dic t (putY ks ds q w).1 (putY ks ds q w).2]) (o := o') ⟨_, rfl, z1, z2⟩ z3
          rw [← e6] at N
          exact ⟨_, rfl, N⟩
        have keyK : ∀ (yk : Key), kyV q = some yk → v2 = kV yk → t = false → ∃ H4, DPut W.H a v2 v3 H4 ∧ ∃ W', W'.H = H4 ∧ Nxt X.K W S' W' := fun yk hq hv ht => by
          subst ht
          obtain ⟨l, hl, rfl⟩ := dicO_K h7
          have hll := kK_len ks l hl
          refine ⟨upd W.H a (.dK (L2.putK (l.zip us) yk v3)), ?_, ?_⟩
          · rw [hv]
            exact DPut.k h2 (by rw [List.length_zip, sizeLine_eq]; omega)
          · unfold L2.putK
            by_cases hm : q ∈ ks
            · have hm2 := (kK_mem hq ks l hl).mp hm
              rw [if_pos (zip_anyT (by omega) hm2)]
              obtain ⟨z1, z2⟩ := zip_set (y := yk) (w := v3) l us (by omega)
              rw [z1]
              have ey : putY ks ds q w = (ks, setY ks ds q w) := if_pos hm
              refine fin _ (setV l us yk v3) (by rw [ey, z2, hll]) ?_ (by rw [ey]; exact set_K hq r3 ks ds us l hl h6 h4)
              rw [ey]
              show dicO false ks _ = _
              unfold dicO
              simp only [hl, Option.map_some]
            · have hm2 : ¬ yk ∈ l := fun z => hm ((kK_mem hq ks l hl).mpr z)
              rw [if_neg (zip_anyF (by omega) hm2)]
              have ey : putY ks ds q w = (ks ++ [q], ds ++ [w]) := if_neg hm
              refine fin _ (us ++ [v3]) (by rw [ey, List.length_append, List.length_append, h6]; rfl) ?_ (by rw [ey]; exact reps_app _ _ _ _ h4 (reps_one r3))
              rw [ey]
              show dicO false (ks ++ [q]) _ = _
              unfold dicO
              simp only [kK_app hq ks l hl, Option.map_some]
              rw [List.zip_append (by omega)]
              rfl
        unfold keyD at hk
        split at hk
        · cases hk
          obtain ⟨H4, z1, z2⟩ := keyK (.inl _) rfl (rep_int r2) c2.symm
          exact ⟨a, H4, rfl, z1, z2⟩
        · cases hk
          obtain ⟨H4, z1, z2⟩ := keyK (.inr _) rfl (by simp only [Rep] at r2; exact r2) c2.symm
          exact ⟨a, H4, rfl, z1, z2⟩
        · rename_i zs
          cases hi : keyI zs with
          | none => rw [hi] at hk; cases hk
          | some is =>
            rw [hi] at hk
            cases hk
            have ht : t = true := c2.symm
            subst ht
            obtain ⟨l, hl, rfl⟩ := dicO_T h7
            have hll := kT_len ks l hl
            simp only [Rep] at r2
            obtain ⟨pk, vs, rfl, hb, rv⟩ := r2
            rw [keyI_ok zs vs is hi rv] at hb
            refine ⟨a, upd W.H a (.dT (L2.putK (l.zip us) (is.map Sum.inl) v3)), rfl, DPut.t h2 hb (by rw [List.length_zip, sizeLine_eq]; omega), ?_⟩
            unfold L2.putK
            by_cases hm : Ky.t is ∈ ks
            · have hm2 := (kT_mem ks l hl).mp hm
              rw [if_pos (zip_anyT (by omega) hm2)]
              obtain ⟨z1, z2⟩ := zip_set (y := is.map Sum.inl) (w := v3) l us (by omega)
              rw [z1]
              have ey : putY ks ds (.t is) w = (ks, setY ks ds (.t is) w) := if_pos hm
              refine fin _ (setV l us (is.map Sum.inl) v3) (by rw [ey, z2, hll]) ?_ (by rw [ey]; exact set_T r3 ks ds us l hl h6 h4)
              rw [ey]
              show dicO true ks _ = _
              unfold dicO
              simp only [hl, Option.map_some]
            · have hm2 : ¬ is.map Sum.inl ∈ l := fun z => hm ((kT_mem ks l hl).mpr z)
              rw [if_neg (zip_anyF (by omega) hm2)]
              have ey : putY ks ds (.t is) w = (ks ++ [.t is], ds ++ [w]) := if_neg hm
              refine fin _ (us ++ [v3]) (by rw [ey, List.length_append, List.length_append, h6]; rfl) ?_ (by rw [ey]; exact reps_app _ _ _ _ h4 (reps_one r3))
              rw [ey]
              show dicO true (ks ++ [.t is]) _ = _
              unfold dicO
              simp only [kT_app ks l hl, Option.map_some]
              rw [List.zip_append (by omega)]
              rfl
        · cases hk
      · cases e4
  · cases e
theorem s_dput {i : Expr} {mi : Env → M D} (hu : X.A.units + 1 < cLine) (ho : PE X o (tI X.K mo)) (hi : PE X i (tI X.K mi)) (he : PE X value (tI X.K me)) (hs : swapsWith value (some (.Subscript o i pos')) pos.line X.env = pure false) :
    PS X (.Assign [.Subscript o i pos'] value pos) (tS X.K fun ρ => bnd (me ρ) fun v => bnd (mo ρ) fun x => bnd (mi ρ) fun y => bnd (dputD x y v) fun _ => ret (.nx ρ)) := by
  refine (ps_dput hu ho hi he hs).weak ?_
  rintro D' σ H ⟨W, ρ, rfl, A, sl, fl, S', e, k⟩
  obtain ⟨z, S1, e1, e⟩ := bnd_ok e
  obtain ⟨x, S2, e2, e⟩ := bnd_ok e
  obtain ⟨y, S3, e3, e⟩ := bnd_ok e
  obtain ⟨_, S4, e4, e⟩ := bnd_ok e
  obtain ⟨rfl, rfl⟩ := ret_ok e
  refine ⟨W, ρ, rfl, A, sl, z, S1, e1, fun W1 v1 N1 r1 => ?_⟩
  refine ⟨W1, ρ, rfl, N1.ab, sl.ext A N1.ext, x, S2, by rw [N1.st]; exact e2, fun W2 v2 N2 r2 => ?_⟩
  refine ⟨W2, ρ, rfl, N2.ab, (sl.ext A N1.ext).ext N1.ab N2.ext, y, S3, by rw [N2.st]; exact e3, fun W3 v3 N3 r3 => ?_⟩
  rw [← N3.st] at e4
  obtain ⟨a, H4, rfl, h1, W4, rfl, N4⟩ := dputD_ok N3.ab (Rep.ext N2.ab N3.ext _ _ r2) r3 (Rep.ext N1.ab (N2.ext.trans N3.ext) _ _ r1) e4
  have E := ((N1.ext.trans N2.ext).trans N3.ext).trans N4.ext
  exact ⟨a, W4.H, rfl, h1, k _ ⟨N4.st, N4.lk.trans (N3.lk.trans (N2.lk.trans N1.lk)), N4.ab, E⟩ σ (sl.ext A E)⟩
theorem s_star {p : Pos} (he : PE X e (tI X.K me)) (hr : PA X es (tAs X.K ms)) (hs : starEach (.Starred e p :: es) X.env = (true, eval e X.env) :: starEach es X.env := by rfl) :
    PA X (.Starred e p :: es) (tAs X.K fun ρ => bnd (me ρ) fun x => bnd (itemsD x) fun ys => bnd (ms ρ) fun xs => ret (ys ++ xs)) := by
  refine (StX.pa_star he hr hs).weak ?_
  rintro σ H Q ⟨W, ρ, rfl, A, sl, d, S', e, k⟩
  obtain ⟨x, S1, e1, e⟩ := bnd_ok e
  obtain ⟨ys, S2, e2, e⟩ := bnd_ok e
  obtain ⟨xs, S3, e3, e⟩ := bnd_ok e
  obtain ⟨rfl, rfl⟩ := ret_ok e
  refine ⟨W, ρ, rfl, A, sl, x, S1, e1, fun W1 v N r => ?_⟩
  rw [← N.st] at e2
  obtain ⟨rfl, p, vs, rfl, hq, q⟩ := items_ok N.ab r e2
  refine ⟨p, vs, rfl, hq.elim .inr fun z => .inl z.1, W1, ρ, rfl, N.ab, sl.ext A N.ext, xs, S3, e3, fun W2 us N2 r2 => ?_⟩
  exact k W2 _ ⟨N2.st, N2.lk.trans N.lk, N2.ab, N.ext.trans N2.ext⟩ (reps_app _ _ _ _ (Reps.ext N.ab N2.ext _ _ q) r2)
/-! calls of methods -/
variable {k : Nat} {fa C : Addr} {sp : Sp} {m : Str} {te : TE} {t : TA}
def tMethG (C : Addr) (m : Str) (sp : Sp) (ta : TE) (t : TA) : TE := fun σ H Q => ta σ H fun x H1 => ∃ a dx fs, x = .ref a ∧ H1 a = some (.ins C dx fs) ∧ fs.lookup m = none ∧ t σ H1 fun vs H2 => sp (x :: vs) H2 Q E0
theorem g_meth (he : PE X o te) (hb0 : okBase o = true) (c : Cls X.K C) (hm : Meth X.K C m fa) (F : FnW X.prog X.w X.K X.mg X.base k fa sp) (hgd : X.A.guards = some []) (hr : Room k X.A) (ha : PA X (e :: es) t)
    (hst : starEach (e :: es) X.env = (false, eval e X.env) :: starEach es X.env) (hpl : (backTo pos (starEach es X.env)).any (·.1) = false)
    (hf : methodCallForm (e :: es).length (backTo pos (starEach (e :: es) X.env)) (backToKw pos (keywordEach [] X.env)) = true) (hl : (apos.endLine == pos.line) = true) :
    PE X (.Call (.Attribute o m apos) (e :: es) [] pos) (tMethG C m sp te t) := by
  refine ⟨fun pins s σ H Q I h => ?_⟩
  refine PySem.W.methodCall_KW (pl := plainOf o X.env) (thn (he.run pins s σ H _ I h) fun u s1 ⟨x, H1, I1, rx, a, dx, fs, ex, ea, l, q⟩ => ?_) ?_
  · subst ex
    obtain rfl : u = Value.ref a := rx
    refine getmeth_ok I1 ea c hm l ?_
    refine PySem.W.callWith_K (first := [.ref a]) (h₀ := X.base) I.ok.mod.kin hm.kp (thn (ha.run pos pins s1 σ H1 _ I1 q) fun us s2 ⟨vs, H2, I2, r, q2⟩ => ⟨I2.kIn, ?_⟩) hst hpl
    exact g_run (us := .ref a :: us) (vs := .ref a :: vs) F hgd hr I2 (.cons rfl r) q2
  · show (do
      let ov ← attributeBase o m X.env (eval o X.env)
      standAt apos.atName
      methodCall o m apos pos X.env ov ((e :: es).length + ([] : List Keyword).length) (backTo pos (starEach (e :: es) X.env)) (backToKw pos (keywordEach [] X.env))) = _
    rw [ab_ok hb0]
    congr 1
    funext ov
    congr 1
    funext _
    exact mcall_line hf hl
theorem g_meth0 (he : PE X o te) (hb0 : okBase o = true) (c : Cls X.K C) (hm : Meth X.K C m fa) (F : FnW X.prog X.w X.K X.mg X.base k fa sp) (hgd : X.A.guards = some []) (hr : Room k X.A) (hl : (apos.endLine == pos.line) = true) :
    PE X (.Call (.Attribute o m apos) [] [] pos) (tMethG C m sp te tNil) := by
  refine ⟨fun pins s σ H Q I h => ?_⟩
  refine PySem.W.methodCall_KW (pl := plainOf o X.env) (thn (he.run pins s σ H _ I h) fun u s1 ⟨x, H1, I1, rx, a, dx, fs, ex, ea, l, q⟩ => ?_) ?_
  · subst ex
    obtain rfl : u = Value.ref a := rx
    refine getmeth_ok I1 ea c hm l ?_
    exact PySem.W.callWith_K0 (first := [.ref a]) I1.kIn hm.kp (g_run (us := [.ref a]) (vs := [.ref a]) F hgd hr I1 (.cons rfl .nil) q)
  · show (do
      let ov ← attributeBase o m X.env (eval o X.env)
      standAt apos.atName
      methodCall o m apos pos X.env ov (([] : List Expr).length + ([] : List Keyword).length) (backTo pos (starEach [] X.env)) (backToKw pos (keywordEach [] X.env))) = _
    rw [ab_ok hb0]
    congr 1
    funext ov
    congr 1
    funext _
    exact mcall_line rfl hl
/-- o.m(..) by data -/
theorem m_call {c : String} {m0 : String} {n : Nat} {F : List D → M D} (T : ClsT X.K c C) (hm : m = Str.ofString m0) (hn : ∀ (ρ : Env) (S : Sto) (xs : List D) (S' : Sto), ms ρ S = .ok xs S' → xs.length + 1 = n) :
    ∀ σ H Q, tI X.K (fun ρ => bnd (mo ρ) fun x => bnd (isO c m0 x) fun _ => bnd (ms ρ) fun xs => F (x :: xs)) σ H Q → tMethG C m (spF X.K n F) (tI X.K mo) (tAs X.K ms) σ H Q := by
  subst hm
  rintro σ H Q ⟨W, ρ, rfl, A, sl, d, S', e, kk⟩
  obtain ⟨x, S1, e1, e10⟩ := bnd_ok e
  obtain ⟨_, S2, e2, e20⟩ := bnd_ok e10
  obtain ⟨xs, S3, e3, e30⟩ := bnd_ok e20
  refine ⟨W, ρ, rfl, A, sl, x, S1, e1, fun W1 v N r => ?_⟩
  cases x with
  | obj c' ko =>
    simp only [isO] at e2
    obtain ⟨hc, e2⟩ := need_ok e2
    obtain ⟨q, S4, e4, e2⟩ := bnd_ok e2
    obtain ⟨hq, e2⟩ := need_ok e2
    obtain ⟨_, rfl⟩ := ret_ok e2
    obtain ⟨_, hq2⟩ := and2 hq
    rw [← N.st] at e4
    obtain ⟨rfl, a, ys, us, ns, C', dx, rfl, hk, ha, _, h1, h2, h3, h4, h5⟩ := obj_ok N.ab r e4
    have hcc := of_decide_eq_true hc
    subst hcc
    rw [T.at_] at h3
    cases h3
    have hlook : (ns.zip us).lookup (Str.ofString m0) = none := by
      have := look_S (f := Str.ofString m0) _ _ us ns h1 h2 h5
      cases hl : lookY q.2.1 q.2.2 (.s m0) with
      | some d0 => rw [hl] at hq2; cases hq2
      | none =>
        rw [hl] at this
        cases hz : (ns.zip us).lookup (Str.ofString m0) with
        | none => rfl
        | some w => rw [hz] at this; exact this.elim
    refine ⟨a, dx, _, rfl, h4, hlook, W1, ρ, rfl, N.ab, sl.ext A N.ext, xs, S3, e3, fun W2 vs N2 r2 => ?_⟩
    refine ⟨?_, W2, .obj c ko :: xs, rfl, N2.ab, ?_, d, S', by rw [N2.st]; exact e30, fun W3 v N3 r3 => kk W3 v ⟨N3.st, N3.lk.trans (N2.lk.trans N.lk), N3.ab, (N.ext.trans N2.ext).trans N3.ext⟩ r3⟩
    · rw [List.length_cons, reps_len _ _ r2]
      exact hn _ _ _ _ e3
    · simp only [Reps]
      exact ⟨_, _, rfl, Rep.ext N.ab N2.ext _ _ r, r2⟩
  | _ => cases e2
/-! C(..) -/
def tMakeG (C : Addr) (sp : Sp) (t : TA) : TE := fun σ H Q => t σ H fun vs H1 => ∀ x dx, H1 x = none → H1 dx = none → dx ≠ x →
  sp (.ref x :: vs) (upd (upd H1 dx (.own x)) x (.ins C dx [])) (fun v H2 => v = .non ∧ Q (.ref x) H2) E0
theorem guards_make {A : Around} {C : Addr} {us : List Value} {kw : List (Str × Value)} (h : A.guards = some []) : (A.under (.builtin "type.__call__" ⟨.ref C :: us, kw⟩)).guards = some [] := by
  first
    | exact h
    | (simp [Around.under, Code.weight, Code.isCreation, Code.isGuard, Code.isCaller, Code.frames, Code.isFrame, guardIds, h]; done)
theorem g_make {x : Str} (M : Mk X.K C fa) (F : FnW X.prog X.w X.K X.mg X.base k fa sp) (hgd : X.A.guards = some []) (hr : Room (k + 1) X.A) (hg : Gl X x) (hm : X.mg x = some (.ref C))
    (ha : PA X (e :: es) t) (hdb : (x == ("__debug__" : Str)) = false) (he : starEach (e :: es) X.env = (false, eval e X.env) :: starEach es X.env) (hpl : (backTo pos (starEach es X.env)).any (·.1) = false) :
    PE X (.Call (.Name x p) (e :: es) [] pos) (tMakeG C sp t) := by
  refine ⟨fun pins s σ H Q I h => ?_⟩
  refine wpAny_Call_Name_kw (ld_glob I hg hm ?_ hdb)
  refine PySem.W.callWith_K (h₀ := X.base) I.ok.mod.kin M.kp (thn (ha.run pos pins s σ H _ I h) fun us s1 ⟨vs, H1, I1, r, q⟩ => ⟨I1.kIn, ?_⟩) he hpl
  have hq := q (s1.heap.objs.size + 1) s1.heap.objs.size (I1.hok.fresh (Nat.le_succ _)) (I1.hok.fresh (Nat.le_refl _)) (Nat.ne_of_lt (Nat.lt_succ_self _))
  have I2 := Inv.made (C := C) I1
  have r2 : Vals (V.ref (s1.heap.objs.size + 1) :: vs) (Value.ref (s1.heap.objs.size + 1) :: us) := .cons rfl r
  refine wpAny_call (make_map (f := fa) I1.kIn M.makes M.init (beq_iff_eq.mp M.fn) (codeAny_mono (F.go _ X.stack _ _ (Value.ref (s1.heap.objs.size + 1) :: us) _ _ E0 (guards_make hgd) (hr.make C us [])
    (I2.env0.make C us []) I2.kIn r2 hq) fun r s' hq' => ?_))
  cases r with
  | error e => exact (cx_e0 hq').elim
  | ok fl =>
    cases fl with
    | ret u =>
      obtain ⟨v, H', I3, rv, ev, q3⟩ := I2.after hq'
      subst ev
      exact ⟨rv, ⟨V.ref (s1.heap.objs.size + 1), H', I3, rfl, q3⟩⟩
    | next => exact False.elim hq'
    | brk => exact False.elim hq'
    | cont => exact False.elim hq'
theorem mk_call {c : String} {n : Nat} {F : List D → M D} (T : ClsT X.K c C) (hn : ∀ (ρ : Env) (S : Sto) (xs : List D) (S' : Sto), ms ρ S = .ok xs S' → xs.length + 1 = n) :
    ∀ σ H Q, tI X.K (fun ρ => bnd (ms ρ) fun xs => bnd (newO c) fun o => bnd (F (o :: xs)) fun r => bnd (isNon r) fun _ => ret o) σ H Q → tMakeG C (spF X.K n F) (tAs X.K ms) σ H Q := by
  rintro σ H Q ⟨W, ρ, rfl, A, sl, d, S', e, kk⟩
  obtain ⟨xs, S1, e1, e10⟩ := bnd_ok e
  obtain ⟨o, S2, e2, e20⟩ := bnd_ok e10
  obtain ⟨r, S3, e3, e30⟩ := bnd_ok e20
  obtain ⟨_, S4, e4, e40⟩ := bnd_ok e30
  obtain ⟨rfl, rfl⟩ := ret_ok e40
  refine ⟨W, ρ, rfl, A, sl, xs, S1, e1, fun W1 vs N r1 => fun x dx hx hdx ne => ?_⟩
  -- the dict ahead, then the object
  obtain ⟨N1, _, _⟩ := new_obj N.ab hdx (.own x)
  have hx2 : (upd W1.H dx (.own x)) x = none := by rw [upd_ne (Ne.symm ne)]; exact hx
  obtain ⟨N2, hat⟩ := new_cellK N1.ab (p := x) hx2 (kd := .obj c) (xs := [.dic false [] []]) (ds := []) (us := []) (o := .ins C dx []) ⟨[], [], C, dx, rfl, rfl, rfl, T.at_, rfl⟩ (by simp only [Reps])
  cases e2
  have hS : W1.S = S1 := N.st
  subst hS
  refine ⟨by rw [List.length_cons, reps_len _ _ r1]; exact hn _ _ _ _ e1, _, .obj c W1.S.length :: xs, rfl, N2.ab, ?_, r, S3, e3, fun W3 v N3 r3 => ?_⟩
  · simp only [Reps]
    refine ⟨_, _, rfl, ?_, Reps.ext N.ab (N1.ext.trans N2.ext) _ _ r1⟩
    simp only [Rep]
    exact ⟨x, rfl, hat⟩
  · unfold isNon at e4
    split at e4
    · obtain ⟨_, rfl⟩ := ret_ok e4
      simp only [Rep] at r3
      refine ⟨r3, kk W3 _ ⟨N3.st, N3.lk.trans (N2.lk.trans (N1.lk.trans N.lk)), N3.ab, ((N.ext.trans N1.ext).trans N2.ext).trans N3.ext⟩ ?_⟩
      simp only [Rep]
      exact ⟨x, rfl, N3.ext.pre _ _ hat⟩
    · cases e4
end
end AG
namespace AG
open PySem PySem.Spec PyProof.Rows L2
def nstB : Expr → Bool
  | .BinOp .. => true
  | _ => false
/-! ### int('1' + '0' * n) -/
def zerosV (n : Nat) : Str := if n = 0 then Str.empty else if n = 1 then "0" else ⟨(List.replicate n ("0" : Str).cps).foldl (· ++ ·) #[]⟩
theorem zeros_int : ∀ n : Fin 41, PySem.intText? (("1" : Str) ++ zerosV n.val) = some ((10 : Int) ^ n.val) ∧ (("1" : Str) ++ zerosV n.val).length ≤ 640 ∧ (zerosV n.val).length ≤ 640 := by decide +kernel
def rZeros : R2 := fun x y H Q => ∃ n : Nat, x = .str "0" ∧ y = .int (n : Nat) ∧ n ≤ 40 ∧ Q (.str (zerosV n)) H
theorem op_zeros {X : Cx} : OpR X (binaryOp .Mult) rZeros := by
  intro pins s σ H x y v u Q I rx ry h
  obtain ⟨n, rfl, rfl, hn, q⟩ := h
  obtain ⟨t, rfl⟩ := rx
  obtain ⟨t2, rfl⟩ := ry
  refine PySem.P.mul_str (by rw [decide_eq_false (by omega), decide_eq_false (by omega)] <;> rfl) (fun _ _ => ?_) (fun _ _ => ?_) ?_
  · have h1 : ("0" : Str).length = 1 := by decide +kernel
    rw [h1]
    have : (1 : Int) ≤ (2 ^ 63 - 1) / (n : Int) := Int.le_ediv_of_mul_le (by omega) (by omega)
    omega
  · have h1 : ("0" : Str).length = 1 := by decide +kernel
    rw [h1]
    unfold Builtin.Str.tooLong
    exact decide_eq_false (by rw [sizeLine_eq]; omega)
  · unfold zerosV at q
    by_cases h0 : n = 0
    · subst h0
      rw [if_pos rfl] at q
      rw [if_pos (by decide)]
      exact ⟨by decide, .str _, H, I.tok _, ⟨_, rfl⟩, q⟩
    · rw [if_neg h0] at q
      rw [if_neg (by omega)]
      by_cases h1 : n = 1
      · subst h1
        rw [if_pos rfl] at q
        rw [if_pos (by decide +kernel)]
        exact ⟨.str _, H, I, ⟨_, rfl⟩, q⟩
      · rw [if_neg h1] at q
        rw [if_neg ?_]
        · have h640 := (zeros_int ⟨n, by omega⟩).2.2
          unfold zerosV at h640
          simp only [if_neg h0, if_neg h1] at h640
          exact ⟨Nat.le_trans h640 (by rw [sizeLine_eq]; omega), .str _, H, I.tok _, ⟨_, rfl⟩, q⟩
        · have h2 : (((n : Int) == 1)) = false := beq_eq_false_iff_ne.mpr (by omega)
          have h3 : ((("0" : Str).length == 0)) = false := by decide +kernel
          rw [h2, h3]
          exact Bool.false_ne_true
section
variable {X : Cx} {a : Expr} {pos : Pos} {ma : Env → M D}
theorem s_tenp {k1 k2 : Nat} {p p1 p2 q1 q2 : Pos} (hg : Gl X "int") (hm : X.mg "int" = none) (ha : PE X a (tI X.K ma)) (hs : ∀ e : Expr, nstB e = true → starEach [e] X.env = (false, eval e X.env) :: starEach [] X.env) :
    PE X (.Call (.Name "int" p) [.BinOp (.Constant (.str "1") k1 p1) .Add (.BinOp (.Constant (.str "0") k2 p2) .Mult a q2) q1] [] pos) (tI X.K fun ρ => bnd (ma ρ) tenD) := by
  refine (pe_callTy call_int_str hg hm (by decide +kernel) (pa_cons (pe_op op_add_str pe_str (pe_op op_zeros pe_str ha)) pa_nil (hs _ rfl)) (by decide) (by decide) (hs _ rfl) rfl).weak ?_
  rintro σ H Q ⟨W, ρ, rfl, A, sl, d, S', e, k⟩
  obtain ⟨x, S1, e1, e10⟩ := bnd_ok e
  refine ⟨W, ρ, rfl, A, sl, x, S1, e1, fun W1 v N r => ?_⟩
  unfold tenD at e10
  split at e10
  · rename_i n
    obtain ⟨c, e20⟩ := need_ok e10
    obtain ⟨rfl, rfl⟩ := ret_ok e20
    obtain ⟨c1, c2⟩ := and2 c
    have h0 := of_decide_eq_true c1
    have h1 := of_decide_eq_true c2
    obtain ⟨z1, z2, z3⟩ := zeros_int ⟨n.toNat, by omega⟩
    have hn : n = ((n.toNat : Nat) : Int) := (Int.toNat_of_nonneg h0).symm
    rw [rep_int r]
    refine ⟨n.toNat, rfl, by rw [← hn], by omega, ?_⟩
    refine ⟨_, _, rfl, rfl, ?_, ?_⟩
    · rw [sizeLine_eq]
      have : ("1" : Str).length = 1 := by decide +kernel
      show ("1" : Str).length + (zerosV n.toNat).length ≤ _
      have z3' : (zerosV n.toNat).length ≤ 640 := z3
      omega
    · exact ⟨_, _, rfl, z1, z2, k W1 _ N (int_rep _)⟩
  · cases e10
end
end AG
namespace AG
open PySem PySem.Spec PyProof.Rows L2
/-! ### that a tree is the text's -/
/-- what a module's name may stand for: a number, a built-in function -/
inductive CV where
  | i (j : Int) | b (id : String)
  deriving DecidableEq
def CvOk (o : Option Value) : CV → Prop
  | .i j => ∃ t, o = some (.int j t)
  | .b id => o = some (.builtin id)
/-- what a def is: one of the module, a method of a class, what makes a class's objects -/
inductive FK where
  | fn | fa (x : String) | me (c m : String) | ini (c : String)
  deriving DecidableEq
/-- exceptions' classes; defs out of which an exception may go; classes that are caught, classes that are asked for; written tuples of ints of the module -/
structure Xt where
  xcs : List String
  xs : List String
  xts : List String
  xis : List String
  gts : List (String × List Int)
structure Tb where
  fns : List (String × FK × Nat)
  bts : List Str
  cs : List (Str × CV)
  fls : List (String × String)
  xt : Xt
abbrev Tb.xcs (G : Tb) := G.xt.xcs
abbrev Tb.xs (G : Tb) := G.xt.xs
abbrev Tb.xts (G : Tb) := G.xt.xts
abbrev Tb.xis (G : Tb) := G.xt.xis
abbrev Tb.gts (G : Tb) := G.xt.gts
/-- a written tuple of ints of the module -/
def GtOk (K : PySem.W.Frag) (mg : Str → Option Value) (x : String) (is : List Int) : Prop := ∃ a, mg (Str.ofString x) = some (.ref a) ∧ ∀ H, SqT K H a (is.map V.int)
def AtK (K : PySem.W.Frag) (mg : Str → Option Value) (key : String) (f : Addr) : FK → Prop
  | .fn => mg (Str.ofString key) = some (.ref f) ∧ PySem.W.keepIn K (.ref f) = true
  | .fa x => mg (Str.ofString x) = some (.ref f) ∧ PySem.W.keepIn K (.ref f) = true
  | .me c m => ∃ C, ClsT K c C ∧ Meth K C (Str.ofString m) f
  | .ini c => ∃ C, ClsT K c C ∧ Mk K C f ∧ mg (Str.ofString c) = some (.ref C)
/-- the name by which a def is called, by so many values -/
def nmOk (G : Tb) (f : String) (x : Str) (n : Nat) : Bool := match G.fns.lookup f with
  | some (.fn, m) => decide (x = Str.ofString f) && decide (m = n)
  | some (.fa g, m) => decide (x = Str.ofString g) && decide (m = n)
  | _ => false
theorem nm_ok {G : Tb} {f : String} {x : Str} {n : Nat} (h : nmOk G f x n = true) : ∃ q, G.fns.lookup f = some (q, n) ∧ ∀ (K : PySem.W.Frag) (mg : Str → Option Value) (a : Addr), AtK K mg f a q → mg x = some (.ref a) ∧ PySem.W.keepIn K (.ref a) = true := by
  unfold nmOk at h
  split at h
  · rename_i m e
    rw [Bool.and_eq_true, decide_eq_true_eq, decide_eq_true_eq] at h
    obtain ⟨rfl, rfl⟩ := h
    exact ⟨_, e, fun K mg a h => h⟩
  · rename_i g m e
    rw [Bool.and_eq_true, decide_eq_true_eq, decide_eq_true_eq] at h
    obtain ⟨rfl, rfl⟩ := h
    exact ⟨_, e, fun K mg a h => h⟩
  · cases h
def kd (sc : Scope) (x : Str) : Option NameKind := sc.names.lookup x
/-- the names as they are read, and as they may be stored -/
structure Sx where
  sc : Scope
  ow : Scope
def isVis (s : Sx) (x : Str) : Bool := kd s.sc x == some .local || kd s.sc x == some .cell || kd s.sc x == some .free
def isLoc (s : Sx) (x : Str) : Bool := kd s.sc x == some .local || (kd s.sc x == some .cell && kd s.ow x == some .cell)
def isGl (s : Sx) (x : Str) : Bool := kd s.sc x == some .globalImplicit
def sDbg : Str := "__debug__"
def sCld : Str := "__classdict__"
def nst : Expr → Bool
  | .Starred .. => false
  | _ => true
def nsl : Expr → Bool
  | .Slice .. => false
  | _ => true
def ncomp : Expr → Bool
  | .ListComp .. => false
  | .SetComp .. => false
  | .DictComp .. => false
  | _ => true
def nset : Expr → Bool
  | .Set .. => false
  | _ => true
def isName : Expr → Bool
  | .Name .. => true
  | _ => false
def plainT : Expr → Bool
  | .UnaryOp .Not _ _ => false
  | .BoolOp .. => false
  | .IfExp .. => false
  | .Compare .. => false
  | _ => true
def okOp : Operator → Bool
  | .Add | .Sub | .Mult | .FloorDiv | .Mod | .Pow | .BitAnd => true
  | _ => false
def okC : CmpOp → Bool
  | .Eq | .NotEq | .Lt | .LtE | .Gt | .GtE | .Is | .IsNot => true
  | _ => false
def okD (o : CmpOp) : Bool := okC o || o == .In || o == .NotIn
def Bi.name : Bi → String
  | .max1 => "max" | .len => "len" | .max2 => "max" | .min2 => "min" | .min3 => "min" | .tup => "tuple" | .lst => "list" | .repr => "repr" | .all => "all" | .sum => "sum" | .sorted => "sorted" | .int => "int" | .strf => "str"
def chkTg (N : List Str) (sc : Sx) (tg : Tg) (e : Expr) : Bool := match tg, e with
  | .name i, .Name x _ => decide (N[i]? = some x) && isLoc sc x
  | .tup is, .Tuple es _ _ => decide (is.length = es.length) && (is.zip es).all fun p => match p.2 with
    | .Name x _ => decide (N[p.1]? = some x) && isLoc sc x
    | _ => false
  | .pair i is, .Tuple [.Name y _, .Tuple es _ _] _ _ => decide (N[i]? = some y) && isLoc sc y && decide (is.length = es.length) && (is.zip es).all fun p => match p.2 with
    | .Name x _ => decide (N[p.1]? = some x) && isLoc sc x
    | _ => false
  | _, _ => false
/-- pairs are drawn into a written pair -/
def okT (it : It) (t : Expr) : Bool := match it with
  | .enm _ => (match t with
    | .Tuple .. => true
    | _ => false)
  | .itm _ => (match t with
    | .Tuple .. => true
    | _ => false)
  | .zip _ _ => (match t with
    | .Tuple .. => true
    | _ => false)
  | _ => true
def ownOf (N : List Str) (own : List Nat) : List (Str × Nat) := own.map fun i => (N.getD i "", i)
section
variable (G : Tb) (N : List Str)
mutual
def chk : Ex → Sx → Expr → Bool
  | .var i, sc, e => match e with
    | .Name x _ => decide (N[i]? = some x) && isVis sc x && !(x == sDbg) && !(x == sCld)
    | _ => false
  | .int i, _, e => match e with
    | .Constant (.int j) _ _ => i == j
    | _ => false
  | .bl b, _, e => match e with
    | .Constant (.bool c) _ _ => b == c
    | _ => false
  | .non, _, e => match e with
    | .Constant .none _ _ => true
    | _ => false
  | .str s, _, e => match e with
    | .Constant (.str t) _ _ => decide (s = t)
    | _ => false
  | .glob x i, sc, e => match e with
    | .Name y _ => decide (x = y) && isGl sc x && decide ((x, CV.i i) ∈ G.cs) && !(x == sDbg)
    | _ => false
  | .bin o a b, sc, e => match e with
    | .BinOp x o' y _ => decide (o = o') && okOp o && chk a sc x && chk b sc y
    | _ => false
  | .neg a, sc, e => match e with
    | .UnaryOp .USub x _ => chk a sc x
    | _ => false
  | .cmp o a b, sc, e => match e with
    | .Compare x [o'] [y] _ => decide (o = o') && (okD o && !behindInMarks o y) && chk a sc x && chk b sc y
    | _ => false
  | .chain o p a b c, sc, e => match e with
    | .Compare x [o', p'] [y, z] _ => decide (o = o') && decide (p = p') && okC o && okC p && chk a sc x && chk b sc y && chk c sc z
    | _ => false
  | .and a b, sc, e => match e with
    | .BoolOp .And (x :: y :: r) pos => chk a sc x && chk b sc (match r with | [] => y | _ => .BoolOp .And (y :: r) pos)
    | _ => false
  | .or a b, sc, e => match e with
    | .BoolOp .Or (x :: y :: r) pos => chk a sc x && chk b sc (match r with | [] => y | _ => .BoolOp .Or (y :: r) pos)
    | _ => false
  | .not a, sc, e => match e with
    | .UnaryOp .Not x _ => chk a sc x
    | _ => false
  | .ife c a b, sc, e => match e with
    | .IfExp t x y _ => chk c sc t && chk a sc x && chk b sc y
    | _ => false
  | .tup es, sc, e => match e with
    | .Tuple xs _ _ => chkd es sc xs
    | _ => false
  | .lst _ es, sc, e => match e with
    | .List xs _ => chkd es sc xs
    | _ => false
  | .ix a i, sc, e => match e with
    | .Subscript x y _ => nsl y && chk a sc x && chk i sc y
    | _ => false
  | .sl _ a lo hi, sc, e => match e with
    | .Subscript x (.Slice l h none _) _ => chk a sc x && chko lo sc l && chko hi sc h
    | _ => false
  | .call f es, sc, e => match e with
    | .Call (.Name x _) xs [] _ => nmOk G f x xs.length && isGl sc x && !(x == sDbg) && chks es sc xs
    | _ => false
  | .fld c f o, sc, e => match e with
    | .Attribute x at_ _ => decide (at_ = Str.ofString f) && decide ((c, f) ∈ G.fls) && okBase x && chk o sc x
    | _ => false
  | .meth f c m o es, sc, e => match e with
    | .Call (.Attribute x at_ ap) xs [] cp => decide (at_ = Str.ofString m) && decide (G.fns.lookup f = some (.me c m, xs.length + 1)) && okBase x && (ap.endLine == cp.line) && decide (xs.length < 30) && chk o sc x && chks es sc xs
    | _ => false
  | .make c f es, sc, e => match e with
    | .Call (.Name x _) (y :: ys) [] _ => decide (x = Str.ofString c) && decide (G.fns.lookup f = some (.ini c, ys.length + 2)) && isGl sc x && !(x == sDbg) && chks es sc (y :: ys)
    | _ => false
  | .dget d k, sc, e => match e with
    | .Subscript x y _ => nsl y && chk d sc x && chk k sc y
    | _ => false
  | .din n k d, sc, e => match e with
    | .Compare x [o'] [y] _ => decide (o' = if n then .NotIn else .In) && !behindInMarks o' y && chk k sc x && chk d sc y
    | _ => false
  | .dnew _, sc, e => match e with
    | .Dict [] [] _ => true
    | _ => false
  | .mulL _ a b, sc, e => match e with
    | .BinOp x o' y _ => decide (o' = .Mult) && chk a sc x && chk b sc y
    | _ => false
  | .addL _ a b, sc, e => match e with
    | .BinOp x o' y _ => decide (o' = .Add) && chk a sc x && chk b sc y
    | _ => false
  | .tenp a, sc, e => match e with
    | .Call (.Name x _) [.BinOp (.Constant (.str s1) _ _) o1 (.BinOp (.Constant (.str s2) _ _) o2 y _) _] [] _ => decide (x = "int") && decide (s1 = "1") && decide (s2 = "0") && decide (o1 = .Add) && decide (o2 = .Mult) && decide (x ∈ G.bts) && isGl sc x && chk a sc y
    | _ => false
  | .bi b es, sc, e => match e with
    | .Call (.Name x _) (y :: ys) [] _ => decide (x = Str.ofString b.name) && decide (x ∈ G.bts) && isGl sc x && chks es sc (y :: ys)
    | _ => false
  | .lrg _ a, sc, e => match e with
    | .Call (.Name x _) [.Call (.Name y _) [z] [] _] [] _ => decide (x = "list") && decide (y = "range") && decide (x ∈ G.bts) && decide (y ∈ G.bts) && isGl sc x && isGl sc y && nst z && chk a sc z
    | _ => false
  | .trg a, sc, e => match e with
    | .Call (.Name x _) [.Call (.Name y _) [z] [] _] [] _ => decide (x = "tuple") && decide (y = "range") && decide (x ∈ G.bts) && decide (y ∈ G.bts) && isGl sc x && isGl sc y && nst z && chk a sc z
    | _ => false
  | .isi a T, sc, e => match e with
    | .Call (.Name x _) [y, .Name z _] [] _ => decide (x = "isinstance") && decide (z = Str.ofString T.name) && decide (x ∈ G.bts) && decide (z ∈ G.bts) && isGl sc x && isGl sc z && nst y && chk a sc y
    | _ => false
  | .popAt o i, sc, e => match e with
    | .Call (.Attribute x at_ ap) [y] [] cp => decide (at_ = "pop") && isName x && (ap.endLine == cp.line) && nst y && chk o sc x && chk i sc y
    | _ => false
  | .idxOf o i, sc, e => match e with
    | .Call (.Attribute x at_ ap) [y] [] cp => decide (at_ = "index") && okBase x && (ap.endLine == cp.line) && nst y && chk o sc x && chk i sc y
    | _ => false
  | .cntOf o i, sc, e => match e with
    | .Call (.Attribute x at_ ap) [y] [] cp => decide (at_ = "count") && isName x && (ap.endLine == cp.line) && nst y && chk o sc x && chk i sc y
    | _ => false
  | .powW a b, sc, e => match e with
    | .BinOp x .Pow y _ => chk a sc x && chk b sc y
    | _ => false
  | .lset a, sc, e => match e with
    | .Call (.Name x _) [.Call (.Name y _) [z] [] _] [] _ => decide (x = "len") && decide (y = "set") && decide (x ∈ G.bts) && decide (y ∈ G.bts) && isGl sc x && isGl sc y && nst z && chk a sc z
    | _ => false
  | .opq, _, e => ncomp e
  | .tyeq a T, sc, e => match e with
    | .Compare (.Call (.Name x _) [y] [] _) [.Eq] [.Name z _] _ => decide (x = "type") && decide (z = Str.ofString T.name) && decide (x ∈ G.bts) && decide (z ∈ G.bts) && isGl sc x && isGl sc z && nst y && chk a sc y
    | _ => false
  | .lcm x es, sc, e => match e with
    | .Call (.Name y _) (z :: zs) [] _ => decide (x = y) && isGl sc x && decide ((x, CV.b "math.lcm") ∈ G.cs) && !(x == sDbg) && chks es sc (z :: zs)
    | _ => false
  | .maxd a j, sc, e => match e with
    | .Call (.Name x _) [z] [⟨some k, .Constant (.int i) _ _, _⟩] _ => decide (x = "max") && decide (k = "default") && decide (x ∈ G.bts) && isGl sc x && nst z && i == j && chk a sc z
    | _ => false
  | .lc2 _ elt tg tg1 own own1 it it1, sc, e => match e with
    | .ListComp x gs scope _ => match gs with
      | [c, c1] => decide (c.is_async = 0) && decide (c1.is_async = 0) && nset c.iter && nset c1.iter && chki it sc c.iter && blkC N sc.sc scope (ownOf N own) && chkTg N ⟨relS scope sc.sc, scope⟩ tg c.target && (tgs tg).all (fun j => own.contains j) && chkTg N ⟨relS scope sc.sc, scope⟩ tg1 c1.target && (tgs tg1).all (fun j => own1.contains j) && own1.all (fun j => own.contains j) && chki it1 ⟨relS scope sc.sc, scope⟩ c1.iter && chk elt ⟨relS scope sc.sc, scope⟩ x && (okT it c.target && okT it1 c1.target) && (c.ifs.isEmpty && c1.ifs.isEmpty)
      | _ => false
    | _ => false
  | .glast x is, sc, e => match e with
    | .Subscript (.Name y _) (.UnaryOp .USub (.Constant (.int 1) _ _) _) _ => decide (y = Str.ofString x) && decide ((x, is) ∈ G.gts) && isGl sc y && !(y == sDbg)
    | _ => false
  | .sset a, sc, e => match e with
    | .Call (.Name x _) [.Call (.Name y _) [z] [] _] [] _ => decide (x = "sorted") && decide (y = "set") && decide (x ∈ G.bts) && decide (y ∈ G.bts) && isGl sc x && isGl sc y && nst z && chk a sc z
    | _ => false
  | .lcA _ elt tg own a cd, sc, e => match e with
    | .ListComp x [⟨t, i, ifs, as⟩] scope _ => decide (as = 0) && nset i && chk a sc i && blkC N sc.sc scope (ownOf N own) && chkTg N ⟨relS scope sc.sc, scope⟩ tg t && (tgs tg).all (fun j => own.contains j) && chk elt ⟨relS scope sc.sc, scope⟩ x && chkc cd ⟨relS scope sc.sc, scope⟩ ifs
    | _ => false
  | .dic0, sc, e => match e with
    | .Dict [] [] _ => true
    | _ => false
  | .dic1 i j, sc, e => match e with
    | .Dict [some (.Constant (.int i') _ _)] [.Constant (.int j') _ _] _ => i == i' && j == j'
    | _ => false
  | .rev a, sc, e => match e with
    | .Subscript x (.Slice none none (some (.UnaryOp .USub (.Constant (.int i) _ _) _)) _) _ => i == 1 && chk a sc x
    | _ => false
  | .sc elt tg own it, sc, e => match e with
    | .SetComp x [⟨t, i, ifs, a⟩] scope _ => decide (a = 0) && ifs.isEmpty && nset i && (okT it t && chki it sc i) && blkC N sc.sc scope (ownOf N own) && chkTg N ⟨relS scope sc.sc, scope⟩ tg t && (tgs tg).all (fun j => own.contains j) && chk elt ⟨relS scope sc.sc, scope⟩ x
    | _ => false
  | .lc _ elt tg own it cd, sc, e => match e with
    | .ListComp x [⟨t, i, ifs, a⟩] scope _ => decide (a = 0) && nset i && (okT it t && chki it sc i) && blkC N sc.sc scope (ownOf N own) && chkTg N ⟨relS scope sc.sc, scope⟩ tg t && (tgs tg).all (fun j => own.contains j) && chk elt ⟨relS scope sc.sc, scope⟩ x && chkc cd ⟨relS scope sc.sc, scope⟩ ifs
    | _ => false
def chks : Exs → Sx → List Expr → Bool
  | .nil, _, es => match es with
    | [] => true
    | _ => false
  | .cons a as, sc, es => match es with
    | x :: xs => nst x && chk a sc x && chks as sc xs
    | _ => false
  | .star _ _, _, _ => false
def chkd : Exs → Sx → List Expr → Bool
  | .nil, _, es => match es with
    | [] => true
    | _ => false
  | .cons a as, sc, es => match es with
    | x :: xs => nst x && chk a sc x && chkd as sc xs
    | _ => false
  | .star a as, sc, es => match es with
    | .Starred x _ :: xs => chk a sc x && chkd as sc xs
    | _ => false
def chko : Exo → Sx → Option Expr → Bool
  | .no, _, e => match e with
    | none => true
    | _ => false
  | .yes a, sc, e => match e with
    | some x => chk a sc x
    | _ => false
def chkc : Exo → Sx → List Expr → Bool
  | .no, _, e => match e with
    | [] => true
    | _ => false
  | .yes a, sc, e => match e with
    | [x] => chk a sc x
    | _ => false
def chki : It → Sx → Expr → Bool
  | .seq a, sc, e => chk a sc e
  | .rng a, sc, e => match e with
    | .Call (.Name y _) [z] [] _ => decide (y = "range") && decide (y ∈ G.bts) && isGl sc y && nst z && chk a sc z
    | _ => false
  | .itm a, sc, e => match e with
    | .Call (.Attribute x at_ ap) [] [] cp => decide (at_ = "items") && okBase x && (ap.endLine == cp.line) && chk a sc x
    | _ => false
  | .rng3 a b c, sc, e => match e with
    | .Call (.Name y _) [z, u, w] [] _ => decide (y = "range") && decide (y ∈ G.bts) && isGl sc y && nst z && nst u && nst w && chk a sc z && chk b sc u && chk c sc w
    | _ => false
  | .rng2 a b, sc, e => match e with
    | .Call (.Name y _) [z, u] [] _ => decide (y = "range") && decide (y ∈ G.bts) && isGl sc y && nst z && nst u && chk a sc z && chk b sc u
    | _ => false
  | .enm a, sc, e => match e with
    | .Call (.Name y _) [z] [] _ => decide (y = "enumerate") && decide (y ∈ G.bts) && isGl sc y && nst z && chk a sc z
    | _ => false
  | .revl a, sc, e => match e with
    | .Call (.Name y _) [z] [] _ => decide (y = "reversed") && decide (y ∈ G.bts) && isGl sc y && nst z && chk a sc z
    | _ => false
  | .gseq x is, sc, e => match e with
    | .Name y _ => decide (y = Str.ofString x) && decide ((x, is) ∈ G.gts) && isGl sc y && !(y == sDbg)
    | _ => false
  | .zip a b, sc, e => match e with
    | .Call (.Name y _) [z, u] [] _ => decide (y = "zip") && decide (y ∈ G.bts) && isGl sc y && nst z && nst u && chk a sc z && chk b sc u
    | _ => false
end
end
/-! ### small facts of the text -/
theorem star_cons {e : Expr} (h : nst e = true) (es : List Expr) (env : PySem.Env) : starEach (e :: es) env = (false, eval e env) :: starEach es env := by
  cases e <;> first | rfl | cases h
theorem plain_args {pos : Pos} {env : PySem.Env} : ∀ {es : List Expr}, es.all nst = true → (backTo pos (starEach es env)).any (·.1) = false
  | [], _ => rfl
  | e :: es, h => by
    rw [List.all_cons] at h
    obtain ⟨h1, h2⟩ := and2 h
    rw [star_cons h1]
    exact plain_args h2
theorem plain_ix {b : Expr} (h : nsl b = true) : PlainIx b := by
  intro o i
  cases b <;> first | rfl | cases h
theorem tru_plain {a : Expr} (h : plainT a = true) (env : PySem.Env) : ∀ whole, PySem.isTrue a env whole = (do let v ← whole; standAt a.pos; holding [v] (truthy v)) := by
  intro whole
  cases a with
  | UnaryOp op x p => cases op <;> first | rfl | cases h
  | BoolOp _ _ _ => cases h
  | IfExp _ _ _ _ => cases h
  | Compare _ _ _ _ => cases h
  | _ => rfl
theorem sw_none {e : Expr} (h : ncomp e = true) (t : Option Expr) (l : Nat) (env : PySem.Env) : swapsWith e t l env = pure false := by
  cases e <;> first | rfl | cases h
theorem sw_sub {e o i : Expr} {p : Pos} (l : Nat) (env : PySem.Env) : swapsWith e (some (.Subscript o i p)) l env = pure false := by
  cases e <;> rfl
theorem sw_tup {e : Expr} {ts : List Expr} {k : Nat} {p : Pos} (l : Nat) (env : PySem.Env) : swapsWith e (some (.Tuple ts k p)) l env = pure false := by
  cases e <;> rfl
theorem fs_plain {e : Expr} (h : nset e = true) (env : PySem.Env) : ∀ x, foldedSetIterable e env x = pure x := by
  intro x
  cases e <;> first | rfl | cases h
theorem ab_name {e : Expr} (h : isName e = true) (n : Str) (env : PySem.Env) : attributeBase e n env (eval e env) = eval e env := by
  cases e <;> first | rfl | cases h
theorem dec_eq {α : Type} [DecidableEq α] {a b : α} (h : decide (a = b) = true) : a = b := of_decide_eq_true h
theorem kd_some {o : Option NameKind} {k : NameKind} (h : (o == some k) = true) : o = some k := by
  cases o with
  | none => cases h
  | some j => cases j <;> cases k <;> first | rfl | cases h
theorem isVis_ok {sc : Sx} {x : Str} (h : isVis sc x = true) : Vis sc.sc x := by
  unfold isVis at h
  rcases Bool.or_eq_true_iff.mp h with h | h
  · rcases Bool.or_eq_true_iff.mp h with h | h
    · exact .inl (kd_some h)
    · exact .inr (.inl (kd_some h))
  · exact .inr (.inr (kd_some h))
theorem isLoc_ok {sc : Sx} {x : Str} (h : isLoc sc x = true) : sc.sc.names.lookup x = some .local ∨ (sc.sc.names.lookup x = some .cell ∧ sc.ow.names.lookup x = some .cell) := by
  unfold isLoc at h
  rcases Bool.or_eq_true_iff.mp h with h | h
  · exact .inl (kd_some h)
  · obtain ⟨h1, h2⟩ := and2 h
    exact .inr ⟨kd_some h1, kd_some h2⟩
theorem not_b {b : Bool} (h : (!b) = true) : b = false := by cases b <;> first | rfl | cases h
theorem chks_nst {G : Tb} {N : List Str} : ∀ (as : Exs) (sc : Sx) (es : List Expr), chks G N as sc es = true → es.all nst = true
  | .nil, sc, es, h => by
    cases es with
    | nil => rfl
    | cons x xs => simp only [chks] at h; cases h
  | .cons a as, sc, es, h => by
    cases es with
    | nil => rfl
    | cons x xs =>
      simp only [chks] at h
      obtain ⟨h, h3⟩ := and2 h
      obtain ⟨h1, h2⟩ := and2 h
      rw [List.all_cons, h1, chks_nst as sc xs h3]
      rfl
  | .star a as, sc, es, h => by simp only [chks] at h; cases h
theorem evs_len {G : Tb} {N : List Str} {Φ : String → List D → M D} : ∀ (as : Exs) (sc : Sx) (es : List Expr), chks G N as sc es = true → ∀ (ρ : Env) (S : Sto) (xs : List D) (S' : Sto), evs Φ as ρ S = .ok xs S' → xs.length = es.length
  | .nil, sc, es, h, ρ, S, xs, S', e => by
    cases es with
    | nil => simp only [evs] at e; obtain ⟨rfl, _⟩ := ret_ok e; rfl
    | cons x xs => simp only [chks] at h; cases h
  | .cons a as, sc, es, h, ρ, S, xs, S', e => by
    cases es with
    | nil => simp only [chks] at h; cases h
    | cons y ys =>
      simp only [chks] at h
      obtain ⟨h, h3⟩ := and2 h
      simp only [evs] at e
      obtain ⟨z, S1, e1, e⟩ := bnd_ok e
      obtain ⟨zs, S2, e2, e⟩ := bnd_ok e
      obtain ⟨rfl, _⟩ := ret_ok e
      rw [List.length_cons, List.length_cons, evs_len as sc ys h3 ρ S1 zs S2 e2]
  | .star a as, sc, es, h, ρ, S, xs, S', e => by simp only [chks] at h; cases h
/-! ### where a text stands -/
structure Good (G : Tb) (Φ : String → List D → M D) (N : List Str) (sc : Sx) (X : Cx) : Prop where
  hN : X.N = N
  nd : N.Nodup
  hs : X.env.scope = sc.sc
  kd : sc.sc.kind = .function
  calm : X.calm = true
  fn : ∀ x, sc.ow.names.lookup x = some .cell → X.fn x = true
  xe : X.xe = fun _ _ => False
  gd : X.A.guards = some []
  hu : X.A.units + 64 < cLine
  hu5 : X.A.units + 65 < cLine
  bt : ∀ x ∈ G.bts, X.mg x = none
  cs : ∀ (x : Str) (c : CV), (x, c) ∈ G.cs → CvOk (X.mg x) c
  ft : ∀ (i : String) (q : FK) (n : Nat), G.fns.lookup i = some (q, n) → ∃ f k, FnW X.prog X.w X.K X.mg X.base k f (spF X.K n (Φ i)) ∧ Room (k + 1) X.A ∧ AtK X.K X.mg i f q
  fl : ∀ (c f : String), (c, f) ∈ G.fls → ∃ C, ClsT X.K c C ∧ NoAttr X.K C (Str.ofString f)
  gt : ∀ (x : String) (is : List Int), (x, is) ∈ G.gts → GtOk X.K X.mg x is
section
variable {G : Tb} {Φ : String → List D → M D} {N : List Str} {sc : Sx} {X : Cx} {pos : Pos}
theorem Good.gl (g : Good G Φ N sc X) {x : Str} (h : isGl sc x = true) : Gl X x := by
  show X.env.scope.names.lookup x = some .globalImplicit
  rw [g.hs]
  exact kd_some h
theorem Good.pg (g : Good G Φ N sc X) {i : Nat} {x : Str} (h1 : decide (N[i]? = some x) = true) (h2 : isLoc sc x = true) : PG X (.Name x pos) (gName i) := by
  have hl := isLoc_ok h2
  have hl' : Loc X.env.scope x := by rw [g.hs]; exact hl.imp id fun z => z.1
  refine pg_name (by rw [g.hN]; exact g.nd) (by rw [g.hN]; exact of_decide_eq_true h1) hl' ?_
  rcases hl with h | h
  · exact .inr (by rw [g.hs]; exact h)
  · exact .inl (g.fn x h.2)
theorem Good.pgs (g : Good G Φ N sc X) : ∀ (is : List Nat) (es : List Expr), is.length = es.length → ((is.zip es).all fun p => match p.2 with
    | .Name x _ => decide (N[p.1]? = some x) && isLoc sc x
    | _ => false) = true → PGs X es (gNames is) ∧ (assignEach es X.env).length = is.length ∧ (assignEach es X.env).findIdx? (·.1) = none
  | [], [], _, _ => ⟨pgs_nil, rfl, rfl⟩
  | i :: is, e :: es, hl, h => by
    rw [List.zip_cons_cons, List.all_cons] at h
    obtain ⟨h1, h2⟩ := and2 h
    obtain ⟨q1, q2, q3⟩ := Good.pgs g is es (by simpa using hl) h2
    cases e with
    | Name x p =>
      obtain ⟨a1, a2⟩ := and2 h1
      refine ⟨pgs_cons (g.pg a1 a2) q1 rfl, ?_, ?_⟩
      · show (assignEach es X.env).length + 1 = is.length + 1
        rw [q2]
      · show List.findIdx? _ ((false, assign (.Name x p) X.env) :: assignEach es X.env) = none
        rw [List.findIdx?_cons, q3]
        rfl
    | _ => cases h1
  | [], _ :: _, hl, _ => by simp at hl
  | _ :: _, [], hl, _ => by simp at hl
def gTg (K : PySem.W.Frag) : Tg → TG
  | .name i => gName i
  | .tup is => gTL K is.length (gNames is)
  | .pair i is => gTup K 2 (gCons (gName i) (gCons (gTup K is.length (gNames is)) gNil))
theorem gTg_ok {K : PySem.W.Frag} : ∀ tg : Tg, TgOk K (gTg K tg) tg
  | .name i => tg_name i
  | .tup is => tg_tup is
  | .pair i is => tg_pair i is
theorem Good.tg (g : Good G Φ N sc X) {tg : Tg} {e : Expr} (h : chkTg N sc tg e = true) : PG X e (gTg X.K tg) := by
  cases tg with
  | name i =>
    cases e with
    | Name x p =>
      simp only [chkTg] at h
      obtain ⟨a1, a2⟩ := and2 h
      exact g.pg a1 a2
    | _ => simp only [chkTg] at h; cases h
  | tup is =>
    cases e with
    | Tuple es k p =>
      simp only [chkTg] at h
      obtain ⟨a1, a2⟩ := and2 h
      obtain ⟨q1, q2, q3⟩ := g.pgs is es (of_decide_eq_true a1) a2
      exact pg_TL g.calm q1 q2 q3
    | _ => simp only [chkTg] at h; cases h
  | pair i is =>
    unfold chkTg at h
    split at h
    · rename_i z; cases z
    · rename_i z; cases z
    · rename_i i' is' y py es k2 p2 k p z1
      cases z1
      obtain ⟨h, a4⟩ := and2 h
      obtain ⟨h, a3⟩ := and2 h
      obtain ⟨a1, a2⟩ := and2 h
      obtain ⟨q1, q2, q3⟩ := g.pgs is es (of_decide_eq_true a3) a4
      have inner : PG X (.Tuple es k2 p2) (gTup X.K is.length (gNames is)) := pg_tup g.calm q1 q2 q3
      exact pg_tup g.calm (pgs_cons (g.pg a1 a2) (pgs_cons inner pgs_nil rfl) rfl) rfl rfl
    · cases h
theorem Good.blk (g : Good G Φ N sc X) {scope : Scope} (hk : scope.kind = .function) (s : Shared) (H : Hp) (C : Addr) (cl : List (Str × Addr)) (fp : List Addr) : Good G Φ N ⟨relS scope sc.sc, scope⟩ (X.blk s H scope (compEnvC scope cl C X.env) fp) where
  hN := g.hN
  nd := g.nd
  hs := by rw [← g.hs]; rfl
  kd := hk
  calm := g.calm
  fn := fun x h => by show (scope.names.lookup x == some .cell) = true; rw [h]; rfl
  xe := rfl
  gd := g.gd
  hu := g.hu
  hu5 := g.hu5
  bt := g.bt
  cs := g.cs
  ft := g.ft
  fl := g.fl
  gt := g.gt
theorem bin_all : ∀ (o : Operator), okOp o = true → ∃ r, OpR X (binaryOp o) r ∧ OpOk X.K r (binD o)
  | .Add, _ => ⟨_, o_add, k_add⟩
  | .Sub, _ => ⟨_, op_sub, k_sub⟩
  | .Mult, _ => ⟨_, o_mul, k_mul⟩
  | .FloorDiv, _ => ⟨_, op_fdivW, k_div⟩
  | .Mod, _ => ⟨_, op_mod, k_mod⟩
  | .Pow, _ => ⟨_, op_pow, k_pow⟩
  | .BitAnd, _ => ⟨_, op_and, k_band⟩
  | .MatMult, h | .Div, h | .LShift, h | .RShift, h | .BitOr, h | .BitXor, h => by exact absurd h (by decide)
theorem cmp_all (hu : X.A.units + 64 < cLine) : ∀ (o : CmpOp), okC o = true → ∃ r, OpR X (compareOp o) r ∧ OpB X.K r (cmpD o)
  | .Eq, _ => ⟨_, o_eq hu, k_eq⟩
  | .NotEq, _ => ⟨_, o_ne hu, k_ne⟩
  | .Lt, _ => ⟨_, op_lt, k_lt⟩
  | .LtE, _ => ⟨_, op_le, k_le⟩
  | .Gt, _ => ⟨_, op_gt, k_gt⟩
  | .GtE, _ => ⟨_, op_ge, k_ge⟩
  | .Is, _ => ⟨_, o_is, k_is⟩
  | .IsNot, _ => ⟨_, o_isn, k_isn⟩
  | .In, h | .NotIn, h => by exact absurd h (by decide)
theorem cmp_all2 (hu : X.A.units + 64 < cLine) (hu5 : X.A.units + 65 < cLine) : ∀ (o : CmpOp), okD o = true → ∃ r, OpR X (compareOp o) r ∧ OpB X.K r (cmpD o)
  | .Eq, _ => cmp_all hu .Eq rfl
  | .NotEq, _ => cmp_all hu .NotEq rfl
  | .Lt, _ => cmp_all hu .Lt rfl
  | .LtE, _ => cmp_all hu .LtE rfl
  | .Gt, _ => cmp_all hu .Gt rfl
  | .GtE, _ => cmp_all hu .GtE rfl
  | .Is, _ => cmp_all hu .Is rfl
  | .IsNot, _ => cmp_all hu .IsNot rfl
  | .In, _ => ⟨_, o_in3 hu5, k_in⟩
  | .NotIn, _ => ⟨_, o_nin3 hu5, k_nin⟩
theorem okC_in {o : CmpOp} (h : okC o = true) (b : Expr) : behindInMarks o b = false := nobehind b (by intro z; subst z; cases h) (by intro z; subst z; cases h)
theorem t_bad {e : Expr} {m : Env → M Bool} (hm : ∀ ρ, m ρ = bad) : PT X e (tT X.K m) := ⟨fun pins s σ H Q I ⟨W, ρ, _, _, _, k, S', e, _⟩ => by rw [hm] at e; cases e⟩
end
end AG
namespace AG
open PySem PySem.Spec PyProof.Rows L2
/-! ### the set of a list's ints, rising -/
abbrev noneS (w : World) : Obj := { cls := .type "set", dict := none, data := .set #[] 0 (.fresh 0 0 (!w.params.followText "set-order")) }
section
variable {P : Program} {w : World} {A : Around} {E : Value → Shared → Prop} {s : Shared}
set_option maxHeartbeats 3200000 in
theorem set_of_list {b : Addr} {its : Array Value} (ns : List Int) {Q : Value → Shared → Prop} (hh : A.handled = none) (hb : s.heap.IsList b its) (hi : IntsAre its.toList ns) (room : ns.length + 1 < scanBound)
    (k : ∀ (g : Heap) (tk c : Nat), SetR w g s.heap.objs.size (fun j => decide (j ∈ ns)) c → c ≤ ns.length → (∀ e o, s.heap.get? e = some o → g.get? e = some o) → Q (.ref s.heap.objs.size) { s with heap := g, toks := tk }) : wpAny (model P w) A (call (.type "set") [.ref b]) Q E s := by
  have len : its.size = ns.length := by have q := IntsAre.length hi; rw [Array.length_toList] at q; exact q
  obtain ⟨c0, tl0, mro0⟩ := F.called_set.mro
  have made0 := F.called_set.made; have sub0 := F.called_set.sub
  refine wpAny_call (codeAny_of_tree (?_ : wpAny _ _ (callAny (.type "set") _) _ _ _))
  refine wpAny_pure ⟨Code.quiet_builtin _ (by decide +kernel), codeAny_builtin F.entry_type_call (?_ : _)⟩
  rw [Around.under_plain (weight_type_call_type "set" [.ref b] []) rfl]
  have i1 := F.called_set.notType; have i2 := F.called_set.canCreate; have i3 := F.typeCall_set_1 (.ref b)
  repeat (any_goals (first | assumption | wp_step))
  refine codeAny_mono (code_set_led1 (.ref b) (E := E) (Q₁ := fun x s1 => x = .ref s.heap.objs.size ∧ s1 = { s with heap := s.heap.push (noneS w) }) ⟨rfl, rfl⟩) fun r s1 hr => ?_
  rcases r with e | fl
  · exact hr
  rcases fl with _ | obj | _ | _
  case ok.ret =>
    obtain ⟨rfl, rfl⟩ := hr
    have at0 : (s.heap.push (noneS w)).get? s.heap.objs.size = some (noneS w) := Heap.get?_push_size _ rfl
    have ty0 : Shared.TypeIs { s with heap := s.heap.push (noneS w) } (.ref s.heap.objs.size) "set" := ⟨_, at0, rfl⟩
    have lk0 := F.called_set.init.lookup; have bd0 := F.called_set.init.bind (.ref s.heap.objs.size)
    repeat (any_goals (first | assumption | wp_step))
    refine codeAny_mono (codeAny_call_builtin (R := wants (fun r s2 => r = .none ∧ ∃ g tk c, s2 = { s with heap := g, toks := tk } ∧ SetR w g s.heap.objs.size (fun j => decide (j ∈ ns)) c ∧ c ≤ ns.length ∧ ∀ e o, s.heap.get? e = some o → g.get? e = some o) E) F.called_set.init.plain F.entry_set_init (check_set_init_1 ty0 ?_)) fun r2 s2 hr2 => ?_
    · obtain ⟨ob, hob, hcb, nb, hdb⟩ := hb
      obtain ⟨xcls, xdict, xdata, xslots⟩ := ob
      simp only at hcb hdb
      subst hcb hdb
      have hob2 : (s.heap.push (noneS w)).get? b = some { cls := .type "list", dict := xdict, data := .seq its nb, slots := xslots } := Heap.get?_push_of_some _ hob
      have ls0 := F.sub_list_set; have lf0 := F.sub_list_frozenset
      have nd0 : (Value.type "list" == Value.type "dict") = false := by decide
      have isl : (s.heap.push (noneS w)).IsList b its := ⟨_, hob2, rfl, nb, rfl⟩
      unfold Builtin.«set.__init__» noKeywords Builtin.Frozenset.updateFrom
      generalize walk : pyIter = PI
      wp_walk
      subst walk
      refine wpAny_pyIter_list isl (wpAny_bind (wpAny_runValue ?_))
      have less : b < s.heap.objs.size := Heap.lt_size hob
      have quiet : A.in1.in1.in1.handled = none := by simp [hh]
      have apart : b ≠ (s.heap.push (noneS w)).objs.size := by rw [Heap.size_push]; exact Nat.ne_of_lt (Nat.lt_succ_of_lt less)
      have out : s.heap.objs.size ∉ [(s.heap.push (noneS w)).objs.size, b] := by
        rw [Heap.size_push]
        simp only [List.mem_cons, List.not_mem_nil, or_false, not_or]
        exact ⟨Nat.ne_of_lt (Nat.lt_succ_self _), Nat.ne_of_gt less⟩
      have vals : ∀ (i : Nat) (v : Value), its[i]? = some v → ∃ z t, ns[i]? = some z ∧ v = .int z t := fun i v hv => by
        have il : i < ns.length := by rw [← len]; exact (Array.getElem?_eq_some_iff.mp hv).1
        obtain ⟨t, e⟩ := IntsAre.int_at hi i v (by rw [Array.getElem?_toList]; exact hv)
        exact ⟨ns[i], t, List.getElem?_eq_getElem il, by rw [e, List.getD_eq_getElem?_getD, List.getElem?_eq_getElem il]; rfl⟩
      refine set_update_ints ((Walks.list quiet _ b apart its).toS) s.heap.objs.size out ns len room vals (its.size - 0) 0 _ (by omega) (Nat.zero_le _) ⟨⟨_, Heap.get?_push_size _ rfl, rfl, rfl⟩, isl.push _⟩ ⟨0, Nat.le_refl 0, setR_new_at (Heap.get?_push_of_some _ at0)⟩ fun s3 c3 mv hc3 R3 => ?_
      obtain ⟨g3, gens3, drawn3, toks3, os3⟩ := s3
      have e1 : gens3 = s.gens := mv.gens
      have e2 : drawn3 = s.drawn := mv.drawn
      have e3 : os3 = s.os := mv.os
      subst e1 e2 e3
      rw [len] at hc3
      show wpAny _ _ _ _ _ _; refine wpAny_pure ?_; show wpAny _ _ (PySem.ret Value.none) _ _ _
      refine wpAny_pure ⟨rfl, g3, toks3, c3, rfl, R3, hc3, fun e o he => ?_⟩
      have l0 : e < s.heap.objs.size := Heap.lt_size he
      refine mv.heap e o (fun z => ?_) (Heap.get?_push_of_some _ (Heap.get?_push_of_some _ he))
      rcases List.mem_cons.mp z with z | z
      · exact absurd z (Nat.ne_of_lt l0)
      · have z := List.mem_singleton.mp z
        rw [Heap.size_push] at z
        exact absurd z (Nat.ne_of_lt (Nat.lt_succ_of_lt l0))
    · rcases r2 with e | fl2
      · exact hr2
      rcases fl2 with _ | r | _ | _
      case ok.ret =>
        obtain ⟨rfl, g, tk, c, rfl, R, hc, keep⟩ := hr2
        repeat (any_goals (first | assumption | wp_step))
        exact k _ _ _ R hc keep
      all_goals exact hr2.elim
  all_goals exact hr.elim
end
end AG
namespace AG
open PySem PySem.Spec PyProof.Rows L2
theorem own_map (N : List Str) (own : List Nat) : (ownOf N own).map (·.2) = own := by
  unfold ownOf
  rw [List.map_map]
  show own.map (fun i => i) = own
  exact List.map_id' own
section
variable {X : Cx} {pos : Pos} {p : Pos} {x : Str} {e : Expr} {es : List Expr} {ms : Env → M (List D)}
theorem b_fn {id : String} {r : List V → Hp → VK → Prop} {f : List D → M D} (hc : CallR X (.builtin id) r) (hk : CallOk X.K r f) (hg : Gl X x) (hm : X.mg x = none) (hv : bootBuiltins x = some (.builtin id)) (hn : x ≠ "__name__") (hd : (x == ("__debug__" : Str)) = false)
    (ha : PA X (e :: es) (tAs X.K ms)) (hs : (e :: es).all nst = true) : PE X (.Call (.Name x p) (e :: es) [] pos) (tI X.K fun ρ => bnd (ms ρ) f) := by
  rw [List.all_cons] at hs
  obtain ⟨h1, h2⟩ := and2 hs
  exact (pe_callB hc hg hm hv ha hn hd (star_cons h1 es _) (plain_args h2)).weak (s_call hk)
theorem b_ty {T : String} {r : List V → Hp → VK → Prop} {f : List D → M D} (hc : CallR X (.type T) r) (hk : CallOk X.K r f) (hg : Gl X x) (hm : X.mg x = none) (hv : bootBuiltins x = some (.type T)) (hn : x ≠ "__name__") (hd : (x == ("__debug__" : Str)) = false)
    (ha : PA X (e :: es) (tAs X.K ms)) (hs : (e :: es).all nst = true) : PE X (.Call (.Name x p) (e :: es) [] pos) (tI X.K fun ρ => bnd (ms ρ) f) := by
  rw [List.all_cons] at hs
  obtain ⟨h1, h2⟩ := and2 hs
  exact (pe_callTy hc hg hm hv ha hn hd (star_cons h1 es _) (plain_args h2)).weak (s_call hk)
theorem intsOf_ok {K : PySem.W.Frag} {W : Wd} : ∀ (xs : List D) (ns : List Int) (vs : List V), intsOf xs = some ns → Reps K W xs vs → vs = ns.map V.int
  | [], ns, vs, e, r => by simp only [intsOf, Option.some.injEq] at e; simp only [Reps] at r; subst e r; rfl
  | x :: xs, ns, vs, e, r => by
    cases x with
    | int i =>
      simp only [intsOf] at e
      cases q : intsOf xs with
      | none => rw [q] at e; cases e
      | some l =>
        rw [q] at e
        cases e
        simp only [Reps] at r
        obtain ⟨v, us, rfl, h1, h2⟩ := r
        rw [rep_int h1, intsOf_ok xs l us q h2]
        rfl
    | _ => simp only [intsOf] at e; cases e
theorem maxI_ok : ∀ (ns : List Int) (m : Int), maxI ns = some m → ∀ z, z ∈ ns → (∀ y, y ∈ ns → y ≤ z) → z = m
  | [], m, e, z, hz, _ => nomatch hz
  | i :: r, m, e, z, hz, hm => by
    simp only [maxI] at e
    cases q : maxI r with
    | none =>
      rw [q] at e
      cases e
      cases r with
      | nil => exact List.mem_singleton.mp hz
      | cons a b =>
        simp only [maxI] at q
        split at q <;> cases q
    | some m' =>
      rw [q] at e
      cases e
      have key : ∀ (l : List Int) (m : Int), maxI l = some m → m ∈ l := by
        intro l
        induction l with
        | nil => intro m e; cases e
        | cons a b ih =>
          intro m e
          simp only [maxI] at e
          cases q : maxI b with
          | none => rw [q] at e; cases e; exact List.mem_cons_self ..
          | some m2 =>
            rw [q] at e
            cases e
            rcases Int.le_total a m2 with h | h
            · rw [Int.max_eq_right h]; exact List.mem_cons_of_mem _ (ih _ q)
            · rw [Int.max_eq_left h]; exact List.mem_cons_self ..
      have h1 := hm i (List.mem_cons_self ..)
      have h2 := hm m' (List.mem_cons_of_mem _ (key r m' q))
      rcases List.mem_cons.mp hz with h | h
      · subst h; omega
      · by_cases hall : i ≤ m'
        · have := maxI_ok r m' q z h fun y hy => hm y (List.mem_cons_of_mem _ hy)
          omega
        · have := maxI_ok r m' q z h fun y hy => hm y (List.mem_cons_of_mem _ hy)
          omega
theorem ok_max1 {K : PySem.W.Frag} : CallOk K (rMax K) (biD .max1) := by
  intro W ds vs d S' Q A r e k
  change max1B ds W.S = _ at e
  unfold max1B at e
  split at e
  · rename_i xs
    cases q : intsOf xs with
    | none => rw [q] at e; cases e
    | some ns =>
      rw [q] at e
      simp only [] at e
      cases q2 : maxI ns with
      | none => rw [q2] at e; cases e
      | some m =>
        rw [q2] at e
        obtain ⟨rfl, rfl⟩ := ret_ok e
        obtain ⟨v, rfl, r1⟩ := reps1 r
        simp only [Rep] at r1
        obtain ⟨p, us, rfl, hp, _, _, r2⟩ := r1
        have hu := intsOf_ok xs ns us q r2
        refine ⟨p, ns, rfl, by rw [← hu]; exact SqL.of hp, ?_, fun z hz hm => ?_⟩
        · cases ns with
          | nil => cases q2
          | cons _ _ => exact Nat.zero_lt_succ _
        · rw [maxI_ok ns m q2 z hz hm]
          exact k W _ (Nxt.refl A) (int_rep _)
  · cases e
def rLcm : List V → Hp → VK → Prop := fun vs H Q => ∃ a b : Int, vs = [.int a, .int b] ∧ a.natAbs < 2 ^ 60 ∧ b.natAbs < 2 ^ 60 ∧ Q (.int (Nat.lcm a.natAbs b.natAbs : Nat)) H
theorem cr_lcm : CallR X (.builtin "math.lcm") rLcm := by
  intro pins s σ H vs us Q I r h
  obtain ⟨a, b, rfl, ha, hb, q⟩ := h
  obtain ⟨t, u, rfl⟩ := Vals.int2 r
  have h1 : a.natAbs.lcm b.natAbs ≤ a.natAbs * b.natAbs := PySem.W.mc_lcm_le _ _
  have h2 : a.natAbs * b.natAbs ≤ 2 ^ 60 * 2 ^ 60 := Nat.mul_le_mul (Nat.le_of_lt ha) (Nat.le_of_lt hb)
  have e : (Nat.lcm 1 a.natAbs).lcm b.natAbs = a.natAbs.lcm b.natAbs := by rw [PySem.W.mc_lcm_one]
  refine PySem.W.mg_lcm (Nat.lt_trans ha (by decide)) (Nat.lt_trans hb (by decide)) ?_ ?_
  · rw [e]
    refine PySem.W.mc_size (k := 2) ?_ (by decide)
    have h3 : (2 : Nat) ^ 60 * 2 ^ 60 ≤ 2 ^ (64 * 2) := by decide
    rw [Int.natAbs_natCast]
    exact Nat.le_trans h1 (Nat.le_trans h2 h3)
  · rw [e]
    exact ⟨.int _, H, I.tok _, ⟨_, rfl⟩, q⟩
theorem ok_lcm {K : PySem.W.Frag} : CallOk K rLcm lcmB := by
  intro W ds vs d S' Q A r e k
  unfold lcmB at e
  split at e
  · rename_i i j
    obtain ⟨c, e⟩ := need_ok e
    obtain ⟨rfl, rfl⟩ := ret_ok e
    obtain ⟨c, c4⟩ := and2 c
    obtain ⟨c, c3⟩ := and2 c
    obtain ⟨c1, c2⟩ := and2 c
    have c1 := of_decide_eq_true c1
    have c2 := of_decide_eq_true c2
    have c3 := of_decide_eq_true c3
    have c4 := of_decide_eq_true c4
    obtain ⟨v, w, rfl, r1, r2⟩ := reps2 r
    rw [rep_int r1, rep_int r2]
    have e1 : i.natAbs = i.toNat := by omega
    have e2 : j.natAbs = j.toNat := by omega
    refine ⟨_, _, rfl, by omega, by omega, ?_⟩
    rw [e1, e2]
    exact k W _ (Nxt.refl A) (int_rep _)
  · cases e
theorem maxI_fold : ∀ (ys : List Int) (y : Int), maxI (y :: ys) = some (ys.foldl (fun a z => if decide (a < z) = true then z else a) y)
  | [], y => rfl
  | z :: zs, y => by
    rw [List.foldl_cons, ← maxI_fold zs]
    simp only [maxI]
    have e : (if decide (y < z) = true then z else y) = max y z := by
      by_cases h : y < z
      · rw [if_pos (decide_eq_true h), Int.max_eq_right (by omega)]
      · rw [if_neg (by simpa using h), Int.max_eq_left (by omega)]
    rw [e]
    cases maxI zs with
    | none => rfl
    | some m =>
      show some (max y (max z m)) = some (max (max y z) m)
      congr 1
      omega
def rMaxd (K : PySem.W.Frag) (j : Int) : List V → List V → Hp → VK → Prop := fun xs zs H Q => ∃ (a : Addr) (ns : List Int), xs = [.ref a] ∧ zs = [.int j] ∧ SqL K H a (ns.map V.int) ∧ Q (.int ((maxI ns).getD j)) H
theorem cr_maxd (hc : X.calm = true) (hu : X.A.units + 65 < cLine) (j : Int) : CallRK X (.builtin "max") [Str.ofString "default"] (rMaxd X.K j) := by
  intro pins s σ H xs zs us ws Q I r r2 h
  obtain ⟨a, ns, rfl, rfl, hs, q⟩ := h
  obtain ⟨its, rv, hl, _⟩ := I.list hs
  rw [Vals.ref1 r]
  cases r2 with
  | cons ry rt =>
    cases rt
    obtain ⟨t, rfl⟩ := ry
    have hi := rv.ints
    refine PySem.W.max_list_datum_default (α := Int) (I.ok.hd hc) hl.isList (xs := ns) (PySem.W.HoldAll.of_ints hi) (by show X.A.units + 1 + 0 < cLine; omega) (fun e h' tk hk => ?_) fun y ys i v h' tk e hv hH hk => ?_
    · subst e
      exact ⟨.int j, H, I.kept hk, ⟨t, rfl⟩, q⟩
    · subst e
      obtain ⟨as, hr⟩ := hH
      have hr' : Reads h' v (.int (PySem.W.maxOf y ys)) as := hr
      cases hr' with
      | int _ t =>
        refine ⟨.int _, H, I.kept hk, ⟨t, rfl⟩, ?_⟩
        rw [maxI_fold] at q
        exact q
theorem s_maxd {a : Expr} {ma : Env → M D} {j : Int} {kk : Nat} {kp cp : Pos} {p pos : Pos} (hc : X.calm = true) (hu : X.A.units + 65 < cLine) (hg : Gl X "max") (hm : X.mg "max" = none) (ha : PE X a (tI X.K ma))
    (hs : starEach [a] X.env = (false, eval a X.env) :: starEach [] X.env) : PE X (.Call (.Name "max" p) [a] [⟨some "default", .Constant (.int j) kk kp, cp⟩] pos) (tI X.K fun ρ => bnd (ma ρ) (maxdD j)) := by
  refine (pe_callBK (cr_maxd hc hu j) hg hm (by decide +kernel) (s_cons ha s_nil hs) (pk_cons pe_int pk_nil) (by decide) (by decide) (by rw [hs]; rfl) (by rw [hs]; rfl) rfl rfl rfl).weak ?_
  rintro σ H Q ⟨W, ρ, rfl, A, sl, d, S', e, k⟩
  obtain ⟨x, S1, e1, e⟩ := bnd_ok e
  refine ⟨W, ρ, rfl, A, sl, [x], S1, bnd_mk e1 rfl, fun W1 vs N r => ?_⟩
  obtain ⟨v, rfl, r1⟩ := reps1 r
  unfold maxdD at e
  split at e
  · rename_i xs
    cases q : intsOf xs with
    | none => rw [q] at e; cases e
    | some ns =>
      rw [q] at e
      simp only [Rep] at r1
      obtain ⟨b, us, rfl, hp, _, _, r2⟩ := r1
      have hu := intsOf_ok xs ns us q r2
      refine ⟨b, ns, rfl, rfl, by rw [← hu]; exact SqL.of hp, ?_⟩
      simp only [] at e
      cases q2 : maxI ns with
      | none =>
        rw [q2] at e
        obtain ⟨rfl, rfl⟩ := ret_ok e
        exact k W1 _ N (int_rep _)
      | some m =>
        rw [q2] at e
        obtain ⟨rfl, rfl⟩ := ret_ok e
        exact k W1 _ N (int_rep _)
  · cases e
theorem s_lcm (hg : Gl X x) (hm : X.mg x = some (.builtin "math.lcm")) (hd : (x == ("__debug__" : Str)) = false) (ha : PA X (e :: es) (tAs X.K ms)) (hs : (e :: es).all nst = true) :
    PE X (.Call (.Name x p) (e :: es) [] pos) (tI X.K fun ρ => bnd (ms ρ) lcmB) := by
  rw [List.all_cons] at hs
  obtain ⟨h1, h2⟩ := and2 hs
  exact (pe_callBfun cr_lcm hg hm ha hd (star_cons h1 es _) (plain_args h2)).weak (s_call ok_lcm)
/-- sum(xs) of a list or a tuple of ints -/
def rSumT (K : PySem.W.Frag) : List V → Hp → VK → Prop := fun vs H Q => ∃ (a : Addr) (ns : List Int), vs = [V.ref a] ∧ (SqL K H a (ns.map V.int) ∨ SqT K H a (ns.map V.int)) ∧ Q (.int ns.sum) H
theorem cr_sumT (hc : X.calm = true) : CallR X (.builtin "sum") (rSumT X.K) := by
  intro pins s σ H vs us Q I r h
  obtain ⟨a, ns, rfl, hs, q⟩ := h
  rcases hs with hs | hs
  · exact cr_sum hc pins s σ H _ us Q I r ⟨a, ns, rfl, hs, q⟩
  · obtain ⟨its, rv, hl, _⟩ := I.tuple hs
    rw [Vals.ref1 r]
    have hi := rv.ints
    obtain ⟨xs, e⟩ := hi.allInts.items
    have hn : numsOf (intItems xs).toList = ns := by rw [← e]; exact hi.numsOf
    rw [nums_intItems] at hn
    have hl2 : s.heap.IsTuple a (intItems xs) := by
      obtain ⟨o, ho, hc, n, hd⟩ := hl
      exact ⟨o, ho, hc, n, by rw [← e]; exact hd⟩
    refine PySem.W.ktm_sumG (I.ok.hd hc) hl2 fun h' tk t' hk => ?_
    rw [preSum_eq, List.take_of_length_le (by simp), hn]
    exact ⟨.int _, H, I.kept hk, ⟨_, rfl⟩, q⟩
theorem ok_sum {K : PySem.W.Frag} : CallOk K (rSumT K) (biD .sum) := by
  intro W ds vs d S' Q A r e k
  change sumB ds W.S = _ at e
  unfold sumB at e
  split at e
  · rename_i xs
    cases q : intsOf xs with
    | none => rw [q] at e; cases e
    | some ns =>
      rw [q] at e
      obtain ⟨_, e⟩ := need_ok e
      obtain ⟨rfl, rfl⟩ := ret_ok e
      obtain ⟨v, rfl, r1⟩ := reps1 r
      simp only [Rep] at r1
      obtain ⟨p, us, rfl, hp, _, _, r2⟩ := r1
      have hu := intsOf_ok xs ns us q r2
      exact ⟨p, ns, rfl, .inl (by rw [← hu]; exact SqL.of hp), k W _ (Nxt.refl A) (int_rep _)⟩
  · rename_i xs
    cases q : intsOf xs with
    | none => rw [q] at e; cases e
    | some ns =>
      rw [q] at e
      obtain ⟨_, e⟩ := need_ok e
      obtain ⟨rfl, rfl⟩ := ret_ok e
      obtain ⟨v, rfl, r1⟩ := reps1 r
      simp only [Rep] at r1
      obtain ⟨p, us, rfl, hp, r2⟩ := r1
      have hu := intsOf_ok xs ns us q r2
      exact ⟨p, ns, rfl, .inr (by rw [← hu]; exact SqT.of hp), k W _ (Nxt.refl A) (int_rep _)⟩
  · cases e
theorem insI_perm (i : Int) : ∀ l : List Int, (insI i l).Perm (i :: l)
  | [] => .refl _
  | j :: r => by
    simp only [insI]
    split
    · exact .refl _
    · exact ((insI_perm i r).cons j).trans (.swap i j r)
theorem sortI_perm : ∀ l : List Int, (sortI l).Perm l
  | [] => .refl _
  | i :: r => (insI_perm i (sortI r)).trans ((sortI_perm r).cons i)
theorem insI_srt (i : Int) : ∀ l : List Int, l.Pairwise (· ≤ ·) → (insI i l).Pairwise (· ≤ ·)
  | [], _ => by simp [insI]
  | j :: r, h => by
    simp only [insI]
    rw [List.pairwise_cons] at h
    split
    · rename_i hij
      rw [List.pairwise_cons]
      refine ⟨fun x hx => ?_, List.pairwise_cons.mpr h⟩
      rcases List.mem_cons.mp hx with z | z
      · rw [z]; exact hij
      · exact Int.le_trans hij (h.1 x z)
    · rename_i hij
      rw [List.pairwise_cons]
      refine ⟨fun x hx => ?_, insI_srt i r h.2⟩
      rcases List.mem_cons.mp ((insI_perm i r).mem_iff.mp hx) with z | z
      · rw [z]; omega
      · exact h.1 x z
theorem sortI_srt : ∀ l : List Int, (sortI l).Pairwise (· ≤ ·)
  | [] => .nil
  | i :: r => insI_srt i _ (sortI_srt r)
theorem sortI_uniq {l m : List Int} (h : m.Perm l) (hs : m.Pairwise (· ≤ ·)) : m = sortI l :=
  List.Perm.eq_of_pairwise (le := (· ≤ ·)) (fun a b _ _ h1 h2 => Int.le_antisymm h1 h2) hs (sortI_srt l) (h.trans (sortI_perm l).symm)
theorem reps_ints {K : PySem.W.Frag} {W : Wd} : ∀ l : List Int, Reps K W (l.map D.int) (l.map V.int)
  | [] => by simp only [List.map_nil, Reps]
  | i :: l => by
    simp only [List.map_cons, Reps]
    exact ⟨_, _, rfl, int_rep i, reps_ints l⟩
def tSrt (w : World) (K : PySem.W.Frag) (ta : TE) : TE := fun σ H Q => ta σ H fun x H1 => ∃ (l : Addr) (ns : List Int), x = .ref l ∧ SqL K H1 l (ns.map V.int) ∧ ns.length ≤ 60 ∧ ∀ b T n r, H1 b = none → upd H1 b (SetO w b T n) r = none → Q (.ref r) (upd (upd H1 b (SetO w b T n)) r (.lst ((sortI (disL ns)).map V.int)))
theorem pe_srt {b : Expr} {tb : TE} {p p2 q pos : Pos} (hc : X.calm = true) (l1 : Gl X "sorted") (l2 : X.mg "sorted" = none) (s1 : Gl X "set") (s2 : X.mg "set" = none) (hb : PE X b tb)
    (nb : starEach [b] X.env = (false, eval b X.env) :: starEach [] X.env) : PE X (.Call (.Name "sorted" p) [.Call (.Name "set" p2) [b] [] q] [] pos) (tSrt X.w X.K tb) := by
  refine ⟨fun pins s σ H Q J h => Call_ (ld_blt J l1 l2 boot_sorted (callWith_builtin1 (args_cons ?_ rfl) rfl rfl))⟩
  refine Call_ (ld_blt J s1 s2 boot_set (callWith_type1 (args_cons (thn (hb.run pins s σ H _ J h) fun v sa ⟨x, Ha, Ja, ra, qa⟩ => args_nil ?_) nb) nb rfl))
  obtain ⟨l, ns, ex, hs, hl, qa⟩ := qa
  subst ex
  obtain rfl : v = Value.ref l := ra
  obtain ⟨its, rv, pl, hz⟩ := Ja.list hs
  refine set_of_list ns (Ja.ok.hd hc) pl.isList (ints_of_vals rv) (by unfold scanBound; omega) fun g tk c R hcn keep => args_nil ?_
  have free : Ha sa.heap.objs.size = none := Ja.hok.fresh (Nat.le_refl _)
  have J2 : Inv X pins σ (upd Ha sa.heap.objs.size (SetO X.w sa.heap.objs.size (fun j => decide (j ∈ ns)) c)) { sa with heap := g, toks := tk } := Ja.laid (t' := tk) keep (Nat.le_refl _) (setO_new R)
  refine cr_sortedSet hc pins _ σ _ [.ref sa.heap.objs.size] [.ref sa.heap.objs.size] Q J2 (.cons rfl .nil) ⟨_, _, c, rfl, upd_same, by omega, fun ms r up mem len hr => ?_⟩
  obtain ⟨d1, d2⟩ := disL_facts ns
  have perm : ms.Perm (disL ns) := (List.perm_ext_iff_of_nodup (up.imp fun h => Int.ne_of_lt h) d1).mpr fun a => by rw [mem a, d2 a, decide_eq_true_eq]
  rw [sortI_uniq perm (up.imp fun h => Int.le_of_lt h)]
  exact qa _ _ c r free hr
theorem s_sset {a : Expr} {ma : Env → M D} {p p2 q pos : Pos} (hc : X.calm = true) (l1 : Gl X "sorted") (l2 : X.mg "sorted" = none) (s1 : Gl X "set") (s2 : X.mg "set" = none) (ha : PE X a (tI X.K ma))
    (nb : starEach [a] X.env = (false, eval a X.env) :: starEach [] X.env) : PE X (.Call (.Name "sorted" p) [.Call (.Name "set" p2) [a] [] q] [] pos) (tI X.K fun ρ => bnd (ma ρ) ssetD) := by
  refine (pe_srt hc l1 l2 s1 s2 ha nb).weak ?_
  rintro σ H Q ⟨W, ρ, rfl, A, sl, d, S', e, k⟩
  obtain ⟨x, S1, e1, e⟩ := bnd_ok e
  refine ⟨W, ρ, rfl, A, sl, x, S1, e1, fun W1 v N r => ?_⟩
  cases x with
  | lst xs =>
    change (match intsOf xs with
      | some ns => need (decide (ns.length ≤ 60)) (ret (D.lst ((sortI (disL ns)).map D.int)))
      | none => bad) S1 = _ at e
    cases hn : intsOf xs with
    | none => rw [hn] at e; cases e
    | some ns =>
      rw [hn] at e
      obtain ⟨c, e⟩ := need_ok e
      obtain ⟨rfl, rfl⟩ := ret_ok e
      simp only [Rep] at r
      obtain ⟨l, vs, rfl, hp, _, _, r2⟩ := r
      have hu := intsOf_ok xs ns vs hn r2
      refine ⟨l, ns, rfl, by rw [← hu]; exact SqL.of hp, of_decide_eq_true c, fun b T n z hb hz => ?_⟩
      obtain ⟨N2, _, _⟩ := new_obj N.ab hb (SetO X.w b T n)
      obtain ⟨N3, r3⟩ := new_lst N2.ab hz (reps_ints (sortI (disL ns)))
      exact k _ _ ⟨N3.st.trans (N2.st.trans N.st), N3.lk.trans (N2.lk.trans N.lk), N3.ab, (N.ext.trans N2.ext).trans N3.ext⟩ r3
  | _ => cases e
theorem ok_sorted {K : PySem.W.Frag} : CallOk K (rSortedI K) (biD .sorted) := by
  intro W ds vs d S' Q A r e k
  change sortB ds W.S = _ at e
  unfold sortB at e
  split at e
  · rename_i xs
    cases q : intsOf xs with
    | none => rw [q] at e; cases e
    | some ns =>
      rw [q] at e
      obtain ⟨_, e⟩ := need_ok e
      obtain ⟨rfl, rfl⟩ := ret_ok e
      obtain ⟨v, rfl, r1⟩ := reps1 r
      simp only [Rep] at r1
      obtain ⟨p, us, rfl, hp, _, _, r2⟩ := r1
      have hu := intsOf_ok xs ns us q r2
      refine ⟨p, ns, rfl, by rw [← hu]; exact SqL.of hp, fun ms q hm hs hq => ?_⟩
      rw [sortI_uniq hm hs]
      obtain ⟨N, r⟩ := new_lst A hq (reps_ints (K := K) (W := W) (sortI ns))
      exact k _ _ N r
  · cases e
theorem mform {es : List Expr} {pos : Pos} {env : PySem.Env} (h : es.all nst = true) (hl : es.length < 30) : methodCallForm es.length (backTo pos (starEach es env)) (backToKw pos (keywordEach [] env)) = true := by
  have key : ∀ es : List Expr, es.all nst = true → (backTo pos (starEach es env)).all (fun x => !x.1) = true := by
    intro es
    induction es with
    | nil => intro _; rfl
    | cons e es ih =>
      intro h
      rw [List.all_cons] at h
      obtain ⟨h1, h2⟩ := and2 h
      rw [star_cons h1]
      exact ih h2
  unfold methodCallForm
  rw [key es h]
  show (true && true && decide (es.length + (if ([] : List (Option Str × Sem Value)).isEmpty then 0 else 1) < 30)) = true
  simpa using hl
theorem ok_int {K : PySem.W.Frag} : CallOk K (fun xs H Q => (∃ i, xs = [.int i] ∧ Q (.int i) H) ∨ ∃ k, xs = [.bl k] ∧ Q (.int (if k then 1 else 0)) H) (biD .int) := by
  intro W ds vs d S' Q A r e k
  change intB ds W.S = _ at e
  unfold intB at e
  split at e
  · obtain ⟨rfl, rfl⟩ := ret_ok e
    obtain ⟨v, rfl, r1⟩ := reps1 r
    rw [rep_int r1]
    exact .inl ⟨_, rfl, k W _ (Nxt.refl A) (int_rep _)⟩
  · obtain ⟨rfl, rfl⟩ := ret_ok e
    obtain ⟨v, rfl, r1⟩ := reps1 r
    simp only [Rep] at r1
    subst r1
    exact .inr ⟨_, rfl, k W _ (Nxt.refl A) (int_rep _)⟩
  · cases e
theorem ok_strf {K : PySem.W.Frag} : CallOk K (fun xs H Q => ∃ i, xs = [.int i] ∧ i.natAbs.log2 < 1920 ∧ Q (.str (toString i)) H) (biD .strf) := by
  intro W ds vs d S' Q A r e k
  change strfB ds W.S = _ at e
  unfold strfB at e
  split at e
  · obtain ⟨c, e⟩ := need_ok e
    obtain ⟨rfl, rfl⟩ := ret_ok e
    obtain ⟨v, rfl, r1⟩ := reps1 r
    rw [rep_int r1]
    exact ⟨_, rfl, of_decide_eq_true c, k W _ (Nxt.refl A) (str_rep _)⟩
  · cases e
theorem b_all (hc : X.calm = true) (hgd : X.A.guards = some []) (hu : X.A.units + 64 < cLine) (b : Bi) (hx : x = Str.ofString b.name) (hg : Gl X x) (hm : X.mg x = none) (ha : PA X (e :: es) (tAs X.K ms)) (hs : (e :: es).all nst = true) :
    PE X (.Call (.Name x p) (e :: es) [] pos) (tI X.K fun ρ => bnd (ms ρ) (biD b)) := by
  subst hx
  cases b with
  | max1 => exact b_fn (cr_max hc) ok_max1 hg hm (by decide +kernel) (by decide) (by decide) ha hs
  | len => exact b_fn call_len_seq ok_len hg hm (by decide +kernel) (by decide) (by decide) ha hs
  | max2 => exact b_fn (call_max2 hc) ok_max hg hm (by decide +kernel) (by decide) (by decide) ha hs
  | min3 => exact b_fn (call_min3Nu hc) ok_min3 hg hm (by decide +kernel) (by decide) (by decide) ha hs
  | min2 => exact b_fn (call_min2 hc) ok_min hg hm (by decide +kernel) (by decide) (by decide) ha hs
  | tup => exact b_ty call_tuple_of ok_tup hg hm (by decide +kernel) (by decide) (by decide) ha hs
  | lst => exact b_ty call_list_of ok_lst hg hm (by decide +kernel) (by decide) (by decide) ha hs
  | repr => exact b_fn (call_repr_dat hgd hu) ok_repr hg hm (by decide +kernel) (by decide) (by decide) ha hs
  | all => exact b_fn (cr_all hc) ok_all hg hm (by decide +kernel) (by decide) (by decide) ha hs
  | sum => exact b_fn (cr_sumT hc) ok_sum hg hm (by decide +kernel) (by decide) (by decide) ha hs
  | int => exact b_ty call_int1 ok_int hg hm (by decide +kernel) (by decide) (by decide) ha hs
  | strf => exact b_ty call_str_int ok_strf hg hm (by decide +kernel) (by decide) (by decide) ha hs
  | sorted => exact b_fn cr_sortedI ok_sorted hg hm (by decide +kernel) (by decide) (by decide) ha hs
end
theorem walks_gt {K : PySem.W.Frag} {W : Wd} {a : Addr} {is : List Int} (hs : ∀ H, SqT K H a (is.map V.int)) : Walks K (Itt K a) (is.map D.int) W := by
  intro W' A' E i
  refine ⟨fun d hd => ?_, fun hi => ⟨_, hs _, by simpa using hi⟩⟩
  rw [List.getElem?_map] at hd
  cases q : is[i]? with
  | none => rw [q] at hd; cases hd
  | some j =>
    rw [q] at hd
    cases hd
    have h2 : (is.map V.int)[i]? = some (.int j) := by rw [List.getElem?_map, q]; rfl
    refine ⟨⟨_, _, hs _, h2⟩, fun w H' hy => ?_⟩
    obtain ⟨rfl, hy⟩ := hy
    have := hy _ (hs _)
    rw [h2] at this
    cases this
    exact ⟨W', rfl, Nxt.refl A', int_rep _⟩
theorem at_last {is : List Int} {i : Int} (h : is.getLast? = some i) : atI (is.map V.int) (-1) = some (.int i) := by
  rw [List.getLast?_eq_getElem?] at h
  have hl := (List.getElem?_eq_some_iff.mp h).1
  unfold atI ixN
  rw [if_neg (by decide), if_pos (by rw [List.length_map]; omega)]
  show (is.map V.int)[((-1 : Int) + ((is.map V.int).length : Nat)).toNat]? = _
  rw [List.length_map, show ((-1 : Int) + (is.length : Nat)).toNat = is.length - 1 by omega, List.getElem?_map, h]
  rfl
section
variable {G : Tb} {Φ : String → List D → M D} {N : List Str}
mutual
theorem sndE : ∀ (ir : Ex) (sc : Sx) (X : Cx) (e : Expr), Good G Φ N sc X → chk G N ir sc e = true → PE X e (tI X.K (ev Φ ir))
  | .var i, sc, X, e, g, h => by
    simp only [chk] at h
    split at h
    · obtain ⟨h, h4⟩ := and2 h
      obtain ⟨h, h3⟩ := and2 h
      obtain ⟨h1, h2⟩ := and2 h
      simp only [ev]
      exact s_var (by rw [g.hN]; exact of_decide_eq_true h1) (by rw [g.hs]; exact isVis_ok h2) (not_b h3) (not_b h4)
    · cases h
  | .int i, sc, X, e, g, h => by
    simp only [chk] at h
    split at h
    · rw [eq_of_beq h]
      simp only [ev]
      exact s_const pe_int fun _ => int_rep _
    · cases h
  | .bl b, sc, X, e, g, h => by
    simp only [chk] at h
    split at h
    · rw [eq_of_beq h]
      simp only [ev]
      exact s_const pe_bl fun _ => bl_rep _
    · cases h
  | .non, sc, X, e, g, h => by
    simp only [chk] at h
    split at h
    · simp only [ev]
      exact s_const pe_non fun _ => by simp only [Rep]
    · cases h
  | .str s, sc, X, e, g, h => by
    simp only [chk] at h
    split at h
    · rw [dec_eq h]
      simp only [ev]
      exact s_const pe_str fun _ => str_rep _
    · cases h
  | .glob x i, sc, X, e, g, h => by
    simp only [chk] at h
    split at h
    · obtain ⟨h, h4⟩ := and2 h
      obtain ⟨h, h3⟩ := and2 h
      obtain ⟨h1, h2⟩ := and2 h
      have hx := dec_eq h1
      subst hx
      obtain ⟨t, ht⟩ := g.cs _ _ (of_decide_eq_true h3)
      simp only [ev]
      exact s_const (pe_glob (g.gl h2) ht (show RelV (.int i) _ from ⟨t, rfl⟩) (not_b h4)) fun _ => int_rep _
    · cases h
  | .bin o a b, sc, X, e, g, h => by
    simp only [chk] at h
    split at h
    · obtain ⟨h, h4⟩ := and2 h
      obtain ⟨h, h3⟩ := and2 h
      obtain ⟨h1, h2⟩ := and2 h
      have ho := dec_eq h1
      subst ho
      obtain ⟨r, q1, q2⟩ := bin_all (X := X) o h2
      simp only [ev]
      exact s_bin q1 q2 (sndE a sc X _ g h3) (sndE b sc X _ g h4)
    · cases h
  | .neg a, sc, X, e, g, h => by
    simp only [chk] at h
    split at h
    · simp only [ev]
      exact s_neg (sndE a sc X _ g h)
    · cases h
  | .cmp o a b, sc, X, e, g, h => by
    simp only [chk] at h
    split at h
    · obtain ⟨h, h4⟩ := and2 h
      obtain ⟨h, h3⟩ := and2 h
      obtain ⟨h1, h2⟩ := and2 h
      have ho := dec_eq h1
      subst ho
      obtain ⟨h2, hb⟩ := and2 h2
      obtain ⟨r, q1, q2⟩ := cmp_all2 (X := X) g.hu g.hu5 o h2
      simp only [ev]
      exact s_cmp q1 q2 (sndE a sc X _ g h3) (sndE b sc X _ g h4) (not_b hb)
    · cases h
  | .chain o p a b c, sc, X, e, g, h => by
    simp only [chk] at h
    split at h
    · obtain ⟨h, h7⟩ := and2 h
      obtain ⟨h, h6⟩ := and2 h
      obtain ⟨h, h5⟩ := and2 h
      obtain ⟨h, h4⟩ := and2 h
      obtain ⟨h, h3⟩ := and2 h
      obtain ⟨h1, h2⟩ := and2 h
      have ho := dec_eq h1
      have hp := dec_eq h2
      subst ho hp
      obtain ⟨r, q1, q2⟩ := cmp_all (X := X) g.hu o h3
      obtain ⟨r', q3, q4⟩ := cmp_all (X := X) g.hu p h4
      simp only [ev]
      exact s_chain q1 q3 q2 q4 (sndE a sc X _ g h5) (sndE b sc X _ g h6) (sndE c sc X _ g h7) (okC_in h3 _) (okC_in h4 _)
    · cases h
  | .and a b, sc, X, e, g, h => by
    simp only [chk] at h
    split at h
    · rename_i x y r pos
      obtain ⟨h1, h2⟩ := and2 h
      have q := sndE b sc X _ g h2
      simp only [ev]
      refine s_and (sndE a sc X _ g h1) ?_
      cases r with
      | nil => exact pe_one q
      | cons z r => exact q
    · cases h
  | .or a b, sc, X, e, g, h => by
    simp only [chk] at h
    split at h
    · rename_i x y r pos
      obtain ⟨h1, h2⟩ := and2 h
      have q := sndE b sc X _ g h2
      simp only [ev]
      refine s_or (sndE a sc X _ g h1) ?_
      cases r with
      | nil => exact pe_one q
      | cons z r => exact q
    · cases h
  | .not a, sc, X, e, g, h => by
    simp only [chk] at h
    split at h
    · simp only [ev]
      exact s_not (sndE a sc X _ g h)
    · cases h
  | .ife c a b, sc, X, e, g, h => by
    simp only [chk] at h
    split at h
    · obtain ⟨h, h3⟩ := and2 h
      obtain ⟨h1, h2⟩ := and2 h
      simp only [ev]
      exact s_ife (sndT c sc X _ g h1) (sndE a sc X _ g h2) (sndE b sc X _ g h3)
    · cases h
  | .tup es, sc, X, e, g, h => by
    simp only [chk] at h
    split at h
    · simp only [ev]
      exact s_tup (sndD es sc X _ g h)
    · cases h
  | .lst m es, sc, X, e, g, h => by
    simp only [chk] at h
    split at h
    · simp only [ev]
      exact s_lst (sndD es sc X _ g h)
    · cases h
  | .ix a i, sc, X, e, g, h => by
    simp only [chk] at h
    split at h
    · obtain ⟨h, h3⟩ := and2 h
      obtain ⟨h1, h2⟩ := and2 h
      simp only [ev]
      exact s_ix (sndE a sc X _ g h2) (sndE i sc X _ g h3) (plain_ix h1)
    · cases h
  | .sl m a lo hi, sc, X, e, g, h => by
    simp only [chk] at h
    split at h
    · obtain ⟨h, h3⟩ := and2 h
      obtain ⟨h1, h2⟩ := and2 h
      simp only [ev]
      exact s_sl (sndE a sc X _ g h1) (sndO lo sc X _ g h2) (sndO hi sc X _ g h3)
    · cases h
  | .call f as, sc, X, e, g, h => by
    simp only [chk] at h
    split at h
    · rename_i x p xs pos
      obtain ⟨h, h4⟩ := and2 h
      obtain ⟨h, h3⟩ := and2 h
      obtain ⟨h, h2⟩ := and2 h
      obtain ⟨fq, h1, hq⟩ := nm_ok h
      obtain ⟨fa, k, F, hr, hat⟩ := g.ft f _ _ h1
      obtain ⟨hm, hk⟩ := hq _ _ _ hat
      have hr := hr.mono (Nat.le_succ k)
      have ha := sndA as sc X _ g h4
      have hn := chks_nst as sc xs h4
      have hl := evs_len (Φ := Φ) as sc xs h4
      simp only [ev]
      cases xs with
      | nil =>
        refine (g_call0 F g.gd hr (g.gl h2) hm hk (not_b h3)).weak ?_
        rintro σ H Q ⟨W, ρ, rfl, A, sl, d, S', e, q⟩
        obtain ⟨ds, S1, e1, e2⟩ := bnd_ok e
        have h0 := hl _ _ _ _ e1
        have hd : ds = [] := by
          cases ds with
          | nil => rfl
          | cons _ _ => simp at h0
        subst hd
        cases as with
        | nil =>
          simp only [evs] at e1
          obtain ⟨_, rfl⟩ := ret_ok e1
          exact ⟨rfl, W, [], rfl, A, by simp only [Reps], d, S', e2, q⟩
        | cons _ _ => simp only [chks] at h4; cases h4
        | star _ _ => simp only [chks] at h4; cases h4
      | cons y ys =>
        rw [List.all_cons] at hn
        obtain ⟨n1, n2⟩ := and2 hn
        exact (g_call F g.gd hr (g.gl h2) hm hk ha (not_b h3) (star_cons n1 ys _) (plain_args n2)).weak (f_call fun ρ S xs S' e => hl ρ S xs S' e)
    · cases h
  | .fld c f o, sc, X, e, g, h => by
    simp only [chk] at h
    split at h
    · obtain ⟨h, h4⟩ := and2 h
      obtain ⟨h, h3⟩ := and2 h
      obtain ⟨h1, h2⟩ := and2 h
      have hx := dec_eq h1
      subst hx
      obtain ⟨C, T, hn⟩ := g.fl _ _ (of_decide_eq_true h2)
      simp only [ev]
      exact s_fld T hn (sndE o sc X _ g h4) h3
    · cases h
  | .meth f c m o as, sc, X, e, g, h => by
    simp only [chk] at h
    split at h
    · rename_i x at_ ap xs cp
      obtain ⟨h, h7⟩ := and2 h
      obtain ⟨h, h6⟩ := and2 h
      obtain ⟨h, h5⟩ := and2 h
      obtain ⟨h, h4⟩ := and2 h
      obtain ⟨h, h3⟩ := and2 h
      obtain ⟨h1, h2⟩ := and2 h
      have hx := dec_eq h1
      subst hx
      obtain ⟨fa, k, F, hr, ⟨C, T, hm⟩⟩ := g.ft f _ _ (dec_eq h2)
      have hr := hr.mono (Nat.le_succ k)
      have ha := sndA as sc X _ g h7
      have hn := chks_nst as sc xs h7
      have hl := evs_len (Φ := Φ) as sc xs h7
      have hf := mform (pos := cp) (env := X.env) hn (of_decide_eq_true h5)
      simp only [ev]
      cases xs with
      | nil =>
        refine (g_meth0 (sndE o sc X _ g h6) h3 T.cls hm F g.gd hr h4).weak fun σ H Q h => ?_
        have hh := m_call (X := X) (m := Str.ofString m) (ms := evs Φ as) T rfl (n := 0 + 1) (fun ρ S xs S' e => by rw [hl ρ S xs S' e]; rfl) σ H Q h
        have e0 : tAs X.K (evs Φ as) = tAs X.K (evs Φ .nil) := by
          cases as with
          | nil => rfl
          | cons _ _ => simp only [chks] at h7; cases h7
          | star _ _ => simp only [chks] at h7; cases h7
        rw [e0] at hh
        obtain ⟨W, ρ, rfl, A, sl, d, S', e, k⟩ := hh
        refine ⟨W, ρ, rfl, A, sl, d, S', e, fun W1 v N r => ?_⟩
        obtain ⟨a, dx, fs, q1, q2, q3, W2, ρ2, q4, A2, _, ds, S2, e2, k2⟩ := k W1 v N r
        simp only [evs] at e2
        obtain ⟨rfl, rfl⟩ := ret_ok e2
        refine ⟨a, dx, fs, q1, q2, q3, ?_⟩
        have := k2 W2 [] (Nxt.refl A2) (by simp only [Reps])
        rw [q4] at this
        exact this
      | cons y ys =>
        rw [List.all_cons] at hn
        obtain ⟨n1, n2⟩ := and2 hn
        exact (g_meth (sndE o sc X _ g h6) h3 T.cls hm F g.gd hr ha (star_cons n1 ys _) (plain_args n2) hf h4).weak (m_call T rfl fun ρ S xs S' e => by rw [hl ρ S xs S' e])
    · cases h
  | .make c f as, sc, X, e, g, h => by
    simp only [chk] at h
    split at h
    · rename_i x p y ys pos
      obtain ⟨h, h5⟩ := and2 h
      obtain ⟨h, h4⟩ := and2 h
      obtain ⟨h, h3⟩ := and2 h
      obtain ⟨h1, h2⟩ := and2 h
      have hx := dec_eq h1
      subst hx
      obtain ⟨fa, k, F, hr, ⟨C, T, M, hm⟩⟩ := g.ft f _ _ (dec_eq h2)
      have hn := chks_nst as sc _ h5
      have hl := evs_len (Φ := Φ) as sc _ h5
      rw [List.all_cons] at hn
      obtain ⟨n1, n2⟩ := and2 hn
      simp only [ev]
      exact (g_make M F g.gd hr (g.gl h3) hm (sndA as sc X _ g h5) (not_b h4) (star_cons n1 ys _) (plain_args n2)).weak (mk_call T fun ρ S xs S' e => by rw [hl ρ S xs S' e]; rfl)
    · cases h
  | .dget d k, sc, X, e, g, h => by
    simp only [chk] at h
    split at h
    · obtain ⟨h, h3⟩ := and2 h
      obtain ⟨h1, h2⟩ := and2 h
      simp only [ev]
      exact s_dgetF (pos' := ⟨0, 0, 0, 0⟩) (by have := g.hu; omega) (sndE d sc X _ g h2) (sndE k sc X _ g h3) (plain_ix h1)
    · cases h
  | .din n k d, sc, X, e, g, h => by
    simp only [chk] at h
    split at h
    · obtain ⟨h, h4⟩ := and2 h
      obtain ⟨h, h3⟩ := and2 h
      obtain ⟨h1, h2⟩ := and2 h
      simp only [ev]
      exact s_din (by have := g.hu; omega) (sndE k sc X _ g h3) (sndE d sc X _ g h4) (dec_eq h1) (not_b h2)
    · cases h
  | .dnew t, sc, X, e, g, h => by
    simp only [chk] at h
    split at h
    · simp only [ev]
      exact s_dnew
    · cases h
  | .mulL m a b, sc, X, e, g, h => by
    simp only [chk] at h
    split at h
    · obtain ⟨h, h3⟩ := and2 h
      obtain ⟨h1, h2⟩ := and2 h
      have ho := dec_eq h1
      subst ho
      simp only [ev]
      exact s_bin o_mul (fun W d1 d2 v1 v2 d S' Q A r1 r2 e k => mulLD_ok A r1 r2 e k) (sndE a sc X _ g h2) (sndE b sc X _ g h3)
    · cases h
  | .addL m a b, sc, X, e, g, h => by
    simp only [chk] at h
    split at h
    · obtain ⟨h, h3⟩ := and2 h
      obtain ⟨h1, h2⟩ := and2 h
      have ho := dec_eq h1
      subst ho
      simp only [ev]
      exact s_bin o_add (fun W d1 d2 v1 v2 d S' Q A r1 r2 e k => addLD_ok A r1 r2 e k) (sndE a sc X _ g h2) (sndE b sc X _ g h3)
    · cases h
  | .tenp a, sc, X, e, g, h => by
    simp only [chk] at h
    split at h
    · obtain ⟨h, h8⟩ := and2 h
      obtain ⟨h, h7⟩ := and2 h
      obtain ⟨h, h6⟩ := and2 h
      obtain ⟨h, h5⟩ := and2 h
      obtain ⟨h, h4⟩ := and2 h
      obtain ⟨h, h3⟩ := and2 h
      obtain ⟨h1, h2⟩ := and2 h
      have q1 := dec_eq h1
      have q2 := dec_eq h2
      have q3 := dec_eq h3
      have q4 := dec_eq h4
      have q5 := dec_eq h5
      subst q1 q2 q3 q4 q5
      simp only [ev]
      exact s_tenp (g.gl h7) (g.bt _ (of_decide_eq_true h6)) (sndE a sc X _ g h8) (fun e he => star_cons (by cases e <;> first | rfl | cases he) _ _)
    · cases h
  | .bi b as, sc, X, e, g, h => by
    simp only [chk] at h
    split at h
    · obtain ⟨h, h4⟩ := and2 h
      obtain ⟨h, h3⟩ := and2 h
      obtain ⟨h1, h2⟩ := and2 h
      simp only [ev]
      exact b_all g.calm g.gd g.hu b (dec_eq h1) (g.gl h3) (g.bt _ (of_decide_eq_true h2)) (sndA as sc X _ g h4) (chks_nst as sc _ h4)
    · cases h
  | .lrg m a, sc, X, e, g, h => by
    simp only [chk] at h
    split at h
    · obtain ⟨h, h8⟩ := and2 h
      obtain ⟨h, h7⟩ := and2 h
      obtain ⟨h, h6⟩ := and2 h
      obtain ⟨h, h5⟩ := and2 h
      obtain ⟨h, h4⟩ := and2 h
      obtain ⟨h, h3⟩ := and2 h
      obtain ⟨h1, h2⟩ := and2 h
      have q1 := dec_eq h1
      have q2 := dec_eq h2
      subst q1 q2
      simp only [ev]
      exact s_lrg g.calm (g.gl h5) (g.bt _ (of_decide_eq_true h3)) (g.gl h6) (g.bt _ (of_decide_eq_true h4)) (sndE a sc X _ g h8) (star_cons h7 _ _)
    · cases h
  | .trg a, sc, X, e, g, h => by
    simp only [chk] at h
    split at h
    · obtain ⟨h, h8⟩ := and2 h
      obtain ⟨h, h7⟩ := and2 h
      obtain ⟨h, h6⟩ := and2 h
      obtain ⟨h, h5⟩ := and2 h
      obtain ⟨h, h4⟩ := and2 h
      obtain ⟨h, h3⟩ := and2 h
      obtain ⟨h1, h2⟩ := and2 h
      have q1 := dec_eq h1
      have q2 := dec_eq h2
      subst q1 q2
      simp only [ev]
      exact s_trg g.calm (g.gl h5) (g.bt _ (of_decide_eq_true h3)) (g.gl h6) (g.bt _ (of_decide_eq_true h4)) (sndE a sc X _ g h8) (star_cons h7 _ _)
    · cases h
  | .isi a T, sc, X, e, g, h => by
    simp only [chk] at h
    split at h
    · obtain ⟨h, h8⟩ := and2 h
      obtain ⟨h, h7⟩ := and2 h
      obtain ⟨h, h6⟩ := and2 h
      obtain ⟨h, h5⟩ := and2 h
      obtain ⟨h, h4⟩ := and2 h
      obtain ⟨h, h3⟩ := and2 h
      obtain ⟨h1, h2⟩ := and2 h
      have q1 := dec_eq h1
      have q2 := dec_eq h2
      subst q1 q2
      simp only [ev]
      exact s_isi (g.gl h5) (g.bt _ (of_decide_eq_true h3)) (g.gl h6) (g.bt _ (of_decide_eq_true h4)) (sndE a sc X _ g h8) (star_cons h7 _ _)
    · cases h
  | .popAt o i, sc, X, e, g, h => by
    simp only [chk] at h
    split at h
    · obtain ⟨h, h6⟩ := and2 h
      obtain ⟨h, h5⟩ := and2 h
      obtain ⟨h, h4⟩ := and2 h
      obtain ⟨h, h3⟩ := and2 h
      obtain ⟨h1, h2⟩ := and2 h
      have q1 := dec_eq h1
      subst q1
      simp only [ev]
      exact s_pop (sndE o sc X _ g h5) (sndE i sc X _ g h6) (ab_name h2 _ _) h3 (star_cons h4 _ _)
    · cases h
  | .idxOf o i, sc, X, e, g, h => by
    simp only [chk] at h
    split at h
    · obtain ⟨h, h6⟩ := and2 h
      obtain ⟨h, h5⟩ := and2 h
      obtain ⟨h, h4⟩ := and2 h
      obtain ⟨h, h3⟩ := and2 h
      obtain ⟨h1, h2⟩ := and2 h
      have q1 := dec_eq h1
      subst q1
      simp only [ev]
      exact s_idx g.hu5 (sndE o sc X _ g h5) (sndE i sc X _ g h6) (ab_ok h2 _ _) h3 (star_cons h4 _ _)
    · cases h
  | .cntOf o i, sc, X, e, g, h => by
    simp only [chk] at h
    split at h
    · obtain ⟨h, h6⟩ := and2 h
      obtain ⟨h, h5⟩ := and2 h
      obtain ⟨h, h4⟩ := and2 h
      obtain ⟨h, h3⟩ := and2 h
      obtain ⟨h1, h2⟩ := and2 h
      have q1 := dec_eq h1
      subst q1
      simp only [ev]
      exact s_cnt g.hu5 (sndE o sc X _ g h5) (sndE i sc X _ g h6) (ab_name h2 _ _) h3 (star_cons h4 _ _)
    · cases h
  | .powW a b, sc, X, e, g, h => by
    simp only [chk] at h
    split at h
    · obtain ⟨h1, h2⟩ := and2 h
      simp only [ev]
      exact s_bin o_powW k_powW (sndE a sc X _ g h1) (sndE b sc X _ g h2)
    · cases h
  | .lset a, sc, X, e, g, h => by
    simp only [chk] at h
    split at h
    · obtain ⟨h, h8⟩ := and2 h
      obtain ⟨h, h7⟩ := and2 h
      obtain ⟨h, h6⟩ := and2 h
      obtain ⟨h, h5⟩ := and2 h
      obtain ⟨h, h4⟩ := and2 h
      obtain ⟨h, h3⟩ := and2 h
      obtain ⟨h1, h2⟩ := and2 h
      have q1 := dec_eq h1
      have q2 := dec_eq h2
      subst q1 q2
      simp only [ev]
      exact s_lset g.calm (g.gl h5) (g.bt _ (of_decide_eq_true h3)) (g.gl h6) (g.bt _ (of_decide_eq_true h4)) (sndE a sc X _ g h8) (star_cons h7 _ _)
    · cases h
  | .opq, sc, X, e, g, h => by
    simp only [ev]
    exact s_opq fun _ => rfl
  | .tyeq a T, sc, X, e, g, h => by
    simp only [chk] at h
    split at h
    · obtain ⟨h, h8⟩ := and2 h
      obtain ⟨h, h7⟩ := and2 h
      obtain ⟨h, h6⟩ := and2 h
      obtain ⟨h, h5⟩ := and2 h
      obtain ⟨h, h4⟩ := and2 h
      obtain ⟨h, h3⟩ := and2 h
      obtain ⟨h1, h2⟩ := and2 h
      have q1 := dec_eq h1
      have q2 := dec_eq h2
      subst q1 q2
      simp only [ev]
      exact s_cmp o_eqTy k_eqTy (pe_typ (g.gl h5) (g.bt _ (of_decide_eq_true h3)) (sndE a sc X _ g h8) (star_cons h7 _ _)) (pe_tyn (g.gl h6) (g.bt _ (of_decide_eq_true h4))) (okC_in (o := .Eq) rfl _)
    · cases h
  | .lcm x es, sc, X, e, g, h => by
    simp only [chk] at h
    split at h
    · obtain ⟨h, h5⟩ := and2 h
      obtain ⟨h, h4⟩ := and2 h
      obtain ⟨h, h3⟩ := and2 h
      obtain ⟨h1, h2⟩ := and2 h
      have q1 := dec_eq h1
      subst q1
      simp only [ev]
      exact s_lcm (g.gl h2) (g.cs _ _ (of_decide_eq_true h3)) (not_b h4) (sndA es sc X _ g h5) (chks_nst es sc _ h5)
    · cases h
  | .maxd a j, sc, X, e, g, h => by
    simp only [chk] at h
    split at h
    · obtain ⟨h, h7⟩ := and2 h
      obtain ⟨h, h6⟩ := and2 h
      obtain ⟨h, h5⟩ := and2 h
      obtain ⟨h, h4⟩ := and2 h
      obtain ⟨h, h3⟩ := and2 h
      obtain ⟨h1, h2⟩ := and2 h
      have q1 := dec_eq h1
      have q2 := dec_eq h2
      have q6 := eq_of_beq h6
      subst q1 q2 q6
      simp only [ev]
      exact s_maxd g.calm g.hu5 (g.gl h4) (g.bt _ (of_decide_eq_true h3)) (sndE a sc X _ g h7) (star_cons h5 _ _)
    · cases h
  | .lc2 m elt tg tg1 own own1 it it1, sc, X, e, g, h => by
    simp only [chk] at h
    split at h
    · rename_i x gs scope pos
      split at h
      · rename_i c c1
        obtain ⟨t, i, ifs, a⟩ := c
        obtain ⟨t1, i1, ifs1, a1⟩ := c1
        simp only [] at h
        obtain ⟨h, h14⟩ := and2 h
        obtain ⟨z1, z2⟩ := and2 h14
        have z1 := List.isEmpty_iff.mp z1
        have z2 := List.isEmpty_iff.mp z2
        subst z1 z2
        obtain ⟨h, hT⟩ := and2 h
        obtain ⟨hT1, hT2⟩ := and2 hT
        obtain ⟨h, h13⟩ := and2 h
        obtain ⟨h, h12⟩ := and2 h
        obtain ⟨h, h11⟩ := and2 h
        obtain ⟨h, h10⟩ := and2 h
        obtain ⟨h, h9⟩ := and2 h
        obtain ⟨h, h8⟩ := and2 h
        obtain ⟨h, h7⟩ := and2 h
        obtain ⟨h, h6⟩ := and2 h
        obtain ⟨h, h5⟩ := and2 h
        obtain ⟨h, h4⟩ := and2 h
        obtain ⟨h, h3⟩ := and2 h
        obtain ⟨h1, h2⟩ := and2 h
        have q1 := dec_eq h1
        have q2 := dec_eq h2
        subst q1 q2
        have hb : BlkOk X.N X.env.scope scope (ownOf N own) := by rw [g.hN, g.hs]; exact blkOk_by h6
        have hmap : (ownOf N own).map (·.2) = own := own_map N own
        have key := pe_lc2 (own := ownOf N own) (vs1 := own1) (pos := pos) g.calm (by rw [g.hN]; exact g.nd) (sndI it sc X t i g hT1 h5) hb
          (fun j hj => by rw [hmap]; exact List.contains_iff_mem.mp (List.all_eq_true.mp h11 j hj))
          (g := gTg X.K tg) (tt := tT X.K fun _ => ret true) (g1 := gTg X.K tg1) (tt1 := tT X.K fun _ => ret true) (te := tI X.K (ev Φ elt)) (wi1 := tIt X.K (evi Φ it1))
          (fun s H C cl fp => (g.blk hb.kind s H C cl fp).tg h7)
          (fun s H C cl fp => sndC .no _ _ [] (g.blk hb.kind s H C cl fp) rfl)
          (fun s H C cl fp => sndI it1 _ _ t1 i1 (g.blk hb.kind s H C cl fp) hT2 h12)
          (fun s H C cl fp => (g.blk hb.kind s H C cl fp).tg h9)
          (fun s H C cl fp => sndC .no _ _ [] (g.blk hb.kind s H C cl fp) rfl)
          (fun s H C cl fp => sndE elt _ _ x (g.blk hb.kind s H C cl fp) h13)
          (fs_plain h3 _) (fun env => fs_plain h4 env)
        rw [hmap] at key
        simp only [ev]
        exact key.weak (lc2_ok (gTg_ok tg) (gTg_ok tg1) (fun j hj => List.contains_iff_mem.mp (List.all_eq_true.mp h8 j hj)) fun j hj => List.contains_iff_mem.mp (List.all_eq_true.mp h10 j hj))
      · cases h
    · cases h
  | .dic0, sc, X, e, g, h => by
    simp only [chk] at h
    split at h
    · simp only [ev]
      exact s_dic0
    · cases h
  | .dic1 i j, sc, X, e, g, h => by
    simp only [chk] at h
    split at h
    · obtain ⟨z1, z2⟩ := and2 h
      have z1 := eq_of_beq z1
      have z2 := eq_of_beq z2
      subst z1 z2
      simp only [ev]
      exact s_dic1 pe_int pe_int
    · cases h
  | .rev a, sc, X, e, g, h => by
    simp only [chk] at h
    split at h
    · obtain ⟨h1, h2⟩ := and2 h
      have q1 := eq_of_beq h1
      subst q1
      simp only [ev]
      exact s_rev (sndE a sc X _ g h2) (pe_m1 pe_int)
    · cases h
  | .sc elt tg own it, sc, X, e, g, h => by
    simp only [chk] at h
    split at h
    · rename_i x t i ifs a scope pos
      obtain ⟨h, h7⟩ := and2 h
      obtain ⟨h, h6⟩ := and2 h
      obtain ⟨h, h5⟩ := and2 h
      obtain ⟨h, h4⟩ := and2 h
      obtain ⟨h, h3⟩ := and2 h
      obtain ⟨hT, h3⟩ := and2 h3
      obtain ⟨h, h2⟩ := and2 h
      obtain ⟨h1, h0⟩ := and2 h
      have q1 := dec_eq h1
      have q0 := List.isEmpty_iff.mp h0
      subst q1 q0
      have hb : BlkOk X.N X.env.scope scope (ownOf N own) := by rw [g.hN, g.hs]; exact blkOk_by h4
      have hmap : (ownOf N own).map (·.2) = own := own_map N own
      have key := pe_si (own := ownOf N own) (pos := pos) g.calm (by rw [g.hN]; exact g.nd) (sndI it sc X t i g hT h3) hb
        (g := gTg X.K tg) (te := tI X.K (ev Φ elt))
        (fun s H C cl fp => (g.blk hb.kind s H C cl fp).tg h5)
        (fun s H C cl fp => sndE elt _ _ x (g.blk hb.kind s H C cl fp) h7)
        (fs_plain h2 _)
      rw [hmap] at key
      simp only [ev]
      refine key.weak (si_ok (gTg_ok tg) fun j hj => ?_)
      have := List.all_eq_true.mp h6 j hj
      exact List.contains_iff_mem.mp this
    · cases h
  | .lc m elt tg own it cd, sc, X, e, g, h => by
    simp only [chk] at h
    split at h
    · rename_i x t i ifs a scope pos
      obtain ⟨h, h8⟩ := and2 h
      obtain ⟨h, h7⟩ := and2 h
      obtain ⟨h, h6⟩ := and2 h
      obtain ⟨h, h5⟩ := and2 h
      obtain ⟨h, h4⟩ := and2 h
      obtain ⟨h, h3⟩ := and2 h
      obtain ⟨hT, h3⟩ := and2 h3
      obtain ⟨h1, h2⟩ := and2 h
      have q1 := dec_eq h1
      subst q1
      have hb : BlkOk X.N X.env.scope scope (ownOf N own) := by rw [g.hN, g.hs]; exact blkOk_by h4
      have hmap : (ownOf N own).map (·.2) = own := own_map N own
      have key := pe_lc (own := ownOf N own) (pos := pos) g.calm (by rw [g.hN]; exact g.nd) (sndI it sc X t i g hT h3) hb
        (g := gTg X.K tg) (tt := tT X.K (evc Φ cd)) (te := tI X.K (ev Φ elt))
        (fun s H C cl fp => (g.blk hb.kind s H C cl fp).tg h5)
        (fun s H C cl fp => sndC cd _ _ ifs (g.blk hb.kind s H C cl fp) h8)
        (fun s H C cl fp => sndE elt _ _ x (g.blk hb.kind s H C cl fp) h7)
        (fs_plain h2 _)
      rw [hmap] at key
      simp only [ev]
      refine key.weak (lc_ok (gTg_ok tg) fun j hj => ?_)
      have := List.all_eq_true.mp h6 j hj
      exact List.contains_iff_mem.mp this
    · cases h
  | .glast x is, sc, X, e, g, h => by
    simp only [chk] at h
    split at h
    · obtain ⟨h, h4⟩ := and2 h
      obtain ⟨h, h3⟩ := and2 h
      obtain ⟨h1, h2⟩ := and2 h
      have hx := dec_eq h1
      subst hx
      obtain ⟨a, ha, hs⟩ := g.gt _ _ (of_decide_eq_true h2)
      refine (pe_ix ix_tup (pe_glob (g.gl h3) ha (show RelV (.ref a) _ from rfl) (not_b h4)) (pe_m1 pe_int) (fun _ _ => rfl)).weak ?_
      rintro σ H Q ⟨W, ρ, rfl, A, sl, d, S', e, k⟩
      simp only [ev] at e
      cases hi : is.getLast? with
      | none => rw [hi] at e; cases e
      | some i =>
        rw [hi] at e
        obtain ⟨rfl, rfl⟩ := ret_ok (show ret (D.int i) W.S = .ok d S' from e)
        exact ⟨a, is.map V.int, -1, .int i, rfl, rfl, hs _, at_last hi, k W _ (Nxt.refl A) (int_rep _)⟩
    · cases h
  | .sset a, sc, X, e, g, h => by
    simp only [chk] at h
    split at h
    · obtain ⟨h, h8⟩ := and2 h
      obtain ⟨h, h7⟩ := and2 h
      obtain ⟨h, h6⟩ := and2 h
      obtain ⟨h, h5⟩ := and2 h
      obtain ⟨h, h4⟩ := and2 h
      obtain ⟨h, h3⟩ := and2 h
      obtain ⟨h1, h2⟩ := and2 h
      have q1 := dec_eq h1
      have q2 := dec_eq h2
      subst q1 q2
      simp only [ev]
      exact s_sset g.calm (g.gl h5) (g.bt _ (of_decide_eq_true h3)) (g.gl h6) (g.bt _ (of_decide_eq_true h4)) (sndE a sc X _ g h8) (star_cons h7 _ _)
    · cases h
  | .lcA m elt tg own a cd, sc, X, e, g, h => by
    simp only [chk] at h
    split at h
    · rename_i x t i ifs as scope pos
      obtain ⟨h, h8⟩ := and2 h
      obtain ⟨h, h7⟩ := and2 h
      obtain ⟨h, h6⟩ := and2 h
      obtain ⟨h, h5⟩ := and2 h
      obtain ⟨h, h4⟩ := and2 h
      obtain ⟨h, h3⟩ := and2 h
      obtain ⟨h1, h2⟩ := and2 h
      have q1 := dec_eq h1
      subst q1
      have hb : BlkOk X.N X.env.scope scope (ownOf N own) := by rw [g.hN, g.hs]; exact blkOk_by h4
      have hmap : (ownOf N own).map (·.2) = own := own_map N own
      have hi := sndE a sc X i g h3
      have key := pe_lc (own := ownOf N own) (pos := pos) g.calm (by rw [g.hN]; exact g.nd) (PI_or (pi_tup hi) (pi_list hi)) hb
        (g := gTg X.K tg) (tt := tT X.K (evc Φ cd)) (te := tI X.K (ev Φ elt))
        (fun s H C cl fp => (g.blk hb.kind s H C cl fp).tg h5)
        (fun s H C cl fp => sndC cd _ _ ifs (g.blk hb.kind s H C cl fp) h8)
        (fun s H C cl fp => sndE elt _ _ x (g.blk hb.kind s H C cl fp) h7)
        (fs_plain h2 _)
      rw [hmap] at key
      simp only [ev]
      refine key.weak (lcA_ok (gTg_ok tg) fun j hj => ?_)
      have := List.all_eq_true.mp h6 j hj
      exact List.contains_iff_mem.mp this
    · cases h
theorem sndT : ∀ (ir : Ex) (sc : Sx) (X : Cx) (e : Expr), Good G Φ N sc X → chk G N ir sc e = true → PT X e (tT X.K (evt Φ ir))
  | .and a b, sc, X, e, g, h => by
    simp only [chk] at h
    split at h
    · rename_i x y r pos
      obtain ⟨h1, h2⟩ := and2 h
      have q := sndT b sc X _ g h2
      simp only [evt]
      refine PW.pt (w_and (sndT a sc X _ g h1) ?_)
      cases r with
      | nil => exact w_and1 q
      | cons z r => exact w_of q
    · cases h
  | .or a b, sc, X, e, g, h => by
    simp only [chk] at h
    split at h
    · rename_i x y r pos
      obtain ⟨h1, h2⟩ := and2 h
      have q := sndT b sc X _ g h2
      simp only [evt]
      refine PW.pt (w_or (sndT a sc X _ g h1) ?_)
      cases r with
      | nil => exact pw_or1 q
      | cons z r => exact w_of q
    · cases h
  | .not a, sc, X, e, g, h => by
    simp only [chk] at h
    split at h
    · simp only [evt]
      exact t_not (sndT a sc X _ g h)
    · cases h
  | .cmp o a b, sc, X, e, g, h => by
    simp only [chk] at h
    split at h
    · obtain ⟨h, h4⟩ := and2 h
      obtain ⟨h, h3⟩ := and2 h
      obtain ⟨h1, h2⟩ := and2 h
      have ho := dec_eq h1
      subst ho
      obtain ⟨h2, hb⟩ := and2 h2
      obtain ⟨r, q1, q2⟩ := cmp_all2 (X := X) g.hu g.hu5 o h2
      simp only [evt]
      exact t_cmp q1 q2 (sndE a sc X _ g h3) (sndE b sc X _ g h4) (not_b hb)
    · cases h
  | .chain o p a b c, sc, X, e, g, h => by
    simp only [chk] at h
    split at h
    · obtain ⟨h, h7⟩ := and2 h
      obtain ⟨h, h6⟩ := and2 h
      obtain ⟨h, h5⟩ := and2 h
      obtain ⟨h, h4⟩ := and2 h
      obtain ⟨h, h3⟩ := and2 h
      obtain ⟨h1, h2⟩ := and2 h
      have ho := dec_eq h1
      have hp := dec_eq h2
      subst ho hp
      obtain ⟨r, q1, q2⟩ := cmp_all (X := X) g.hu o h3
      obtain ⟨r', q3, q4⟩ := cmp_all (X := X) g.hu p h4
      simp only [evt]
      exact t_chain q1 q3 q2 q4 (sndE a sc X _ g h5) (sndE b sc X _ g h6) (sndE c sc X _ g h7) (okC_in h3 _) (okC_in h4 _)
    · cases h
  | .var i, sc, X, e, g, h => by
    have q := sndE (.var i) sc X e g h
    simp only [ev] at q
    simp only [evt]
    simp only [chk] at h
    split at h
    · exact t_tru q (tru_plain rfl _)
    · cases h
  | .bl b, sc, X, e, g, h => by
    have q := sndE (.bl b) sc X e g h
    simp only [ev] at q
    simp only [evt]
    simp only [chk] at h
    split at h
    · exact t_bool (n := fun _ => ret b) q (tru_plain rfl _)
    · cases h
  | .bin o a b, sc, X, e, g, h => by
    have q := sndE (.bin o a b) sc X e g h
    simp only [ev] at q
    simp only [evt]
    simp only [chk] at h
    split at h
    · exact t_tru q (tru_plain rfl _)
    · cases h
  | .call f as, sc, X, e, g, h => by
    have q := sndE (.call f as) sc X e g h
    simp only [ev] at q
    simp only [evt]
    simp only [chk] at h
    split at h
    · exact t_tru q (tru_plain rfl _)
    · cases h
  | .bi b as, sc, X, e, g, h => by
    have q := sndE (.bi b as) sc X e g h
    simp only [ev] at q
    simp only [evt]
    simp only [chk] at h
    split at h
    · exact t_tru q (tru_plain rfl _)
    · cases h
  | .isi a T, sc, X, e, g, h => by
    have q := sndE (.isi a T) sc X e g h
    simp only [ev] at q
    simp only [evt]
    simp only [chk] at h
    split at h
    · refine t_bool ?_ (tru_plain rfl _)
      simpa only [bnd_assoc] using q
    · cases h
  | .int _, _, _, _, _, _ => t_bad fun _ => rfl
  | .non, _, _, _, _, _ => t_bad fun _ => rfl
  | .str _, _, _, _, _, _ => t_bad fun _ => rfl
  | .glob _ _, _, _, _, _, _ => t_bad fun _ => rfl
  | .neg _, _, _, _, _, _ => t_bad fun _ => rfl
  | .ife _ _ _, _, _, _, _, _ => t_bad fun _ => rfl
  | .tup _, _, _, _, _, _ => t_bad fun _ => rfl
  | .lst _ _, _, _, _, _, _ => t_bad fun _ => rfl
  | .ix a i, sc, X, e, g, h => by
    have q := sndE (.ix a i) sc X e g h
    simp only [ev] at q
    simp only [evt]
    simp only [chk] at h
    split at h
    · exact t_tru q (tru_plain rfl _)
    · cases h
  | .fld c f o, sc, X, e, g, h => by
    have q := sndE (.fld c f o) sc X e g h
    simp only [ev] at q
    simp only [evt]
    simp only [chk] at h
    split at h
    · exact t_tru q (tru_plain rfl _)
    · cases h
  | .dget d k, sc, X, e, g, h => by
    have q := sndE (.dget d k) sc X e g h
    simp only [ev] at q
    simp only [evt]
    simp only [chk] at h
    split at h
    · exact t_tru q (tru_plain rfl _)
    · cases h
  | .din n k d, sc, X, e, g, h => by
    simp only [chk] at h
    split at h
    · obtain ⟨h, h4⟩ := and2 h
      obtain ⟨h, h3⟩ := and2 h
      obtain ⟨h1, h2⟩ := and2 h
      simp only [evt]
      exact t_din (by have := g.hu; omega) (sndE k sc X _ g h3) (sndE d sc X _ g h4) (dec_eq h1) (not_b h2)
    · cases h
  | .meth _ _ _ _ _, _, _, _, _, _ => t_bad fun _ => rfl
  | .make _ _ _, _, _, _, _, _ => t_bad fun _ => rfl
  | .dnew _, _, _, _, _, _ => t_bad fun _ => rfl
  | .mulL _ _ _, _, _, _, _, _ => t_bad fun _ => rfl
  | .addL _ _ _, _, _, _, _, _ => t_bad fun _ => rfl
  | .tenp _, _, _, _, _, _ => t_bad fun _ => rfl
  | .sl _ _ _ _, _, _, _, _, _ => t_bad fun _ => rfl
  | .lrg _ _, _, _, _, _, _ => t_bad fun _ => rfl
  | .trg _, _, _, _, _, _ => t_bad fun _ => rfl
  | .popAt _ _, _, _, _, _, _ => t_bad fun _ => rfl
  | .tyeq a T, sc, X, e, g, h => by
    simp only [chk] at h
    split at h
    · obtain ⟨h, h8⟩ := and2 h
      obtain ⟨h, h7⟩ := and2 h
      obtain ⟨h, h6⟩ := and2 h
      obtain ⟨h, h5⟩ := and2 h
      obtain ⟨h, h4⟩ := and2 h
      obtain ⟨h, h3⟩ := and2 h
      obtain ⟨h1, h2⟩ := and2 h
      have q1 := dec_eq h1
      have q2 := dec_eq h2
      subst q1 q2
      simp only [evt]
      exact t_cmp o_eqTy k_eqTy (pe_typ (g.gl h5) (g.bt _ (of_decide_eq_true h3)) (sndE a sc X _ g h8) (star_cons h7 _ _)) (pe_tyn (g.gl h6) (g.bt _ (of_decide_eq_true h4))) (okC_in (o := .Eq) rfl _)
    · cases h
  | .lcm _ _, _, _, _, _, _ => t_bad fun _ => rfl
  | .maxd _ _, _, _, _, _, _ => t_bad fun _ => rfl
  | .lc2 _ _ _ _ _ _ _ _, _, _, _, _, _ => t_bad fun _ => rfl
  | .dic0, _, _, _, _, _ => t_bad fun _ => rfl
  | .dic1 _ _, _, _, _, _, _ => t_bad fun _ => rfl
  | .rev _, _, _, _, _, _ => t_bad fun _ => rfl
  | .idxOf _ _, _, _, _, _, _ => t_bad fun _ => rfl
  | .cntOf _ _, _, _, _, _, _ => t_bad fun _ => rfl
  | .lset _, _, _, _, _, _ => t_bad fun _ => rfl
  | .powW _ _, _, _, _, _, _ => t_bad fun _ => rfl
  | .opq, _, _, _, _, _ => t_bad fun _ => rfl
  | .glast _ _, _, _, _, _, _ => t_bad fun _ => rfl
  | .sset _, _, _, _, _, _ => t_bad fun _ => rfl
  | .sc _ _ _ _, _, _, _, _, _ => t_bad fun _ => rfl
  | .lcA _ _ _ _ _ _, _, _, _, _, _ => t_bad fun _ => rfl
  | .lc _ _ _ _ _ _, _, _, _, _, _ => t_bad fun _ => rfl
theorem sndA : ∀ (as : Exs) (sc : Sx) (X : Cx) (es : List Expr), Good G Φ N sc X → chks G N as sc es = true → PA X es (tAs X.K (evs Φ as))
  | .nil, sc, X, es, g, h => by
    cases es with
    | nil => simp only [evs]; exact s_nil
    | cons x xs => simp only [chks] at h; cases h
  | .cons a as, sc, X, es, g, h => by
    cases es with
    | nil => simp only [chks] at h; cases h
    | cons x xs =>
      simp only [chks] at h
      obtain ⟨h, h3⟩ := and2 h
      obtain ⟨h1, h2⟩ := and2 h
      simp only [evs]
      exact s_cons (sndE a sc X x g h2) (sndA as sc X xs g h3) (star_cons h1 _ _)
  | .star a as, sc, X, es, g, h => by simp only [chks] at h; cases h
theorem sndD : ∀ (as : Exs) (sc : Sx) (X : Cx) (es : List Expr), Good G Φ N sc X → chkd G N as sc es = true → PA X es (tAs X.K (evs Φ as))
  | .nil, sc, X, es, g, h => by
    cases es with
    | nil => simp only [evs]; exact s_nil
    | cons x xs => simp only [chkd] at h; cases h
  | .cons a as, sc, X, es, g, h => by
    cases es with
    | nil => simp only [chkd] at h; cases h
    | cons x xs =>
      simp only [chkd] at h
      obtain ⟨h, h3⟩ := and2 h
      obtain ⟨h1, h2⟩ := and2 h
      simp only [evs]
      exact s_cons (sndE a sc X x g h2) (sndD as sc X xs g h3) (star_cons h1 _ _)
  | .star a as, sc, X, es, g, h => by
    simp only [chkd] at h
    split at h
    · obtain ⟨h1, h2⟩ := and2 h
      simp only [evs]
      exact s_star (sndE a sc X _ g h1) (sndD as sc X _ g h2) rfl
    · cases h
theorem sndO : ∀ (a : Exo) (sc : Sx) (X : Cx) (e : Option Expr), Good G Φ N sc X → chko G N a sc e = true → PO X e (tOi X.K (evo Φ a))
  | .no, sc, X, e, g, h => by
    cases e with
    | none => simp only [evo]; exact s_no
    | some x => simp only [chko] at h; cases h
  | .yes a, sc, X, e, g, h => by
    cases e with
    | none => simp only [chko] at h; cases h
    | some x =>
      simp only [chko] at h
      simp only [evo]
      exact s_yes (sndE a sc X x g h)
theorem sndC : ∀ (a : Exo) (sc : Sx) (X : Cx) (es : List Expr), Good G Φ N sc X → chkc G N a sc es = true → PTs X es (tT X.K (evc Φ a))
  | .no, sc, X, es, g, h => by
    cases es with
    | nil =>
      simp only [evc]
      refine ⟨fun pins s σ H Q I q => pts_nil.run pins s σ H Q I ?_⟩
      obtain ⟨W, ρ, rfl, A, sl, k, S', e, q⟩ := q
      obtain ⟨rfl, rfl⟩ := ret_ok e
      exact q W (Nxt.refl A)
    | cons x xs => simp only [chkc] at h; cases h
  | .yes a, sc, X, es, g, h => by
    simp only [chkc] at h
    split at h
    · simp only [evc]
      exact pts_one (sndT a sc X _ g h)
    · cases h
theorem sndI : ∀ (it : It) (sc : Sx) (X : Cx) (t e : Expr), Good G Φ N sc X → okT it t = true → chki G N it sc e = true → PI X t e (tIt X.K (evi Φ it))
  | .seq a, sc, X, t, e, g, _, h => by
    simp only [chki] at h
    simp only [evi]
    exact i_seq (sndE a sc X e g h)
  | .rng a, sc, X, t, e, g, _, h => by
    simp only [chki] at h
    split at h
    · obtain ⟨h, h5⟩ := and2 h
      obtain ⟨h, h4⟩ := and2 h
      obtain ⟨h, h3⟩ := and2 h
      obtain ⟨h1, h2⟩ := and2 h
      have q1 := dec_eq h1
      subst q1
      simp only [evi]
      exact i_rng (g.gl h3) (g.bt _ (of_decide_eq_true h2)) (sndE a sc X _ g h5) (star_cons h4 _ _)
    · cases h
  | .itm a, sc, X, t, e, g, ht, h => by
    simp only [chki] at h
    split at h
    · obtain ⟨h, h4⟩ := and2 h
      obtain ⟨h, h3⟩ := and2 h
      obtain ⟨h1, h2⟩ := and2 h
      have q1 := dec_eq h1
      subst q1
      simp only [evi]
      cases t <;> first | exact i_itm (sndE a sc X _ g h4) (ab_ok h2 _ _) h3 | exact Bool.noConfusion ht
    · cases h
  | .rng3 a b c, sc, X, t, e, g, _, h => by
    simp only [chki] at h
    split at h
    · obtain ⟨h, h9⟩ := and2 h
      obtain ⟨h, h8⟩ := and2 h
      obtain ⟨h, h7⟩ := and2 h
      obtain ⟨h, h6⟩ := and2 h
      obtain ⟨h, h5⟩ := and2 h
      obtain ⟨h, h4⟩ := and2 h
      obtain ⟨h, h3⟩ := and2 h
      obtain ⟨h1, h2⟩ := and2 h
      have q1 := dec_eq h1
      subst q1
      simp only [evi]
      exact i_rng3 (g.gl h3) (g.bt _ (of_decide_eq_true h2)) (sndE a sc X _ g h7) (sndE b sc X _ g h8) (sndE c sc X _ g h9) (star_cons h4 _ _) (star_cons h5 _ _) (star_cons h6 _ _) (plain_args (by simp [h5, h6]))
    · cases h
  | .rng2 a b, sc, X, t, e, g, _, h => by
    simp only [chki] at h
    split at h
    · obtain ⟨h, h7⟩ := and2 h
      obtain ⟨h, h6⟩ := and2 h
      obtain ⟨h, h5⟩ := and2 h
      obtain ⟨h, h4⟩ := and2 h
      obtain ⟨h, h3⟩ := and2 h
      obtain ⟨h1, h2⟩ := and2 h
      have q1 := dec_eq h1
      subst q1
      simp only [evi]
      exact i_rng2 (g.gl h3) (g.bt _ (of_decide_eq_true h2)) (sndE a sc X _ g h6) (sndE b sc X _ g h7) (star_cons h4 _ _) (star_cons h5 _ _)
    · cases h
  | .enm a, sc, X, t, e, g, ht, h => by
    simp only [chki] at h
    split at h
    · obtain ⟨h, h5⟩ := and2 h
      obtain ⟨h, h4⟩ := and2 h
      obtain ⟨h, h3⟩ := and2 h
      obtain ⟨h1, h2⟩ := and2 h
      have q1 := dec_eq h1
      subst q1
      simp only [evi]
      cases t <;> first | exact i_enm (g.gl h3) (g.bt _ (of_decide_eq_true h2)) (sndE a sc X _ g h5) (star_cons h4 _ _) | exact Bool.noConfusion ht
    · cases h
  | .revl a, sc, X, t, e, g, ht, h => by
    simp only [chki] at h
    split at h
    · obtain ⟨h, h5⟩ := and2 h
      obtain ⟨h, h4⟩ := and2 h
      obtain ⟨h, h3⟩ := and2 h
      obtain ⟨h1, h2⟩ := and2 h
      have q1 := dec_eq h1
      subst q1
      simp only [evi]
      exact i_revl (g.gl h3) (g.bt _ (of_decide_eq_true h2)) (sndE a sc X _ g h5) (star_cons h4 _ _)
    · cases h
  | .gseq x is, sc, X, t, e, g, ht, h => by
    simp only [chki] at h
    split at h
    · obtain ⟨h, h4⟩ := and2 h
      obtain ⟨h, h3⟩ := and2 h
      obtain ⟨h1, h2⟩ := and2 h
      have hx := dec_eq h1
      subst hx
      obtain ⟨a, ha, hs⟩ := g.gt _ _ (of_decide_eq_true h2)
      refine (pi_tup (pe_glob (g.gl h3) ha (show RelV (.ref a) _ from rfl) (not_b h4))).weak ?_
      rintro σ H R ⟨W, ρ, rfl, A, sl, xs, S', e, k⟩
      simp only [evi] at e
      obtain ⟨rfl, rfl⟩ := ret_ok e
      exact ⟨a, rfl, ⟨_, hs _⟩, k W _ (Nxt.refl A) (walks_gt hs)⟩
    · cases h
  | .zip a b, sc, X, t, e, g, ht, h => by
    simp only [chki] at h
    split at h
    · obtain ⟨h, h7⟩ := and2 h
      obtain ⟨h, h6⟩ := and2 h
      obtain ⟨h, h5⟩ := and2 h
      obtain ⟨h, h4⟩ := and2 h
      obtain ⟨h, h3⟩ := and2 h
      obtain ⟨h1, h2⟩ := and2 h
      have q1 := dec_eq h1
      subst q1
      simp only [evi]
      cases t <;> first | exact i_zip (g.gl h3) (g.bt _ (of_decide_eq_true h2)) (sndE a sc X _ g h6) (sndE b sc X _ g h7) (star_cons h4 _ _) (star_cons h5 _ _) | exact Bool.noConfusion ht
    · cases h
end
end
end AG
namespace AG
open PySem PySem.Spec PyProof.Rows L2
/-! ### statements -/
def nTup : Expr → Bool
  | .Tuple .. => false
  | _ => true
/-- the pair's stores stand as they are written: some name is no local one -/
def someCell (sc : Sx) (ts : List Expr) : Bool := ts.any fun t => match t with
  | .Name x _ => !(kd sc.sc x == some .local)
  | _ => true
def compTo (sc : Sx) (x : Str) (py : Pos) : Expr → Bool
  | .ListComp _ _ scope pos => (kd sc.sc x == some .local && (py.line == pos.line) && !(scope.names.any fun p => p.1 == x && (p.2 == .local || p.2 == .cell))) || kd sc.sc x == some .cell
  | .SetComp _ _ _ _ => kd sc.sc x == some .cell
  | _ => true
section
variable (G : Tb) (N : List Str)
mutual
def chkS : Sm → Sx → Stmt → Bool
  | .set i a, sc, st => match st with
    | .Assign [.Name x py] v _ => decide (N[i]? = some x) && isLoc sc x && (ncomp v || (match a with | .lc .. => true | .lc2 .. => true | .sc .. => true | _ => false)) && compTo sc x py v && chk G N a sc v
    | _ => false
  | .unp is a, sc, st => match st with
    | .Assign [.Tuple ts k p] v _ => chkTg N sc (.tup is) (.Tuple ts k p) && (nTup v || someCell sc ts) && chk G N a sc v
    | _ => false
  | .par i j a b, sc, st => match st with
    | .Assign [.Tuple [.Name x px, .Name y py] _ _] (.Tuple [u, v] _ _) _ => decide (N[i]? = some x) && decide (N[j]? = some y) && decide (i ≠ j) && (kd sc.sc x == some .local) && (kd sc.sc y == some .local) && (px.line == py.line) && !(x == y) &&
        nst u && nst v && !([u, v].all (foldedForSure 8)) && !([u, v].all (constantsAlone 8)) && chk G N a sc u && chk G N b sc v
    | _ => false
  | .setix o i a, sc, st => match st with
    | .Assign [.Subscript x y _] v _ => nsl y && chk G N o sc x && chk G N i sc y && chk G N a sc v
    | _ => false
  | .setfl c f o a, sc, st => match st with
    | .Assign [.Attribute x at_ _] v _ => decide (at_ = Str.ofString f) && decide ((c, f) ∈ G.fls) && chk G N o sc x && chk G N a sc v
    | _ => false
  | .dput o i a, sc, st => match st with
    | .Assign [.Subscript x y _] v _ => nsl y && chk G N o sc x && chk G N i sc y && chk G N a sc v
    | _ => false
  | .extd o a, sc, st => match st with
    | .Expr (.Call (.Attribute x at_ ap) [y] [] cp) _ => decide (at_ = "extend") && okBase x && (ap.endLine == cp.line) && nst y && chk G N o sc x && chk G N a sc y
    | _ => false
  | .app o a, sc, st => match st with
    | .Expr (.Call (.Attribute x at_ ap) [y] [] cp) _ => decide (at_ = "append") && okBase x && (ap.endLine == cp.line) && nst y && chk G N o sc x && chk G N a sc y
    | _ => false
  | .expr a, sc, st => match st with
    | .Expr v _ => ncomp v && chk G N a sc v
    | _ => false
  | .ret a, sc, st => match st with
    | .Return (some v) _ => chk G N a sc v
    | _ => false
  | .ife c a b, sc, st => match st with
    | .If t x y _ => chk G N c sc t && chkSs a sc x && chkSs b sc y
    | _ => false
  | .for tg it b, sc, st => match st with
    | .For t i body [] _ => nset i && chkTg N sc tg t && (okT it t && chki G N it sc i) && chkSs b sc body
    | _ => false
  | .while c b, sc, st => match st with
    | .While t body [] _ => chk G N c sc t && chkSs b sc body
    | _ => false
  | .forA tg en a b, sc, st => match st with
    | .For t i body [] _ => nset i && chkTg N sc tg t && chkSs b sc body && (if en then (match t, i with
      | .Tuple .., .Call (.Name y _) [z] [] _ => decide (y = "enumerate") && decide (y ∈ G.bts) && isGl sc y && nst z && chk G N a sc z
      | _, _ => false) else chk G N a sc i)
    | _ => false
  | .opq, _, _ => true
  | .pass, _, st => match st with
    | .Pass _ => true
    | _ => false
  | .brk, _, st => match st with
    | .Break _ => true
    | _ => false
  | .cont, _, st => match st with
    | .Continue _ => true
    | _ => false
  | .settle _ s, sc, st => chkS s sc st
  | .frz _ s, sc, st => chkS s sc st
  | .rai _ _, _, _ => false
  | .xset _ _, _, _ => false
  | .xunp _ _, _, _ => false
  | .xret _, _, _ => false
  | .xexp _, _, _ => false
  | .xtry _ _ _ _ _, _, _ => false
  | .xb _, _, _ => false
def chkSs : Sms → Sx → List Stmt → Bool
  | .nil, _, ss => match ss with
    | [] => true
    | _ => false
  | .cons a r, sc, ss => match ss with
    | x :: xs => chkS a sc x && chkSs r sc xs
    | _ => false
end
end
theorem ss_plain {ts : List Expr} {k : Nat} {p : Pos} {v : Expr} (h : nTup v = true) (env : PySem.Env) : swappedStores [.Tuple ts k p] v env = pure none := by
  cases v <;> first | rfl | cases h
theorem fm_short {α β : Type} (f : α → Option β) : ∀ l : List α, (∃ a ∈ l, f a = none) → (l.filterMap f).length ≠ l.length
  | [], ⟨_, h, _⟩ => nomatch h
  | x :: xs, ⟨a, h, ha⟩ => by
    have hle : ∀ l : List α, (l.filterMap f).length ≤ l.length := fun l => List.length_filterMap_le f l
    rw [List.filterMap_cons]
    cases hx : f x with
    | none =>
      simp only [List.length_cons]
      have := hle xs
      omega
    | some b =>
      simp only [List.length_cons]
      rcases List.mem_cons.mp h with e | h
      · subst e
        rw [ha] at hx
        cases hx
      · have := fm_short f xs ⟨a, h, ha⟩
        omega
theorem ss_cell {sc : Sx} {env : PySem.Env} (hs : env.scope = sc.sc) {ts vs : List Expr} {k k2 : Nat} {p p2 : Pos} (h : someCell sc ts = true) : swappedStores [.Tuple ts k p] (.Tuple vs k2 p2) env = pure none := by
  unfold swappedStores
  simp only []
  split
  · rfl
  · split
    · rfl
    · split
      · rfl
      · rename_i hh
        exfalso
        apply hh
        rw [Bool.or_eq_true]
        refine .inl (bne_iff_ne.mpr (fm_short _ ts ?_))
        unfold someCell at h
        obtain ⟨a, ha, q⟩ := List.any_eq_true.mp h
        refine ⟨a, ha, ?_⟩
        cases a with
        | Name x px =>
          have q' : (kd sc.sc x == some .local) = false := not_b q
          have e : (env.kindOf x == some .local) = false := by
            show (env.scope.names.lookup x == some .local) = false
            rw [hs]
            exact q'
          show (if (env.kindOf x == some .local && _) = true then some x else none) = none
          rw [e]
          rfl
        | _ => rfl
theorem ss_par {env : PySem.Env} {x y : Str} {px py pt pt2 : Pos} {kt k2 : Nat} {u v : Expr} (kx : env.kindOf x = some .local) (ky : env.kindOf y = some .local) (bk : env.blockKind = .function) (hl : px.line = py.line) (hxy : x ≠ y) (nu : nst u = true) (nv : nst v = true)
    (hf : [u, v].all (foldedForSure 8) = false) (hc : [u, v].all (constantsAlone 8) = false) : swappedStores [.Tuple [.Name x px, .Name y py] kt pt] (.Tuple [u, v] k2 pt2) env = pure (some [x, y]) := by
  unfold swappedStores
  simp only []
  rw [hf, hc]
  have ed : [x, y].eraseDups = [x, y] := by
    rw [List.eraseDups_cons, List.filter_cons]
    have : (!(y == x)) = true := by
      cases q : (y == x) with
      | false => rfl
      | true => exact absurd (eq_of_beq q).symm hxy
    rw [if_pos this, List.filter_nil, List.eraseDups_cons, List.filter_nil, List.eraseDups_nil]
  split
  · rename_i h
    exfalso
    rw [bk] at h
    simp at h
  · split
    · rename_i h
      exfalso
      obtain ⟨a, ha, q⟩ := List.any_eq_true.mp h
      simp only [List.mem_cons, List.not_mem_nil, or_false] at ha
      have hn : nst a = true := by rcases ha with e | e <;> rw [e] <;> assumption
      cases a <;> first | exact Bool.noConfusion (show false = true from q) | exact Bool.noConfusion (show false = true from hn)
    · split
      · rename_i h
        exfalso
        simp [kx, ky, hl, Expr.pos, ed] at h
      · simp [kx, ky, hl, Expr.pos]
section
variable {G : Tb} {Φ : String → List D → M D} {N : List Str} {fu : Nat}
theorem comp_eta {c : Comprehension} (h1 : c.is_async = 0) (h2 : c.ifs = []) : c = ⟨c.target, c.iter, [], 0⟩ := by
  cases c
  simp only at h1 h2
  subst h1 h2
  rfl
theorem s_settle {X : Cx} {st : Stmt} {m : Env → M Fl} {i : Nat} (h : PS X st (tS X.K m)) : PS X st (tS X.K fun ρ => bnd (setlD ρ i) m) := by
  refine h.weak ?_
  rintro D' σ H ⟨W, ρ, rfl, A, sl, f, S', e, k⟩
  obtain ⟨ρ2, S1, e1, e2⟩ := bnd_ok e
  unfold setlD at e1
  split at e1
  · rename_i c hi
    split at e1
    · rename_i xs hk
      cases e1
      obtain ⟨v, h1, r1⟩ := sl.2 i _ hi
      simp only [Rep] at r1
      obtain ⟨a, rfl, ha⟩ := r1
      obtain ⟨b, kd, ds0, vs, o0, h2, h3, h5, h4⟩ := A.cell c xs hk
      rw [ha] at h2
      cases h2
      obtain ⟨rfl, rfl⟩ := h5
      obtain ⟨A1, E1, r2⟩ := settle_cell A hk ha h3 h4
      refine ⟨{ W with S := W.S.set c none }, _, rfl, A1, ?_, f, S', e2, fun W' N => k W' ⟨N.st, N.lk, N.ab, E1.trans N.ext⟩⟩
      have q := (sl.ext A E1).set i r2
      rw [show σ.set i (some (V.ref a)) = σ from ?_] at q
      · exact q
      · apply List.ext_getElem?
        intro j
        by_cases hj : j = i
        · subst hj
          rw [List.getElem?_set_self (List.getElem?_eq_some_iff.mp h1).1, h1]
        · rw [List.getElem?_set_ne (Ne.symm hj)]
    · cases e1
  · cases e1
mutual
theorem sndS : ∀ (s : Sm) (sc : Sx) (X : Cx) (st : Stmt), Good G Φ N sc X → chkS G N s sc st = true → PS X st (tS X.K (ex Φ fu s))
  | .set i a, sc, X, st, g, h => by
    simp only [chkS] at h
    split at h
    · rename_i x py v pos
      obtain ⟨h, h5⟩ := and2 h
      obtain ⟨h, h4⟩ := and2 h
      obtain ⟨h, h3⟩ := and2 h
      obtain ⟨h1, h2⟩ := and2 h
      have hN : X.N.Nodup := by rw [g.hN]; exact g.nd
      have hi : X.N[i]? = some x := by rw [g.hN]; exact of_decide_eq_true h1
      have hl := isLoc_ok h2
      have hl' : Loc X.env.scope x := by rw [g.hs]; exact hl.imp id fun z => z.1
      have hf : X.fn x = true ∨ X.env.scope.names.lookup x = some .local := by
        rcases hl with q | q
        · exact .inr (by rw [g.hs]; exact q)
        · exact .inl (g.fn x q.2)
      have plain : swapsWith v (some (.Name x py)) pos.line X.env = pure false → PS X (.Assign [.Name x py] v pos) (tS X.K (ex Φ fu (.set i a))) := fun hsw => by
        simp only [ex]
        exact (ps_set hN hi hl' (sndE a sc X v g h5) hsw hf).weak set_ok
      by_cases hn : ncomp v = true
      · exact plain (sw_none hn _ _ _)
      · cases v with
        | ListComp elt gs scope cp =>
          simp only [compTo] at h4
          rcases Bool.or_eq_true_iff.mp h4 with h4 | h4
          · obtain ⟨h4, h8⟩ := and2 h4
            obtain ⟨h6, h7⟩ := and2 h4
            have hloc := kd_some h6
            have hloc' : X.env.scope.names.lookup x = some .local := by rw [g.hs]; exact hloc
            cases a with
            | lc m elt' tg own it cd =>
              simp only [chk] at h5
              split at h5
              · rename_i x' t i' ifs a' scope' pos' heq
                cases heq
                obtain ⟨h5, k8⟩ := and2 h5
                obtain ⟨h5, k7⟩ := and2 h5
                obtain ⟨h5, k6⟩ := and2 h5
                obtain ⟨h5, k5⟩ := and2 h5
                obtain ⟨h5, k4⟩ := and2 h5
                obtain ⟨h5, k3⟩ := and2 h5
                obtain ⟨kT, k3⟩ := and2 k3
                obtain ⟨k1, k2⟩ := and2 h5
                have q1 := dec_eq k1
                subst q1
                have hb : BlkOk X.N X.env.scope scope (ownOf N own) := by rw [g.hN, g.hs]; exact blkOk_by k4
                have hmap : (ownOf N own).map (·.2) = own := own_map N own
                have hsw : swapsWith (.ListComp elt [⟨t, i', ifs, 0⟩] scope cp) (some (.Name x py)) pos.line X.env = pure true :=
                  sw_true (by rw [g.hs]; exact g.kd) hloc' h7 (not_b h8)
                have key := ps_setLc (own := ownOf N own) (spos := pos) g.calm hN hi hloc' hsw (sndI it sc X t i' g kT k3) hb
                  (g := gTg X.K tg) (tt := tT X.K (evc Φ cd)) (te := tI X.K (ev Φ elt'))
                  (fun s H C cl fp => (g.blk hb.kind s H C cl fp).tg k5)
                  (fun s H C cl fp => sndC cd _ _ ifs (g.blk hb.kind s H C cl fp) k8)
                  (fun s H C cl fp => sndE elt' _ _ elt (g.blk hb.kind s H C cl fp) k7)
                  (fs_plain k2 _)
                rw [hmap] at key
                simp only [ex, ev]
                refine key.weak fun D' σ H q => ?_
                refine (show ∀ σ H Q, _ → tLc _ _ _ _ own σ H Q from lc_ok (m := m) (gTg_ok tg) fun j hj => List.contains_iff_mem.mp (List.all_eq_true.mp k6 j hj)) σ H _ ?_
                exact set_ok D' σ H q
              · cases h5
            | lc2 m elt' tg tg1 own own1 it it1 =>
              simp only [chk] at h5
              split at h5
              · rename_i c c1 ha hb0
                obtain ⟨h5, k14⟩ := and2 h5
                obtain ⟨z1, z2⟩ := and2 k14
                have z1 := List.isEmpty_iff.mp z1
                have z2 := List.isEmpty_iff.mp z2
                obtain ⟨h5, kT⟩ := and2 h5
                obtain ⟨kT1, kT2⟩ := and2 kT
                obtain ⟨h5, k13⟩ := and2 h5
                obtain ⟨h5, k12⟩ := and2 h5
                obtain ⟨h5, k11⟩ := and2 h5
                obtain ⟨h5, k10⟩ := and2 h5
                obtain ⟨h5, k9⟩ := and2 h5
                obtain ⟨h5, k8⟩ := and2 h5
                obtain ⟨h5, k7⟩ := and2 h5
                obtain ⟨h5, k6⟩ := and2 h5
                obtain ⟨h5, k5⟩ := and2 h5
                obtain ⟨h5, k4⟩ := and2 h5
                obtain ⟨h5, k3⟩ := and2 h5
                obtain ⟨k1, k2⟩ := and2 h5
                have q1 := dec_eq k1
                have q2 := dec_eq k2
                have e : [c, c1] = ([⟨c.target, c.iter, [], 0⟩, ⟨c1.target, c1.iter, [], 0⟩] : List Comprehension) := by rw [← comp_eta q1 z1, ← comp_eta q2 z2]
                rw [e]
                have hb : BlkOk X.N X.env.scope scope (ownOf N own) := by rw [g.hN, g.hs]; exact blkOk_by k6
                have hmap : (ownOf N own).map (·.2) = own := own_map N own
                have hsw : swapsWith (.ListComp elt [⟨c.target, c.iter, [], 0⟩, ⟨c1.target, c1.iter, [], 0⟩] scope cp) (some (.Name x py)) pos.line X.env = pure true :=
                  sw_true (by rw [g.hs]; exact g.kd) hloc' h7 (not_b h8)
                have key := ps_setLc2 (own := ownOf N own) (vs1 := own1) (spos := pos) g.calm hN hi hloc' hsw (sndI it sc X c.target c.iter g kT1 k5) hb
                  (fun j hj => by rw [hmap]; exact List.contains_iff_mem.mp (List.all_eq_true.mp k11 j hj))
                  (g := gTg X.K tg) (tt := tT X.K fun _ => ret true) (g1 := gTg X.K tg1) (tt1 := tT X.K fun _ => ret true) (te := tI X.K (ev Φ elt')) (wi1 := tIt X.K (evi Φ it1))
                  (fun s H C cl fp => (g.blk hb.kind s H C cl fp).tg k7)
                  (fun s H C cl fp => sndC .no _ _ [] (g.blk hb.kind s H C cl fp) rfl)
                  (fun s H C cl fp => sndI it1 _ _ c1.target c1.iter (g.blk hb.kind s H C cl fp) kT2 k12)
                  (fun s H C cl fp => (g.blk hb.kind s H C cl fp).tg k9)
                  (fun s H C cl fp => sndC .no _ _ [] (g.blk hb.kind s H C cl fp) rfl)
                  (fun s H C cl fp => sndE elt' _ _ elt (g.blk hb.kind s H C cl fp) k13)
                  (fs_plain k3 _) (fun env => fs_plain k4 env)
                rw [hmap] at key
                simp only [ex, ev]
                refine key.weak fun D' σ H q => ?_
                refine (show ∀ σ H Q, _ → tLc2 _ _ _ _ _ _ _ own own1 σ H Q from lc2_ok (m := m) (gTg_ok tg) (gTg_ok tg1) (fun j hj => List.contains_iff_mem.mp (List.all_eq_true.mp k8 j hj)) fun j hj => List.contains_iff_mem.mp (List.all_eq_true.mp k10 j hj)) σ H _ ?_
                exact set_ok D' σ H q
              · cases h5
            | sc _ _ _ _ => simp only [chk] at h5; cases h5
            | _ => simp only [Bool.or_eq_true] at h3; rcases h3 with h3 | h3 <;> first | exact absurd h3 hn | cases h3
          · refine plain ?_
            have hc := kd_some h4
            have hk : X.env.kindOf x = some .cell := by show X.env.scope.names.lookup x = _; rw [g.hs]; exact hc
            unfold swapsWith
            simp only [hk]
            show (pure (X.env.blockKind == .function && (some NameKind.cell == some .local) && _ && _) : Sem Bool) = pure false
            have e : ((some NameKind.cell : Option NameKind) == some .local) = false := rfl
            rw [e, Bool.and_false, Bool.false_and, Bool.false_and]
        | SetComp elt gs scope cp =>
          simp only [compTo] at h4
          refine plain ?_
          have hc := kd_some h4
          have hk : X.env.kindOf x = some .cell := by show X.env.scope.names.lookup x = _; rw [g.hs]; exact hc
          unfold swapsWith
          simp only [hk]
          show (pure (X.env.blockKind == .function && (some NameKind.cell == some .local) && _ && _) : Sem Bool) = pure false
          have e : ((some NameKind.cell : Option NameKind) == some .local) = false := rfl
          rw [e, Bool.and_false, Bool.false_and, Bool.false_and]
        | DictComp _ _ _ _ _ =>
          exfalso
          cases a <;> simp only [chk] at h5 <;> cases h5
        | _ => exact absurd rfl hn
    · cases h
  | .unp is a, sc, X, st, g, h => by
    simp only [chkS] at h
    split at h
    · rename_i ts k p v pos
      obtain ⟨h, h3⟩ := and2 h
      obtain ⟨h1, h2⟩ := and2 h
      simp only [ex]
      have hw : swappedStores [.Tuple ts k p] v X.env = pure none := by
        rcases Bool.or_eq_true_iff.mp h2 with h2 | h2
        · exact ss_plain h2 _
        · cases v with
          | Tuple vs k2 p2 => exact ss_cell g.hs h2
          | _ => rfl
      exact (ps_asg (sndE a sc X v g h3) (g.tg h1) (show swapsWithSole [.Tuple ts k p] v pos.line X.env = pure false from sw_tup (ts := ts) (k := k) (p := p) pos.line X.env) hw rfl).weak (asg_ok (gTg_ok (.tup is)))
    · cases h
  | .par i j a b, sc, X, st, g, h => by
    simp only [chkS] at h
    split at h
    · rename_i x px y py kt pt u v k2 pt2 pos
      obtain ⟨h, h13⟩ := and2 h
      obtain ⟨h, h12⟩ := and2 h
      obtain ⟨h, h11⟩ := and2 h
      obtain ⟨h, h10⟩ := and2 h
      obtain ⟨h, h9⟩ := and2 h
      obtain ⟨h, h8⟩ := and2 h
      obtain ⟨h, h7⟩ := and2 h
      obtain ⟨h, h6⟩ := and2 h
      obtain ⟨h, h5⟩ := and2 h
      obtain ⟨h, h4⟩ := and2 h
      obtain ⟨h, h3⟩ := and2 h
      obtain ⟨h1, h2⟩ := and2 h
      have hx : X.env.scope.names.lookup x = some .local := by rw [g.hs]; exact kd_some h4
      have hy : X.env.scope.names.lookup y = some .local := by rw [g.hs]; exact kd_some h5
      have kx : X.env.kindOf x = some .local := hx
      have ky : X.env.kindOf y = some .local := hy
      have bk : X.env.blockKind = .function := by
        unfold PySem.Env.blockKind
        rw [g.hs, g.kd]
        rfl
      have hw : swappedStores [.Tuple [.Name x px, .Name y py] kt pt] (.Tuple [u, v] k2 pt2) X.env = pure (some [x, y]) :=
        ss_par kx ky bk (eq_of_beq h6) (fun z => by subst z; rw [beq_self_eq_true] at h7; cases h7) h8 h9 (not_b h10) (not_b h11)
      have hN : X.N.Nodup := by rw [g.hN]; exact g.nd
      simp only [ex]
      refine (ps_par g.calm hN (by rw [g.hN]; exact of_decide_eq_true h1) (by rw [g.hN]; exact of_decide_eq_true h2) (of_decide_eq_true h3) hx hy (s_cons (sndE a sc X u g h12) (s_cons (sndE b sc X v g h13) s_nil (star_cons h9 _ _)) (star_cons h8 _ _)) hw rfl).weak par_ok
    · cases h
  | .setix o i a, sc, X, st, g, h => by
    simp only [chkS] at h
    split at h
    · rename_i x y p v pos
      obtain ⟨h, h4⟩ := and2 h
      obtain ⟨h, h3⟩ := and2 h
      obtain ⟨h1, h2⟩ := and2 h
      simp only [ex]
      have hpg := pg_sub (pos := p) (sndE o sc X x g h2) (sndE i sc X y g h3) (set_list (X := X)) (by intro _; cases y <;> first | rfl | cases h1)
      exact (ps_asg (sndE a sc X v g h4) hpg (show swapsWithSole [.Subscript x y p] v pos.line X.env = pure false from sw_sub (o := x) (i := y) (p := p) pos.line X.env) (by cases v <;> rfl) rfl).weak setix_ok
    · cases h
  | .app o a, sc, X, st, g, h => by
    simp only [chkS] at h
    split at h
    · rename_i x at_ ap y cp pos
      obtain ⟨h, h6⟩ := and2 h
      obtain ⟨h, h5⟩ := and2 h
      obtain ⟨h, h4⟩ := and2 h
      obtain ⟨h, h3⟩ := and2 h
      obtain ⟨h1, h2⟩ := and2 h
      have q1 := dec_eq h1
      subst q1
      have hs := star_cons (env := X.env) h4 []
      simp only [ex]
      exact (ps_expr (pe_bm PySem.F.plainAttrs_list PySem.F.slot_list_append PySem.F.type_list_append mt_append (sndE o sc X x g h5) (s_cons (sndE a sc X y g h6) s_nil hs) (ab_ok h2 _ _) (by rw [hs]; rfl) h3 hs rfl) rfl).weak app_ok'
    · cases h
  | .extd o a, sc, X, st, g, h => by
    simp only [chkS] at h
    split at h
    · rename_i x at_ ap y cp pos
      obtain ⟨h, h6⟩ := and2 h
      obtain ⟨h, h5⟩ := and2 h
      obtain ⟨h, h4⟩ := and2 h
      obtain ⟨h, h3⟩ := and2 h
      obtain ⟨h1, h2⟩ := and2 h
      have q1 := dec_eq h1
      subst q1
      have hs := star_cons (env := X.env) h4 []
      simp only [ex]
      exact (ps_expr (pe_bm PySem.F.plainAttrs_list PySem.F.slot_list_extend PySem.F.type_list_extend mt_extend (sndE o sc X x g h5) (s_cons (sndE a sc X y g h6) s_nil hs) (ab_ok h2 _ _) (by rw [hs]; rfl) h3 hs rfl) rfl).weak extd_ok'
    · cases h
  | .expr a, sc, X, st, g, h => by
    simp only [chkS] at h
    split at h
    · obtain ⟨h1, h2⟩ := and2 h
      simp only [ex]
      exact (ps_expr (sndE a sc X _ g h2) (sw_none h1 _ _ _)).weak drop_ok
    · cases h
  | .ret a, sc, X, st, g, h => by
    simp only [chkS] at h
    split at h
    · simp only [ex]
      exact (ps_ret (sndE a sc X _ g h)).weak ret_ok'
    · cases h
  | .setfl c f o a, sc, X, st, g, h => by
    simp only [chkS] at h
    split at h
    · rename_i x at_ p1 v pos
      obtain ⟨h, h4⟩ := and2 h
      obtain ⟨h, h3⟩ := and2 h
      obtain ⟨h1, h2⟩ := and2 h
      have hx := dec_eq h1
      subst hx
      obtain ⟨C, T, hn⟩ := g.fl _ _ (of_decide_eq_true h2)
      simp only [ex]
      exact s_setfl T hn (sndE o sc X _ g h3) (sndE a sc X _ g h4) (by cases v <;> rfl)
    · cases h
  | .dput o i a, sc, X, st, g, h => by
    simp only [chkS] at h
    split at h
    · rename_i x y p1 v pos
      obtain ⟨h, h4⟩ := and2 h
      obtain ⟨h, h3⟩ := and2 h
      obtain ⟨h1, h2⟩ := and2 h
      simp only [ex]
      exact s_dput (by have := g.hu; omega) (sndE o sc X _ g h2) (sndE i sc X _ g h3) (sndE a sc X _ g h4) (sw_sub _ _)
    · cases h
  | .ife c a b, sc, X, st, g, h => by
    simp only [chkS] at h
    split at h
    · obtain ⟨h, h3⟩ := and2 h
      obtain ⟨h1, h2⟩ := and2 h
      simp only [ex]
      exact (ps_if (sndT c sc X _ g h1) (sndSs a sc X _ g h2) (sndSs b sc X _ g h3)).weak ife_ok
    · cases h
  | .for tg it b, sc, X, st, g, h => by
    simp only [chkS] at h
    split at h
    · obtain ⟨h, h4⟩ := and2 h
      obtain ⟨h, h3⟩ := and2 h
      obtain ⟨hT, h3⟩ := and2 h3
      obtain ⟨h1, h2⟩ := and2 h
      simp only [ex]
      exact (ps_for (by rw [g.xe]; exact PassesOwn.never) g.calm (sndI it sc X _ _ g hT h3) (g.tg h2) (sndSs b sc X _ g h4) (fs_plain h1 _)).weak (for_ok (gTg_ok tg))
    · cases h
  | .while c b, sc, X, st, g, h => by
    simp only [chkS] at h
    split at h
    · obtain ⟨h1, h2⟩ := and2 h
      simp only [ex]
      exact (ps_while (by rw [g.xe]; exact PassesOwn.never) (sndT c sc X _ g h1) (sndSs b sc X _ g h2)).weak while_ok
    · cases h
  | .forA tg en a b, sc, X, st, g, h => by
    simp only [chkS] at h
    split at h
    · obtain ⟨h, h4⟩ := and2 h
      obtain ⟨h, h3⟩ := and2 h
      obtain ⟨h1, h2⟩ := and2 h
      simp only [ex]
      cases en with
      | false =>
        rw [if_neg (by decide)] at h4
        have hi := sndE a sc X _ g h4
        exact (ps_for (by rw [g.xe]; exact PassesOwn.never) g.calm (PI_or (pi_tup hi) (pi_list hi)) (g.tg h2) (sndSs b sc X _ g h3) (fs_plain h1 _)).weak (forA_ok (gTg_ok tg))
      | true =>
        rw [if_pos rfl] at h4
        split at h4
        · obtain ⟨h4, k5⟩ := and2 h4
          obtain ⟨h4, k4⟩ := and2 h4
          obtain ⟨h4, k3⟩ := and2 h4
          obtain ⟨k1, k2⟩ := and2 h4
          have q1 := dec_eq k1
          subst q1
          have hi := sndE a sc X _ g k5
          have hs := star_cons k4 [] X.env
          exact (ps_for (by rw [g.xe]; exact PassesOwn.never) g.calm (PI_or (pi_enumT (g.gl k3) (g.bt _ (of_decide_eq_true k2)) (s_cons hi s_nil hs) hs) (pi_enum (g.gl k3) (g.bt _ (of_decide_eq_true k2)) (s_cons hi s_nil hs) hs)) (g.tg h2) (sndSs b sc X _ g h3) (fs_plain h1 _)).weak (forAE_ok (gTg_ok tg))
        · cases h4
    · cases h
  | .opq, sc, X, st, g, h => by
    simp only [ex]
    exact ⟨fun pins s σ H D' I ⟨W, ρ, _, _, _, f, S', e, _⟩ => by cases e⟩
  | .pass, sc, X, st, g, h => by
    simp only [chkS] at h
    split at h
    · simp only [ex]
      exact ps_pass.weak next_ok
    · cases h
  | .brk, sc, X, st, g, h => by
    simp only [chkS] at h
    split at h
    · simp only [ex]
      exact ps_break.weak brk_ok
    · cases h
  | .settle i a, sc, X, st, g, h => by
    simp only [chkS] at h
    simp only [ex]
    exact s_settle (sndS a sc X st g h)
  | .frz i a, sc, X, st, g, h => by
    simp only [chkS] at h
    simp only [ex]
    exact s_frz (sndS a sc X st g h)
  | .cont, sc, X, st, g, h => by
    simp only [chkS] at h
    split at h
    · simp only [ex]
      exact ps_continue.weak cont_ok
    · cases h
  | .rai _ _, sc, X, st, g, h => by simp only [chkS] at h; cases h
  | .xset _ _, sc, X, st, g, h => by simp only [chkS] at h; cases h
  | .xunp _ _, sc, X, st, g, h => by simp only [chkS] at h; cases h
  | .xret _, sc, X, st, g, h => by simp only [chkS] at h; cases h
  | .xexp _, sc, X, st, g, h => by simp only [chkS] at h; cases h
  | .xtry _ _ _ _ _, sc, X, st, g, h => by simp only [chkS] at h; cases h
  | .xb _, sc, X, st, g, h => by simp only [chkS] at h; cases h
theorem sndSs : ∀ (ss : Sms) (sc : Sx) (X : Cx) (sts : List Stmt), Good G Φ N sc X → chkSs G N ss sc sts = true → PSs X sts (tS X.K (exs Φ fu ss))
  | .nil, sc, X, sts, g, h => by
    cases sts with
    | nil => simp only [exs]; exact pss_nil.weak next_ok
    | cons x xs => simp only [chkSs] at h; cases h
  | .cons s r, sc, X, sts, g, h => by
    cases sts with
    | nil => simp only [chkSs] at h; cases h
    | cons x xs =>
      simp only [chkSs] at h
      obtain ⟨h1, h2⟩ := and2 h
      simp only [exs]
      exact (pss_cons (sndS s sc X x g h1) (sndSs r sc X xs g h2)).weak seq_ok
end
end
end AG
namespace AG
open PySem PySem.Spec PyProof.Rows L2
/-! ### exceptions -/
theorem nox_S {X : Cx} {st : Stmt} {t : TS} (h : PS X.nox st t) : PS X st t :=
  ⟨fun pins s σ H D I hw => wpAny_mono (h.run pins s σ H D (Inv.wish I _) hw) (fun _ _ q => SP.unwish q) fun _ _ z => False.elim z⟩
theorem nox_A {X : Cx} {es : List Expr} {t : TA} (h : PA X.nox es t) : PA X es t :=
  ⟨fun pos pins s σ H Q I hw => wpAny_mono (h.run pos pins s σ H Q (Inv.wish I _) hw) (fun _ _ ⟨v, H', I', q⟩ => ⟨v, H', Inv.unwish I', q⟩) fun _ _ z => False.elim z⟩
theorem nox_G {X : Cx} {e : Expr} {t : TG} (h : PG X.nox e t) : PG X e t :=
  ⟨fun pins s σ H v u Q I r hw => wpAny_mono (h.run pins s σ H v u Q (Inv.wish I _) r hw) (fun _ _ ⟨v, H', I', q⟩ => ⟨v, H', Inv.unwish I', q⟩) fun _ _ z => False.elim z⟩
/-- a def's word, with a way out by an exception -/
def spX (K : PySem.W.Frag) (mg : Str → Option Value) (n : Nat) (F : List D → M D) : Sp := fun vs H Q E => vs.length = n ∧ ∃ (W : Wd) (ds : List D), W.H = H ∧ Abs K W ∧ Reps K W ds vs ∧
  ((∃ d S', F ds W.S = .ok d S' ∧ ∀ W' v, Nxt K W S' W' → Rep K W' d v → Q v W'.H) ∨ (∃ c S', F ds W.S = .exc c S' ∧ ∀ W' C, Nxt K W S' W' → mg (Str.ofString c) = some (.ref C) → E (.ref C) none W'.H))
theorem spX_of {K : PySem.W.Frag} {mg : Str → Option Value} {n : Nat} {F : List D → M D} {vs : List V} {H : Hp} {Q : VK} {E : XK} (h : spF K n F vs H Q E) : spX K mg n F vs H Q E := by
  obtain ⟨h1, W, ds, h2, A, r, d, S', e, k⟩ := h
  exact ⟨h1, W, ds, h2, A, r, .inl ⟨d, S', e, k⟩⟩
theorem FnW.weak {P : Program} {w : World} {K : PySem.W.Frag} {mg : Str → Option Value} {base : Heap} {k : Nat} {f : Addr} {sp sp' : Sp} (F : FnW P w K mg base k f sp) (h : ∀ vs H Q E, sp' vs H Q E → sp vs H Q E) : FnW P w K mg base k f sp' :=
  ⟨fun A outer s H us vs Q E g r e kin rv hq => F.go A outer s H us vs Q E g r e kin rv (h _ _ _ _ hq)⟩
section
variable {X : Cx} {k : Nat} {f : Addr} {sp : Sp} {x : Str} {p pos : Pos} {e : Expr} {es : List Expr} {t : TA} {W : WX}
theorem g_runX {pins : List (Addr × Obj)} {σ : L2.St} {H : Hp} {s : Shared} {Q : VK} {us : List Value} {vs : List V} (F : FnW X.prog X.w X.K X.mg X.base k f sp)
    (hg : X.A.guards = some []) (hr : Room k X.A) (tk : Takes X W) (I : Inv X pins σ H s) (r : Vals vs us) (h : sp vs H Q (WE W σ)) :
    wpAny (model X.prog X.w) X.A (call (.ref f) us) (EP X pins σ Q) X.xe s := by
  refine wpAny_call (codeAny_mono (F.go X.A X.stack s H us vs Q (WE W σ) hg hr I.env0 I.kIn r h) ?_)
  intro res s' hq
  match res, hq with
  | .error _, hq => exact passAt tk σ pins H s _ s' I hq
  | .ok (.ret u), hq => exact I.after hq
  | .ok .next, hq => exact hq.elim
  | .ok .brk, hq => exact hq.elim
  | .ok .cont, hq => exact hq.elim
def tCallX (W : WX) (sp : Sp) (t : TA) : TE := fun σ H Q => t σ H fun vs H1 => sp vs H1 Q (WE W σ)
theorem g_callX (F : FnW X.prog X.w X.K X.mg X.base k f sp) (hgd : X.A.guards = some []) (hr : Room k X.A) (tk : Takes X W) (hg : Gl X x) (hm : X.mg x = some (.ref f))
    (hk : PySem.W.keepIn X.K (.ref f) = true) (ha : PA X (e :: es) t) (hdb : (x == ("__debug__" : Str)) = false)
    (he : starEach (e :: es) X.env = (false, eval e X.env) :: starEach es X.env) (hpl : (backTo pos (starEach es X.env)).any (·.1) = false) :
    PE X (.Call (.Name x p) (e :: es) [] pos) (tCallX W sp t) := by
  constructor
  intro pins s σ H Q I h
  apply wpAny_Call_Name_kw
  refine ld_glob I hg hm ?_ hdb
  refine PySem.W.callWith_K (h₀ := X.base) I.ok.mod.kin hk ?_ he hpl
  refine thn (ha.run pos pins s σ H _ I h) ?_
  rintro us s1 ⟨vs, H1, I1, r, q⟩
  exact ⟨I1.kIn, g_runX F hgd hr tk I1 r q⟩
end
/-! #### what they ask -/
/-- an exception's class of the module -/
structure XcOk (K : PySem.W.Frag) (mg : Str → Option Value) (c : String) (C : Addr) : Prop where
  g : mg (Str.ofString c) = some (.ref C)
  q : PySem.W.excIn K C [.type "ValueError", .type "Exception", .type "BaseException", .type "object"] "ValueError.__new__" = true
  k : PySem.W.keepIn K (.ref C) = true
  b : PySem.W.subIn K (.ref C) (.type "BaseException") = some true
  t : PySem.W.typeIn K (.ref C) = some (.type "type")
/-- it is caught by that class, or not -/
def XmOk (K : PySem.W.Frag) (mg : Str → Option Value) (c t : String) : Prop :=
  ∀ C, mg (Str.ofString c) = some (.ref C) → ∃ T, mg (Str.ofString t) = some (.ref T) ∧ PySem.W.exmOne K (.ref C) (.ref T) = some (subX c t)
/-- isinstance of it -/
def XiOk (K : PySem.W.Frag) (mg : Str → Option Value) (c t : String) : Prop :=
  ∀ C, mg (Str.ofString c) = some (.ref C) → ExcC K C ∧ ((∃ T, mg (Str.ofString t) = some (.ref T) ∧ PySem.W.kitOne K (.ref C) (.ref T) = some (subX c t)) ∨
    (mg (Str.ofString t) = none ∧ bootBuiltins (Str.ofString t) = some (.type t) ∧ PySem.W.kitOne K (.ref C) (.type t) = some (subX c t)))
structure ExcTb (K : PySem.W.Frag) (mg : Str → Option Value) (G : Tb) : Prop where
  xc : ∀ c ∈ G.xcs, ∃ C, XcOk K mg c C
  xm : ∀ c ∈ G.xcs, ∀ t ∈ G.xts, XmOk K mg c t
  xi : ∀ c ∈ G.xcs, ∀ t ∈ G.xis, XiOk K mg c t
  xt : ∀ t ∈ G.xts, ∃ T, mg (Str.ofString t) = some (.ref T)
  nc : ∀ c ∈ G.xcs, (Str.ofString c == ("__debug__" : Str)) = false
structure GoodX (G : Tb) (Φ : String → List D → M D) (N : List Str) (sc : Sx) (X : Cx) (W : WX) : Prop where
  g : Good G Φ N sc X.nox
  tk : Takes X W
  st : X.stack = X.env :: X.outer
  fr : X.env.frame = some X.env.locals
  tb : ExcTb X.K X.mg G
  ft : ∀ (i : String) (q : FK) (n : Nat), G.fns.lookup i = some (q, n) → i ∈ G.xs → ∃ f k, FnW X.prog X.w X.K X.mg X.base k f (spX X.K X.mg n (Φ i)) ∧ Room (k + 1) X.A ∧ AtK X.K X.mg i f q
/-! #### checks -/
section
variable (G : Tb) (N : List Str)
def chkX : Xe → Sx → Expr → Bool
  | .pl a, sc, e => chk G N a sc e
  | .call f es, sc, e => match e with
    | .Call (.Name x _) (b :: bs) [] _ => decide (f ∈ G.xs) && nmOk G f x (b :: bs).length && isGl sc x && !(x == sDbg) && (b :: bs).all nst && chks G N es sc (b :: bs)
    | _ => false
  | .ife c a b, sc, e => match e with
    | .IfExp t u v _ => chk G N c sc t && chkX a sc u && chkX b sc v
    | _ => false
def chkMsg (v : Exo) (sc : Sx) (e : Expr) : Bool := match v, e with
  | .no, .Constant (.str _) _ _ => true
  | .yes a, .JoinedStr [.Constant (.str m1) _ _, .FormattedValue z (-1) none _, .Constant (.str m2) _ _] _ => chk G N a sc z && decide (m1.length ≤ 1000) && decide (m2.length ≤ 1000)
  | .yes a, .JoinedStr [.Constant (.str m1) _ _, .FormattedValue z (-1) none _] _ => chk G N a sc z && decide (m1.length ≤ 1000)
  | _, _ => false
def isCst : Ex → Bool
  | .non => true
  | .bl _ => true
  | .int _ => true
  | .str _ => true
  | _ => false
def chkIs (t : String) (n : Nat) (sc : Sx) (e : Expr) : Bool := match e with
  | .Call (.Name x _) [.Name y _, .Name z _] [] _ => decide (x = "isinstance") && decide (x ∈ G.bts) && isGl sc x && decide (N[n]? = some y) && isVis sc y && !(y == sDbg) && !(y == sCld) && decide (z = Str.ofString t) && decide (t ∈ G.xis) && isGl sc z && !(z == sDbg)
  | _ => false
def chkHd (h : Hd) (n : Option Nat) (sc : Sx) (ss : List Stmt) : Bool := match h, ss with
  | .set i d, [.Assign [.Name x py] v _] => decide (N[i]? = some x) && (kd sc.sc x == some .local) && isCst d && chk G N d sc v
  | .ret d, [.Return (some v) _] => isCst d && chk G N d sc v
  | .isx i [t1, t2] a b, [.Assign [.Name x py] (.IfExp (.BoolOp .And [c1, c2] _) u v _) _] => match n with
    | some j => decide (N[i]? = some x) && (kd sc.sc x == some .local) && isCst a && isCst b && chk G N a sc u && chk G N b sc v && chkIs G N t1 j sc c1 && chkIs G N t2 j sc c2
    | none => false
  | _, _ => false
mutual
def chkXS : Sm → Sx → Stmt → Bool
  | .rai c v, sc, st => match st with
    | .Raise (some (.Call (.Name x _) [m] [] _)) none _ => decide (x = Str.ofString c) && decide (c ∈ G.xcs) && isGl sc x && chkMsg G N v sc m && nst m
    | _ => false
  | .xset i a, sc, st => match st with
    | .Assign [.Name x py] v _ => decide (N[i]? = some x) && isLoc sc x && ncomp v && compTo sc x py v && chkX G N a sc v
    | _ => false
  | .xunp is a, sc, st => match st with
    | .Assign [.Tuple ts k p] v _ => chkTg N sc (.tup is) (.Tuple ts k p) && nTup v && chkX G N a sc v
    | _ => false
  | .xret a, sc, st => match st with
    | .Return (some v) _ => chkX G N a sc v
    | _ => false
  | .xexp a, sc, st => match st with
    | .Expr v _ => ncomp v && chkX G N a sc v
    | _ => false
  | .ife c a b, sc, st => match st with
    | .If t x y _ => chk G N c sc t && chkXs a sc x && chkXs b sc y
    | _ => false
  | .xtry b n c ks h, sc, st => match st with
    | .Try body [.ExceptHandler (some (.Name x _)) m (b₀ :: suite) _] [] [] _ => decide (x = Str.ofString c) && decide (c ∈ G.xts) && ks.all (fun k => decide (k ∈ G.xcs)) && isGl sc x && !(x == sDbg) && chkXs b sc body && chkHd G N h n sc (b₀ :: suite) &&
        (match n, m with
        | none, none => true
        | some j, some y => decide (N[j]? = some y) && (kd sc.sc y == some .local)
        | _, _ => false)
    | _ => false
  | .xb _, _, _ => false
  | .brk, _, _ => false
  | .cont, _, _ => false
  | s, sc, st => chkS G N s sc st
def chkXs : Sms → Sx → List Stmt → Bool
  | .nil, _, ss => match ss with
    | [] => true
    | _ => false
  | .cons a r, sc, ss => match ss with
    | x :: xs => chkXS a sc x && chkXs r sc xs
    | _ => false
end
end
/-! #### what they mean -/
def tIX (K : PySem.W.Frag) (mg : Str → Option Value) (Wx : WX) (m : Env → M D) : TE := fun σ H Q => ∃ (W : Wd) (ρ : Env), W.H = H ∧ Abs K W ∧ Sl K W ρ σ ∧
  ((∃ d S', m ρ W.S = .ok d S' ∧ ∀ W' v, Nxt K W S' W' → Rep K W' d v → Q v W'.H) ∨ (∃ c S', m ρ W.S = .exc c S' ∧ ∀ W' C, Nxt K W S' W' → mg (Str.ofString c) = some (.ref C) → Wx (.ref C) none σ W'.H))
def FlOkX (K : PySem.W.Frag) (mg : Str → Option Value) (n : Nat) (Wx : WX) (D' : Ends) (f : FlX) (W' : Wd) : Prop := match f with
  | .fl f => FlOk K D' f W'
  | .xc c ρ' => ∀ (σ' : L2.St) C, σ'.length = n → Sl K W' ρ' σ' → mg (Str.ofString c) = some (.ref C) → Wx (.ref C) none σ' W'.H
def tSX (K : PySem.W.Frag) (mg : Str → Option Value) (n : Nat) (Wx : WX) (m : Env → M FlX) : TS := fun D' σ H => ∃ (W : Wd) (ρ : Env), W.H = H ∧ Abs K W ∧ Sl K W ρ σ ∧ ∃ f S', m ρ W.S = .ok f S' ∧ ∀ W', Nxt K W S' W' → FlOkX K mg n Wx D' f W'
section
variable {G : Tb} {Φ : String → List D → M D} {fu : Nat} {N : List Str}
theorem x_pl {X : Cx} {e : Expr} {m : Env → M D} {W : WX} (h : PE X.nox e (tI X.K m)) : PE X e (tIX X.K X.mg W fun ρ => noX (m ρ)) := by
  refine (PE.nox h).weak ?_
  rintro σ H Q ⟨W, ρ, rfl, A, sl, ⟨d, S', e, k⟩ | ⟨c, S', e, _⟩⟩
  · exact ⟨W, ρ, rfl, A, sl, d, S', noX_ok e, k⟩
  · exact (noX_exc e).elim
theorem sndX : ∀ (a : Xe) (sc : Sx) (X : Cx) (W : WX) (e : Expr), GoodX G Φ N sc X W → chkX G N a sc e = true → PE X e (tIX X.K X.mg W (evX Φ a))
  | .pl a, sc, X, W, e, g, h => by
    simp only [chkX] at h
    simp only [evX]
    exact x_pl (sndE a sc X.nox e g.g h)
  | .call f as, sc, X, W, e, g, h => by
    simp only [chkX] at h
    split at h
    · rename_i x p b bs pos
      obtain ⟨h, h6⟩ := and2 h
      obtain ⟨h, h5⟩ := and2 h
      obtain ⟨h, h4⟩ := and2 h
      obtain ⟨h, h3⟩ := and2 h
      obtain ⟨h1, h2⟩ := and2 h
      obtain ⟨fq, q1, hq⟩ := nm_ok h2
      obtain ⟨fa, k, F, hr, hat⟩ := g.ft f _ _ q1 (of_decide_eq_true h1)
      obtain ⟨hm, hk⟩ := hq _ _ _ hat
      have hr := hr.mono (Nat.le_succ k)
      have ha : PA X (b :: bs) (tAs X.K (evs Φ as)) := nox_A (sndA as sc X.nox _ g.g h6)
      have hl := evs_len (Φ := Φ) as sc (b :: bs) h6
      rw [List.all_cons] at h5
      obtain ⟨n1, n2⟩ := and2 h5
      simp only [evX]
      refine (g_callX F g.g.gd hr g.tk (g.g.gl h3) hm hk ha (not_b h4) (star_cons n1 bs _) (plain_args n2)).weak ?_
      rintro σ H Q ⟨W1, ρ, rfl, A, sl, ⟨d, S', e, k⟩ | ⟨c, S', e, k⟩⟩
      · obtain ⟨ds, S1, e1, e⟩ := bnd_ok e
        have e1 := noX_ok e1
        refine ⟨W1, ρ, rfl, A, sl, ds, S1, e1, fun W2 vs N1 r1 => ?_⟩
        exact ⟨by rw [reps_len _ _ r1]; exact hl _ _ _ _ e1, W2, ds, rfl, N1.ab, r1, .inl ⟨d, S', by rw [N1.st]; exact e, fun W3 v N2 r2 => k W3 v (N1.trans N2) r2⟩⟩
      · rcases bnd_exc e with e | ⟨ds, S1, e1, e⟩
        · exact (noX_exc e).elim
        · have e1 := noX_ok e1
          refine ⟨W1, ρ, rfl, A, sl, ds, S1, e1, fun W2 vs N1 r1 => ?_⟩
          exact ⟨by rw [reps_len _ _ r1]; exact hl _ _ _ _ e1, W2, ds, rfl, N1.ab, r1, .inr ⟨c, S', by rw [N1.st]; exact e, fun W3 C N2 hC => k W3 C (N1.trans N2) hC⟩⟩
    · cases h
  | .ife c a b, sc, X, W, e, g, h => by
    simp only [chkX] at h
    split at h
    · obtain ⟨h, h3⟩ := and2 h
      obtain ⟨h1, h2⟩ := and2 h
      simp only [evX]
      refine (pe_ifExp (PT.nox (sndT c sc X.nox _ g.g h1)) (sndX a sc X W _ g h2) (sndX b sc X W _ g h3)).weak ?_
      rintro σ H Q ⟨W1, ρ, rfl, A, sl, ⟨d, S', e, k⟩ | ⟨c', S', e, k⟩⟩
      · obtain ⟨x, S1, e1, e⟩ := bnd_ok e
        refine ⟨W1, ρ, rfl, A, sl, x, S1, noX_ok e1, fun W2 N1 => ?_⟩
        cases x with
        | true =>
          simp only [if_true] at e ⊢
          exact ⟨W2, ρ, rfl, N1.ab, sl.ext A N1.ext, .inl ⟨d, S', by rw [N1.st]; exact e, fun W3 v N2 r2 => k W3 v (N1.trans N2) r2⟩⟩
        | false =>
          simp only [Bool.false_eq_true, if_false] at e ⊢
          exact ⟨W2, ρ, rfl, N1.ab, sl.ext A N1.ext, .inl ⟨d, S', by rw [N1.st]; exact e, fun W3 v N2 r2 => k W3 v (N1.trans N2) r2⟩⟩
      · rcases bnd_exc e with e | ⟨x, S1, e1, e⟩
        · exact (noX_exc e).elim
        · refine ⟨W1, ρ, rfl, A, sl, x, S1, noX_ok e1, fun W2 N1 => ?_⟩
          cases x with
          | true =>
            simp only [if_true] at e ⊢
            exact ⟨W2, ρ, rfl, N1.ab, sl.ext A N1.ext, .inr ⟨c', S', by rw [N1.st]; exact e, fun W3 C N2 hC => k W3 C (N1.trans N2) hC⟩⟩
          | false =>
            simp only [Bool.false_eq_true, if_false] at e ⊢
            exact ⟨W2, ρ, rfl, N1.ab, sl.ext A N1.ext, .inr ⟨c', S', by rw [N1.st]; exact e, fun W3 C N2 hC => k W3 C (N1.trans N2) hC⟩⟩
    · cases h
/-! #### a raised text -/
theorem int_short {i : Int} (h : i.natAbs < 1000000) : (Str.ofString (toString i)).length ≤ 8 ∧ i.natAbs.log2 < 1920 := by
  have hl : i.natAbs.log2 < 1920 := by
    by_cases h0 : i.natAbs = 0
    · rw [h0]; decide
    · exact (Nat.log2_lt h0).mpr (Nat.lt_of_lt_of_le h (by decide))
  have hs : (PyData.int i).showable = true := by simp only [PyData.showable, decide_eq_true_eq]; exact hl
  have := shown_le (.int i) hs (by simp only [cost, if_pos h]; omega)
  simp only [cost, if_pos h, PyData.shown] at this
  exact ⟨this, hl⟩
end
end AG
namespace AG
open PySem PySem.Spec PyProof.Rows L2
section
variable {G : Tb} {Φ : String → List D → M D} {fu : Nat} {N : List Str}
/-- the text of a raised exception: written, or with a number in it -/
theorem pmk_msg {X : Cx} {W : WX} {sc : Sx} {c : String} {C : Addr} {p pos : Pos} {v : Exo} {m : Expr} (g : GoodX G Φ N sc X W) (o : XcOk X.K X.mg c C) (hd : (Str.ofString c == ("__debug__" : Str)) = false) (hg : Gl X (Str.ofString c)) (hm : chkMsg G N v sc m = true) (hn : nst m = true) :
    PMk X (.Call (.Name (Str.ofString c) p) [m] [] pos) (fun σ H Q => ∃ (Wd : Wd) (ρ : Env), Wd.H = H ∧ Abs X.K Wd ∧ Sl X.K Wd ρ σ ∧ ∃ x S', evo Φ v ρ Wd.S = .ok x S' ∧ raiOk x = true ∧ ∀ W', Nxt X.K Wd S' W' → Q (.ref C) none W'.H) := by
  have l0 : Str.empty.length = 0 := rfl
  have small8 : ∀ n, n ≤ 2016 → n ≤ sizeLine := fun n h => by rw [sizeLine_eq]; omega
  unfold chkMsg at hm
  split at hm
  · rename_i m j p2
    have key := pmk_own (X := X) (m := m) (j := j) (p := p) (p2 := p2) (pos := pos) PySem.F.excBase_ValueError o.q o.g o.k (raises_own o.b o.t) hg hd
    intro pins s σ H Q I ⟨Wd, ρ, e0, A, sl, x, S', e, _, k⟩
    refine key pins s σ H Q I ?_
    simp only [evo] at e
    obtain ⟨_, rfl⟩ := ret_ok e
    exact e0 ▸ k Wd (Nxt.refl A)
  · rename_i a m1 j1 p1 z p2 m2 j2 p3 p4
    obtain ⟨hm, h3⟩ := and2 hm
    obtain ⟨h1, h2⟩ := and2 hm
    have h2 := of_decide_eq_true h2
    have h3 := of_decide_eq_true h3
    have q := PE.nox (sndE a sc X.nox _ g.g h1)
    have key := pmk_ownA (X := X) (p := p) (pos := pos) PySem.F.excBase_ValueError o.q o.g o.k (raises_own o.b o.t) hg
      (pa_cons (pe_joined (PJ.cons (pe_str (x := m1) (j := j1) (pos := p1)) (PJ.cons (pe_fmt (pos := p2) q) (PJ.cons (pe_str (x := m2) (j := j2) (pos := p3)) .nil))) (pos := p4)) pa_nil) hd
    intro pins s σ H Q I ⟨Wd, ρ, e0, A, sl, x, S', e, ro, k⟩
    refine key pins s σ H Q I ?_
    simp only [evo] at e
    obtain ⟨y, S1, e1, e2⟩ := bnd_ok e
    split at e2
    · obtain ⟨rfl, rfl⟩ := ret_ok e2
      obtain ⟨l8, lg⟩ := int_short (of_decide_eq_true ro)
      refine ⟨m1, rfl, small8 _ (by simp only [Str.length_append, l0]; omega), Wd, ρ, e0, A, sl, _, _, e1, fun W' v N r => ?_⟩
      rw [rep_int r]
      refine .inr ⟨_, rfl, lg, _, rfl, small8 _ (by simp only [Str.length_append, l0]; omega), m2, rfl, small8 _ (by simp only [Str.length_append, l0]; omega), ?_⟩
      exact ⟨small8 _ (by rw [List.length_singleton]; omega), k W' N⟩
    · cases e2
  · rename_i a m1 j1 p1 z p2 p4
    obtain ⟨h1, h2⟩ := and2 hm
    have h2 := of_decide_eq_true h2
    have q := PE.nox (sndE a sc X.nox _ g.g h1)
    have key := pmk_ownA (X := X) (p := p) (pos := pos) PySem.F.excBase_ValueError o.q o.g o.k (raises_own o.b o.t) hg
      (pa_cons (pe_joined (PJ.cons (pe_str (x := m1) (j := j1) (pos := p1)) (PJ.cons (pe_fmt (pos := p2) q) .nil)) (pos := p4)) pa_nil) hd
    intro pins s σ H Q I ⟨Wd, ρ, e0, A, sl, x, S', e, ro, k⟩
    refine key pins s σ H Q I ?_
    simp only [evo] at e
    obtain ⟨y, S1, e1, e2⟩ := bnd_ok e
    split at e2
    · obtain ⟨rfl, rfl⟩ := ret_ok e2
      obtain ⟨l8, lg⟩ := int_short (of_decide_eq_true ro)
      refine ⟨m1, rfl, small8 _ (by simp only [Str.length_append, l0]; omega), Wd, ρ, e0, A, sl, _, _, e1, fun W' v N r => ?_⟩
      rw [rep_int r]
      refine .inr ⟨_, rfl, lg, _, rfl, small8 _ (by simp only [Str.length_append, l0]; omega), ?_⟩
      exact ⟨small8 _ (by rw [List.length_singleton]; omega), k W' N⟩
    · cases e2
  · cases hm
/-! #### the suite of a caught exception -/
def cV : Ex → V
  | .bl b => .bl b
  | .int i => .int i
  | .str s => .str s
  | _ => .non
def cD : Ex → D
  | .bl b => .bl b
  | .int i => .int i
  | .str s => .str s
  | _ => .non
theorem cst_pe {Y : Cx} {sc : Sx} : ∀ (d : Ex) (e : Expr), isCst d = true → chk G N d sc e = true → PE Y e (tC (cV d))
  | .non, e, _, h => by
    simp only [chk] at h
    split at h
    · exact pe_non
    · cases h
  | .bl b, e, _, h => by
    simp only [chk] at h
    split at h
    · rw [eq_of_beq h]; exact pe_bl
    · cases h
  | .int i, e, _, h => by
    simp only [chk] at h
    split at h
    · rw [eq_of_beq h]; exact pe_int
    · cases h
  | .str s, e, _, h => by
    simp only [chk] at h
    split at h
    · rw [dec_eq h]; exact pe_str
    · cases h
theorem cst_ev : ∀ (d : Ex) (ρ : Env), isCst d = true → ev Φ d ρ = ret (cD d)
  | .non, ρ, _ => by simp only [ev, cD]
  | .bl b, ρ, _ => by simp only [ev, cD]
  | .int i, ρ, _ => by simp only [ev, cD]
  | .str s, ρ, _ => by simp only [ev, cD]
theorem cst_rep {K : PySem.W.Frag} {W : Wd} : ∀ (d : Ex), isCst d = true → Rep K W (cD d) (cV d)
  | .non, _ => by simp only [cD, cV, Rep]
  | .bl b, _ => bl_rep _
  | .int i, _ => int_rep _
  | .str s, _ => str_rep _
theorem cst_nc {sc : Sx} : ∀ (d : Ex) (e : Expr), isCst d = true → chk G N d sc e = true → ncomp e = true
  | .non, e, _, h => by
    simp only [chk] at h
    split at h
    · rfl
    · cases h
  | .bl b, e, _, h => by
    simp only [chk] at h
    split at h
    · rfl
    · cases h
  | .int i, e, _, h => by
    simp only [chk] at h
    split at h
    · rfl
    · cases h
  | .str s, e, _, h => by
    simp only [chk] at h
    split at h
    · rfl
    · cases h
theorem Sl.hole {K : PySem.W.Frag} {W : Wd} {ρ : Env} {σ : L2.St} {i j : Nat} {d : D} {v : V} {y : Option V} (h : Sl K W ρ σ) (r : Rep K W d v) : Sl K W ((ρ.set i (some d)).set j none) (((σ.set j y).set i (some v)).set j none) := by
  refine ⟨by simp [h.1], fun m d' e => ?_⟩
  by_cases hm : m = j
  · subst hm
    by_cases hl : m < ρ.length
    · rw [List.getElem?_set_self (by simpa using hl)] at e
      cases e
    · rw [List.getElem?_eq_none (by simp; omega)] at e
      cases e
  · rw [List.getElem?_set_ne (Ne.symm hm)] at e ⊢
    by_cases hi : m = i
    · subst hi
      by_cases hl : m < ρ.length
      · rw [List.getElem?_set_self hl] at e
        cases e
        exact ⟨v, by rw [List.getElem?_set_self (by simp; have := h.1; omega)], r⟩
      · rw [List.getElem?_eq_none (by simp; omega)] at e
        cases e
    · rw [List.getElem?_set_ne (Ne.symm hi)] at e ⊢
      rw [List.getElem?_set_ne (Ne.symm hm)]
      exact h.2 m d' e
end
end AG
namespace AG
open PySem PySem.Spec PyProof.Rows L2
section
variable {G : Tb} {Φ : String → List D → M D} {fu : Nat} {N : List Str}
theorem catX_ok {m : M D} {ρ : Env} {f : D → M FlX} {S : Sto} {r : FlX} {S' : Sto} (h : catX m ρ f S = .ok r S') : (∃ d S1, m S = .ok d S1 ∧ f d S1 = .ok r S') ∨ (∃ c, m S = .exc c S' ∧ r = .xc c ρ) := by
  unfold catX at h
  cases e : m S with
  | bad => rw [e] at h; cases h
  | ok d S1 => rw [e] at h; exact .inl ⟨d, S1, rfl, h⟩
  | exc c S1 => rw [e] at h; cases h; exact .inr ⟨c, rfl, rfl⟩
def isTyO : Option Value → Bool
  | some (.type _) => true
  | _ => false
/-- isinstance of a caught exception -/
theorem pt_is {X : Cx} {W : WX} {sc : Sx} {t : String} {j : Nat} {e : Expr} {a C : Addr} {oe : Obj} {pn : List (Addr × Obj)} {c : String} (g : GoodX G Φ N sc X W) (hc : c ∈ G.xcs) (hC : X.mg (Str.ofString c) = some (.ref C)) (hz : Zc (.ref C) none oe) (hf : ∃ vs, oe.data = .fields vs)
    (h : chkIs G N t j sc e = true) : ∃ tt : TT, PT (X.suite a ((a, oe) :: pn)) e tt ∧ ∀ σ H Q, σ[j]? = some (some (.ref a)) → Q (subX c t) H → tt σ H Q := by
  unfold chkIs at h
  split at h
  · rename_i x p y py z pz pos
    obtain ⟨h, h11⟩ := and2 h
    obtain ⟨h, h10⟩ := and2 h
    obtain ⟨h, h9⟩ := and2 h
    obtain ⟨h, h8⟩ := and2 h
    obtain ⟨h, h7⟩ := and2 h
    obtain ⟨h, h6⟩ := and2 h
    obtain ⟨h, h5⟩ := and2 h
    obtain ⟨h, h4⟩ := and2 h
    obtain ⟨h, h3⟩ := and2 h
    obtain ⟨h1, h2⟩ := and2 h
    have hx := dec_eq h1
    subst hx
    have hz' := dec_eq h8
    subst hz'
    obtain ⟨E, hk⟩ := g.tb.xi c hc t (of_decide_eq_true h9) C hC
    have hgx : Gl (X.suite a ((a, oe) :: pn)) "isinstance" := g.g.gl h3
    have hgz : Gl (X.suite a ((a, oe) :: pn)) (Str.ofString t) := g.g.gl h10
    have hmi : (X.suite a ((a, oe) :: pn)).mg "isinstance" = none := g.g.bt _ (of_decide_eq_true h2)
    have pv : PE (X.suite a ((a, oe) :: pn)) (.Name y py) (tVar j) := pe_var (by show X.N[j]? = _; rw [g.g.hN]; exact of_decide_eq_true h4) (by show Vis X.env.scope y; rw [g.g.hs]; exact isVis_ok h5) (not_b h6) (not_b h7)
    rcases hk with ⟨T, hT, hk⟩ | ⟨hT, hb, hk⟩
    · have pz : PE (X.suite a ((a, oe) :: pn)) (.Name (Str.ofString t) pz) (tC (.ref T)) := pe_glob hgz hT rfl (not_b h11)
      refine ⟨_, pt_val (pe_callB (call_isE E hz hf) hgx hmi (by decide +kernel) (pa_cons pv (pa_cons pz pa_nil))), fun σ H Q hs hq => ?_⟩
      exact ⟨_, hs, _, _, _, rfl, fun u hu => hu, hk, _, rfl, hq⟩
    · have pz : PE (X.suite a ((a, oe) :: pn)) (.Name (Str.ofString t) pz) (tC (.ty t)) := by
        refine pe_bltn hgz hT hb rfl ?_ (not_b h11)
        intro z
        rw [z] at hb
        have q : isTyO (bootBuiltins "__name__") = false := by decide +kernel
        have hb' : bootBuiltins "__name__" = some (.type t) := hb
        rw [hb'] at q
        cases q
      refine ⟨_, pt_val (pe_callB (call_isE E hz hf) hgx hmi (by decide +kernel) (pa_cons pv (pa_cons pz pa_nil))), fun σ H Q hs hq => ?_⟩
      exact ⟨_, hs, _, _, _, rfl, fun u hu => hu, hk, _, rfl, hq⟩
  · cases h
/-- what a handler does -/
def tHd (mg : Str → Option Value) (xcs : List String) (h : Hd) (n : Option Nat) (a : Addr) (cls : Value) (d : Option Addr) : TS := match h with
  | .set i e => fun D σ H => D.nx (σ.set i (some (cV e))) H
  | .ret e => fun D σ H => D.rt (cV e) H
  | .isx i ts u v => fun D σ H => ∃ (C : Addr) (c : String) (j : Nat), n = some j ∧ cls = .ref C ∧ d = none ∧ c ∈ xcs ∧ mg (Str.ofString c) = some (.ref C) ∧ σ[j]? = some (some (.ref a)) ∧ D.nx (σ.set i (some (cV (if ts.all (subX c) then u else v)))) H
theorem hd_ok {X : Cx} {W : WX} {sc : Sx} {h : Hd} {n : Option Nat} {ss : List Stmt} {a : Addr} {oe : Obj} {cls : Value} {d : Option Addr} {pn : List (Addr × Obj)} (g : GoodX G Φ N sc X W) (hz : Zc cls d oe) (hf : ∃ vs, oe.data = .fields vs) (hc : chkHd G N h n sc ss = true) :
    PSs (X.suite a ((a, oe) :: pn)) ss (tHd X.mg G.xcs h n a cls d) := by
  have hN : X.N.Nodup := by rw [g.g.hN]; exact g.g.nd
  unfold chkHd at hc
  split at hc
  · rename_i i e x py v pos
    obtain ⟨hc, h4⟩ := and2 hc
    obtain ⟨hc, h3⟩ := and2 hc
    obtain ⟨h1, h2⟩ := and2 hc
    have hloc : X.env.scope.names.lookup x = some .local := by rw [g.g.hs]; exact kd_some h2
    have q : PS (X.suite a ((a, oe) :: pn)) (.Assign [.Name x py] v pos) (tAsg (tC (cV e)) (gName i)) :=
      ps_set hN (by show X.N[i]? = _; rw [g.g.hN]; exact of_decide_eq_true h1) (.inl hloc) (cst_pe e v h3 h4) (sw_none (cst_nc e v h3 h4) _ _ _) (.inr hloc)
    exact (pss_cons q pss_nil).weak fun D σ H z => z
  · rename_i e v pos
    obtain ⟨h3, h4⟩ := and2 hc
    exact (pss_cons (ps_ret (cst_pe e v h3 h4)) pss_nil).weak fun D σ H z => z
  · rename_i i t1 t2 u v x py c1 c2 ap eu ev ip pos
    split at hc
    · rename_i j
      obtain ⟨hc, h8⟩ := and2 hc
      obtain ⟨hc, h7⟩ := and2 hc
      obtain ⟨hc, h6⟩ := and2 hc
      obtain ⟨hc, h5⟩ := and2 hc
      obtain ⟨hc, h4⟩ := and2 hc
      obtain ⟨hc, h3⟩ := and2 hc
      obtain ⟨h1, h2⟩ := and2 hc
      have hloc : X.env.scope.names.lookup x = some .local := by rw [g.g.hs]; exact kd_some h2
      constructor
      rintro pins s σ H D I ⟨C, c, j', hj, rfl, rfl, hc, hC, hs, hq⟩
      cases hj
      obtain ⟨tt1, p1, k1⟩ := pt_is g hc hC hz hf h7
      obtain ⟨tt2, p2, k2⟩ := pt_is g hc hC hz hf h8
      have q : PS (X.suite a ((a, oe) :: pn)) (.Assign [.Name x py] (.IfExp (.BoolOp .And [c1, c2] ap) eu ev ip) pos) (tAsg (tIf (tAnd tt1 tt2) (tC (cV u)) (tC (cV v))) (gName i)) :=
        ps_set hN (by show X.N[i]? = _; rw [g.g.hN]; exact of_decide_eq_true h1) (.inl hloc) (pe_ifExp (PW.pt (pw_and p1 (pw_and1 p2))) (cst_pe u eu h3 h5) (cst_pe v ev h4 h6)) (sw_none rfl _ _ _) (.inr hloc)
      refine (pss_cons q pss_nil).run pins s σ H D I ?_
      simp only [List.all_cons, List.all_nil, Bool.and_true] at hq
      refine k1 _ _ _ hs ?_
      cases b1 : subX c t1 with
      | true =>
        rw [b1] at hq
        refine k2 _ _ _ hs ?_
        cases b2 : subX c t2 with
        | true => rw [b2] at hq; exact hq
        | false => rw [b2] at hq; exact hq
      | false => rw [b1] at hq; exact hq
    · cases hc
  · cases hc
theorem GoodX.tr {X : Cx} {W W' : WX} {sc : Sx} {pn : List (Addr × Obj)} {xe : Value → Shared → Prop} (g : GoodX G Φ N sc X W) (tk : Takes (X.tr pn xe) W') : GoodX G Φ N sc (X.tr pn xe) W' where
  g := { hN := g.g.hN, nd := g.g.nd, hs := g.g.hs, kd := g.g.kd, calm := g.g.calm, fn := g.g.fn, xe := rfl, gd := g.g.gd, hu := g.g.hu, hu5 := g.g.hu5, bt := g.g.bt, cs := g.g.cs, ft := g.g.ft, fl := g.g.fl, gt := g.g.gt }
  tk := tk
  st := g.st
  fr := g.fr
  tb := g.tb
  ft := g.ft
theorem _root_.L2.PS.weakI {X : Cx} {st : Stmt} {t t' : TS} (h : PS X st t) (k : ∀ D σ H, σ.length = X.N.length → t' D σ H → t D σ H) : PS X st t' :=
  ⟨fun pins s σ H D I q => h.run pins s σ H D I (k D σ H I.len q)⟩
theorem x_plS {X : Cx} {st : Stmt} {s : Sm} {W : WX} (h : PS X.nox st (tS X.K (ex Φ fu s))) : PS X st (tSX X.K X.mg X.N.length W (plX Φ fu s)) := by
  refine (nox_S h).weak ?_
  rintro D σ H ⟨W1, ρ, rfl, A, sl, f, S', e, k⟩
  obtain ⟨f1, S1, e1, e⟩ := bnd_ok (show bnd (noX (ex Φ fu s ρ)) (fun f => ret (FlX.fl f)) W1.S = _ from e)
  obtain ⟨rfl, rfl⟩ := ret_ok e
  exact ⟨W1, ρ, rfl, A, sl, f1, _, noX_ok e1, fun W2 N1 => k W2 N1⟩
mutual
theorem sndXS : ∀ (s : Sm) (sc : Sx) (X : Cx) (W : WX) (st : Stmt), GoodX G Φ N sc X W → chkXS G N s sc st = true → PS X st (tSX X.K X.mg X.N.length W (exX Φ fu s))
  | .rai c v, sc, X, W, st, g, h => by
    simp only [chkXS] at h
    split at h
    · rename_i x p m pos pos2
      obtain ⟨h, h5⟩ := and2 h
      obtain ⟨h, h4⟩ := and2 h
      obtain ⟨h, h3⟩ := and2 h
      obtain ⟨h1, h2⟩ := and2 h
      have hx := dec_eq h1
      subst hx
      have hc := of_decide_eq_true h2
      obtain ⟨C, o⟩ := g.tb.xc c hc
      simp only [exX]
      refine (PS.weakI (ps_raise (X := X) (show X.calm = true from g.g.calm) g.tk (pmk_msg g o (g.tb.nc c hc) (g.g.gl h3) h4 h5)) ?_)
      rintro D σ H hlen ⟨W1, ρ, rfl, A, sl, f, S', e, k⟩
      obtain ⟨x, S1, e1, e⟩ := bnd_ok e
      obtain ⟨ro, e⟩ := need_ok e
      obtain ⟨rfl, rfl⟩ := ret_ok e
      exact ⟨W1, ρ, rfl, A, sl, x, _, noX_ok e1, ro, fun W2 N1 => k W2 N1 σ C hlen (sl.ext A N1.ext) o.g⟩
    · cases h
  | .xset i a, sc, X, W, st, g, h => by
    simp only [chkXS] at h
    split at h
    · rename_i x py v pos
      obtain ⟨h, h5⟩ := and2 h
      obtain ⟨h, h4⟩ := and2 h
      obtain ⟨h, h3⟩ := and2 h
      obtain ⟨h1, h2⟩ := and2 h
      have hl := isLoc_ok h2
      have hl' : Loc X.env.scope x := by rw [g.g.hs]; exact hl.imp id fun z => z.1
      have hf : X.fn x = true ∨ X.env.scope.names.lookup x = some .local := by
        rcases hl with q | q
        · exact .inr (by rw [g.g.hs]; exact q)
        · exact .inl (g.g.fn x q.2)
      simp only [exX]
      refine (ps_set (by rw [g.g.hN]; exact g.g.nd) (by rw [g.g.hN]; exact of_decide_eq_true h1) hl' (sndX a sc X W v g h5) (sw_none h3 _ _ _) hf).weakI ?_
      rintro D σ H hlen ⟨W1, ρ, rfl, A, sl, f, S', e, k⟩
      refine ⟨W1, ρ, rfl, A, sl, ?_⟩
      rcases catX_ok e with ⟨d, S1, e1, e2⟩ | ⟨c, e1, rfl⟩
      · refine .inl ⟨d, S1, e1, fun W2 v N1 r => ?_⟩
        obtain ⟨rfl, rfl⟩ := ret_ok e2
        exact k W2 N1 _ ((sl.ext A N1.ext).set i r)
      · exact .inr ⟨c, S', e1, fun W2 C N1 hC => k W2 N1 σ C hlen (sl.ext A N1.ext) hC⟩
    · cases h
  | .xunp is a, sc, X, W, st, g, h => by
    simp only [chkXS] at h
    split at h
    · rename_i ts k p v pos
      obtain ⟨h, h3⟩ := and2 h
      obtain ⟨h1, h2⟩ := and2 h
      simp only [exX]
      have hw : swappedStores [.Tuple ts k p] v X.env = pure none := ss_plain h2 _
      refine (ps_asg (sndX a sc X W v g h3) (nox_G (g.g.tg h1)) (show swapsWithSole [.Tuple ts k p] v pos.line X.env = pure false from sw_tup (ts := ts) (k := k) (p := p) pos.line X.env) hw rfl).weakI ?_
      rintro D σ H hlen ⟨W1, ρ, rfl, A, sl, f, S', e, k⟩
      refine ⟨W1, ρ, rfl, A, sl, ?_⟩
      rcases catX_ok e with ⟨d, S1, e1, e2⟩ | ⟨c, e1, rfl⟩
      · refine .inl ⟨d, S1, e1, fun W2 v N1 r => ?_⟩
        obtain ⟨ρ2, S2, e3, e4⟩ := bnd_ok e2
        obtain ⟨h2, h2'⟩ := opt_ok e3
        obtain ⟨h3, h4⟩ := ret_ok e4
        subst h2' h3 h4
        exact gTg_ok (.tup is) W2 d v ρ ρ2 σ _ N1.ab r (sl.ext A N1.ext) h2 fun σ' sl' _ => k W2 N1 σ' sl'
      · exact .inr ⟨c, S', e1, fun W2 C N1 hC => k W2 N1 σ C hlen (sl.ext A N1.ext) hC⟩
    · cases h
  | .xret a, sc, X, W, st, g, h => by
    simp only [chkXS] at h
    split at h
    · simp only [exX]
      refine (ps_ret (sndX a sc X W _ g h)).weakI ?_
      rintro D σ H hlen ⟨W1, ρ, rfl, A, sl, f, S', e, k⟩
      refine ⟨W1, ρ, rfl, A, sl, ?_⟩
      rcases catX_ok e with ⟨d, S1, e1, e2⟩ | ⟨c, e1, rfl⟩
      · refine .inl ⟨d, S1, e1, fun W2 v N1 r => ?_⟩
        obtain ⟨rfl, rfl⟩ := ret_ok e2
        exact k W2 N1 v r
      · exact .inr ⟨c, S', e1, fun W2 C N1 hC => k W2 N1 σ C hlen (sl.ext A N1.ext) hC⟩
    · cases h
  | .xexp a, sc, X, W, st, g, h => by
    simp only [chkXS] at h
    split at h
    · obtain ⟨h1, h2⟩ := and2 h
      simp only [exX]
      refine (ps_expr (sndX a sc X W _ g h2) (sw_none h1 _ _ _)).weakI ?_
      rintro D σ H hlen ⟨W1, ρ, rfl, A, sl, f, S', e, k⟩
      refine ⟨W1, ρ, rfl, A, sl, ?_⟩
      rcases catX_ok e with ⟨d, S1, e1, e2⟩ | ⟨c, e1, rfl⟩
      · refine .inl ⟨d, S1, e1, fun W2 v N1 r => ?_⟩
        obtain ⟨rfl, rfl⟩ := ret_ok e2
        exact k W2 N1 σ (sl.ext A N1.ext)
      · exact .inr ⟨c, S', e1, fun W2 C N1 hC => k W2 N1 σ C hlen (sl.ext A N1.ext) hC⟩
    · cases h
  | .ife c a b, sc, X, W, st, g, h => by
    simp only [chkXS] at h
    split at h
    · obtain ⟨h, h3⟩ := and2 h
      obtain ⟨h1, h2⟩ := and2 h
      simp only [exX]
      refine (ps_if (PT.nox (sndT c sc X.nox _ g.g h1)) (sndXSs a sc X W _ g h2) (sndXSs b sc X W _ g h3)).weak ?_
      rintro D σ H ⟨W1, ρ, rfl, A, sl, f, S', e, k⟩
      obtain ⟨x, S1, e1, e⟩ := bnd_ok e
      refine ⟨W1, ρ, rfl, A, sl, x, S1, noX_ok e1, fun W2 N1 => ?_⟩
      cases x with
      | true =>
        simp only [if_true] at e ⊢
        exact ⟨W2, ρ, rfl, N1.ab, sl.ext A N1.ext, f, S', by rw [N1.st]; exact e, fun W3 N2 => k W3 (N1.trans N2)⟩
      | false =>
        simp only [Bool.false_eq_true, if_false] at e ⊢
        exact ⟨W2, ρ, rfl, N1.ab, sl.ext A N1.ext, f, S', by rw [N1.st]; exact e, fun W3 N2 => k W3 (N1.trans N2)⟩
    · cases h
  | .xtry b n c ks hd, sc, X, W, st, g, h => by
    simp only [chkXS] at h
    split at h
    · rename_i body x px m b0 suite hp tp
      obtain ⟨h, h8⟩ := and2 h
      obtain ⟨h, h7⟩ := and2 h
      obtain ⟨h, h6⟩ := and2 h
      obtain ⟨h, h5⟩ := and2 h
      obtain ⟨h, h4⟩ := and2 h
      obtain ⟨h, h3⟩ := and2 h
      obtain ⟨h1, h2⟩ := and2 h
      have hx := dec_eq h1
      subst hx
      have hks : ∀ k ∈ ks, k ∈ G.xcs := fun k hk => of_decide_eq_true (List.all_eq_true.mp h3 k hk)
      have ht := of_decide_eq_true h2
      simp only [exX]
      obtain ⟨T, hT⟩ := g.tb.xt c ht
      have nm : Names X (Str.ofString c) (.ref T) := ⟨g.g.gl h4, not_b h5, .inl hT⟩
      have look : ∀ {c' : String} {C : Addr}, c' ∈ ks → X.mg (Str.ofString c') = some (.ref C) → PySem.W.exmOne X.K (.ref C) (.ref T) = some (subX c' c) := fun {c' C} hc hC => by
        obtain ⟨T', hT', q⟩ := g.tb.xm c' (hks c' hc) c ht C hC
        rw [hT] at hT'
        cases hT'
        exact q
      cases n with
      | none =>
        cases m with
        | some y => cases h8
        | none =>
          refine (ps_try_only (tb := fun W' => tSX X.K X.mg X.N.length W' (exsX Φ fu b)) g.st g.fr nm g.tk (fun W' pn xe tk po => sndXSs b sc (X.tr pn xe) W' _ (g.tr tk) h6) (fun a oe cls d pn hz hf => hd_ok g hz hf h7)).weak ?_
          rintro D σ H ⟨W1, ρ, rfl, A, sl, f, S', e, k⟩
          obtain ⟨f1, S1, e1, e⟩ := bnd_ok e
          refine ⟨W1, ρ, rfl, A, sl, f1, S1, e1, fun W2 N1 => ?_⟩
          cases f1 with
          | fl f2 =>
            obtain ⟨rfl, rfl⟩ := ret_ok (show ret (FlX.fl f2) S1 = _ from e)
            exact k W2 N1
          | xc c' ρ2 =>
            obtain ⟨hc', e⟩ := need_ok e
            have hc' := of_decide_eq_true hc'
            intro σ' C hl sl' hC
            refine ⟨_, look hc' hC, fun hb a ha => ?_, fun hb => ?_⟩
            · rw [if_pos hb] at e
              cases hd with
              | set i d =>
                have hi : isCst d = true := by
                  unfold chkHd at h7
                  split at h7
                  · rename_i q1 _; cases q1; exact (and2 (and2 h7).1).2
                  · rename_i q1 _; cases q1
                  · rename_i q1 _; cases q1
                  · cases h7
                simp only [hdX, cst_ev (Φ := Φ) d ρ2 hi] at e
                obtain ⟨x1, S2, e3, e4⟩ := bnd_ok e
                obtain ⟨rfl, rfl⟩ := ret_ok e3
                obtain ⟨rfl, rfl⟩ := ret_ok e4
                exact k W2 N1 _ (sl'.set i (cst_rep d hi))
              | ret d =>
                have hi : isCst d = true := by
                  unfold chkHd at h7
                  split at h7
                  · rename_i q1 _; cases q1
                  · rename_i q1 _; cases q1; exact (and2 h7).1
                  · rename_i q1 _; cases q1
                  · cases h7
                simp only [hdX, cst_ev (Φ := Φ) d ρ2 hi] at e
                obtain ⟨x1, S2, e3, e4⟩ := bnd_ok e
                obtain ⟨rfl, rfl⟩ := ret_ok e3
                obtain ⟨rfl, rfl⟩ := ret_ok e4
                exact k W2 N1 _ (cst_rep d hi)
              | isx i ts u v =>
                exfalso
                unfold chkHd at h7
                split at h7
                · rename_i q1 _; cases q1
                · rename_i q1 _; cases q1
                · cases h7
                · cases h7
            · rw [if_neg (by rw [hb]; decide)] at e
              obtain ⟨rfl, rfl⟩ := ret_ok e
              exact k W2 N1 σ' C hl sl' hC
      | some j =>
        cases m with
        | none => cases h8
        | some y =>
          obtain ⟨y1, y2⟩ := and2 h8
          have hN : X.N.Nodup := by rw [g.g.hN]; exact g.g.nd
          refine (ps_try_as (i := j) (tb := fun W' => tSX X.K X.mg X.N.length W' (exsX Φ fu b)) g.st g.fr hN (by rw [g.g.hN]; exact of_decide_eq_true y1) (by show X.env.scope.names.lookup y = _; rw [g.g.hs]; exact kd_some y2) nm g.tk (fun W' pn xe tk po => sndXSs b sc (X.tr pn xe) W' _ (g.tr tk) h6) (fun a oe cls d pn hz hf => hd_ok g hz hf h7)).weak ?_
          rintro D σ H ⟨W1, ρ, rfl, A, sl, f, S', e, k⟩
          obtain ⟨f1, S1, e1, e⟩ := bnd_ok e
          refine ⟨W1, ρ, rfl, A, sl, f1, S1, e1, fun W2 N1 => ?_⟩
          cases f1 with
          | fl f2 =>
            obtain ⟨rfl, rfl⟩ := ret_ok (show ret (FlX.fl f2) S1 = _ from e)
            exact k W2 N1
          | xc c' ρ2 =>
            obtain ⟨hc', e⟩ := need_ok e
            have hc' := of_decide_eq_true hc'
            intro σ' C hl sl' hC
            have hlen : σ'.length = N.length := by rw [hl, g.g.hN]
            have hjN : j < N.length := (List.getElem?_eq_some_iff.mp (of_decide_eq_true y1)).1
            refine ⟨_, look hc' hC, fun hb a ha => ?_, fun hb => ?_⟩
            · rw [if_pos hb] at e
              cases hd with
              | set i d =>
                have hi : isCst d = true := by
                  unfold chkHd at h7
                  split at h7
                  · rename_i q1 _; cases q1; exact (and2 (and2 h7).1).2
                  · rename_i q1 _; cases q1
                  · rename_i q1 _; cases q1
                  · cases h7
                simp only [hdX, cst_ev (Φ := Φ) d ρ2 hi] at e
                obtain ⟨x1, S2, e3, e4⟩ := bnd_ok e
                obtain ⟨rfl, rfl⟩ := ret_ok e3
                obtain ⟨rfl, rfl⟩ := ret_ok e4
                exact k W2 N1 _ (sl'.hole (cst_rep d hi))
              | ret d =>
                have hi : isCst d = true := by
                  unfold chkHd at h7
                  split at h7
                  · rename_i q1 _; cases q1
                  · rename_i q1 _; cases q1; exact (and2 h7).1
                  · rename_i q1 _; cases q1
                  · cases h7
                simp only [hdX, cst_ev (Φ := Φ) d ρ2 hi] at e
                obtain ⟨x1, S2, e3, e4⟩ := bnd_ok e
                obtain ⟨rfl, rfl⟩ := ret_ok e3
                obtain ⟨rfl, rfl⟩ := ret_ok e4
                exact k W2 N1 _ (cst_rep d hi)
              | isx i ts u v =>
                have hi : isCst (if ts.all (subX c') then u else v) = true := by
                  unfold chkHd at h7
                  split at h7
                  · rename_i q1 _; cases q1
                  · rename_i q1 _; cases q1
                  · rename_i q1 _
                    cases q1
                    have z := (and2 (and2 (and2 (and2 h7).1).1).1).1
                    split
                    · exact (and2 (and2 z).1).2
                    · exact (and2 z).2
                  · cases h7
                simp only [hdX, cst_ev (Φ := Φ) _ ρ2 hi] at e
                obtain ⟨x1, S2, e3, e4⟩ := bnd_ok e
                obtain ⟨rfl, rfl⟩ := ret_ok e3
                obtain ⟨rfl, rfl⟩ := ret_ok e4
                exact ⟨C, c', j, rfl, rfl, rfl, hks c' hc', hC, by rw [List.getElem?_set_self (by omega)], k W2 N1 _ (sl'.hole (cst_rep _ hi))⟩
            · rw [if_neg (by rw [hb]; decide)] at e
              obtain ⟨rfl, rfl⟩ := ret_ok e
              exact k W2 N1 σ' C hl sl' hC
    · cases h
  | .xb _, sc, X, W, st, g, h => by simp only [chkXS] at h; cases h
  | .brk, sc, X, W, st, g, h => by simp only [chkXS] at h; cases h
  | .cont, sc, X, W, st, g, h => by simp only [chkXS] at h; cases h
  | .set i e, sc, X, W, st, g, h => by
    simp only [chkXS] at h
    simp only [exX]
    exact x_plS (sndS (.set i e) sc X.nox st g.g h)
  | .unp is e, sc, X, W, st, g, h => by
    simp only [chkXS] at h
    simp only [exX]
    exact x_plS (sndS (.unp is e) sc X.nox st g.g h)
  | .par i j a b, sc, X, W, st, g, h => by
    simp only [chkXS] at h
    simp only [exX]
    exact x_plS (sndS (.par i j a b) sc X.nox st g.g h)
  | .setix o i e, sc, X, W, st, g, h => by
    simp only [chkXS] at h
    simp only [exX]
    exact x_plS (sndS (.setix o i e) sc X.nox st g.g h)
  | .setfl c f o e, sc, X, W, st, g, h => by
    simp only [chkXS] at h
    simp only [exX]
    exact x_plS (sndS (.setfl c f o e) sc X.nox st g.g h)
  | .dput o k e, sc, X, W, st, g, h => by
    simp only [chkXS] at h
    simp only [exX]
    exact x_plS (sndS (.dput o k e) sc X.nox st g.g h)
  | .app o e, sc, X, W, st, g, h => by
    simp only [chkXS] at h
    simp only [exX]
    exact x_plS (sndS (.app o e) sc X.nox st g.g h)
  | .expr e, sc, X, W, st, g, h => by
    simp only [chkXS] at h
    simp only [exX]
    exact x_plS (sndS (.expr e) sc X.nox st g.g h)
  | .ret e, sc, X, W, st, g, h => by
    simp only [chkXS] at h
    simp only [exX]
    exact x_plS (sndS (.ret e) sc X.nox st g.g h)
  | .for tg it b, sc, X, W, st, g, h => by
    simp only [chkXS] at h
    simp only [exX]
    exact x_plS (sndS (.for tg it b) sc X.nox st g.g h)
  | .while c b, sc, X, W, st, g, h => by
    simp only [chkXS] at h
    simp only [exX]
    exact x_plS (sndS (.while c b) sc X.nox st g.g h)
  | .pass, sc, X, W, st, g, h => by
    simp only [chkXS] at h
    simp only [exX]
    exact x_plS (sndS (.pass) sc X.nox st g.g h)
  | .opq, sc, X, W, st, g, h => by
    simp only [chkXS] at h
    simp only [exX]
    exact x_plS (sndS (.opq) sc X.nox st g.g h)
  | .extd o e, sc, X, W, st, g, h => by
    simp only [chkXS] at h
    simp only [exX]
    exact x_plS (sndS (.extd o e) sc X.nox st g.g h)
  | .forA tg en e b, sc, X, W, st, g, h => by
    simp only [chkXS] at h
    simp only [exX]
    exact x_plS (sndS (.forA tg en e b) sc X.nox st g.g h)
  | .settle i s, sc, X, W, st, g, h => by
    simp only [chkXS] at h
    simp only [exX]
    exact x_plS (sndS (.settle i s) sc X.nox st g.g h)
  | .frz i s, sc, X, W, st, g, h => by
    simp only [chkXS] at h
    simp only [exX]
    exact x_plS (sndS (.frz i s) sc X.nox st g.g h)
theorem sndXSs : ∀ (ss : Sms) (sc : Sx) (X : Cx) (W : WX) (sts : List Stmt), GoodX G Φ N sc X W → chkXs G N ss sc sts = true → PSs X sts (tSX X.K X.mg X.N.length W (exsX Φ fu ss))
  | .nil, sc, X, W, sts, g, h => by
    cases sts with
    | nil =>
      simp only [exsX]
      refine pss_nil.weak ?_
      rintro D σ H ⟨W1, ρ, rfl, A, sl, f, S', e, k⟩
      obtain ⟨rfl, rfl⟩ := ret_ok e
      exact k W1 (Nxt.refl A) σ sl
    | cons x xs => simp only [chkXs] at h; cases h
  | .cons s r, sc, X, W, sts, g, h => by
    cases sts with
    | nil => simp only [chkXs] at h; cases h
    | cons x xs =>
      simp only [chkXs] at h
      obtain ⟨h1, h2⟩ := and2 h
      simp only [exsX]
      refine (pss_cons (sndXS s sc X W x g h1) (sndXSs r sc X W xs g h2)).weak ?_
      rintro D σ H ⟨W1, ρ, rfl, A, sl, f, S', e, k⟩
      obtain ⟨f1, S1, e1, e⟩ := bnd_ok e
      refine ⟨W1, ρ, rfl, A, sl, f1, S1, e1, fun W2 N1 => ?_⟩
      cases f1 with
      | xc c ρ2 =>
        obtain ⟨rfl, rfl⟩ := ret_ok (show ret (FlX.xc c ρ2) S1 = _ from e)
        exact k W2 N1
      | fl f2 =>
        cases f2 with
        | nx ρ2 => exact fun σ' sl' => ⟨W2, ρ2, rfl, N1.ab, sl', f, S', by rw [N1.st]; exact e, fun W3 N2 => k W3 (N1.trans N2)⟩
        | rt d =>
          obtain ⟨rfl, rfl⟩ := ret_ok (show ret (FlX.fl (.rt d)) S1 = _ from e)
          exact k W2 N1
        | bk d =>
          obtain ⟨rfl, rfl⟩ := ret_ok (show ret (FlX.fl (.bk d)) S1 = _ from e)
          exact k W2 N1
        | ct d =>
          obtain ⟨rfl, rfl⟩ := ret_ok (show ret (FlX.fl (.ct d)) S1 = _ from e)
          exact k W2 N1
end
end
end AG
namespace AG
open PySem PySem.Spec PyProof.Rows L2
/-! ### all defs of a text at once -/
/-- a def: its key, how many names, its body -/
abbrev Defs := List (String × List Int × Nat × Sms)
def Phi (fu : Nat) (T : Defs) : Nat → String → List D → M D
  | 0, _, _ => bad
  | l + 1, i, ds => match T.lookup i with
    | some (dv, n, b) => runB (Phi fu T l) fu n b (ds ++ dv.map D.int)
    | none => bad
/-- how a def of the text stands there: its key, what it is, its name, its statement, its names, its parameters -/
structure Df where
  key : String
  kind : FK
  name : Str
  qual : Str
  st : Stmt
  N : List Str
  ps : List Str
  dv : List Int
/-- a def's body is looked at as one out of which an exception may go, or as another -/
def chkB (G : Tb) (N : List Str) (key : String) (b : Sms) (sc : Sx) (body : List Stmt) : Bool := match b with
  | .cons (.xb ss) .nil => chkXs G N ss sc body
  | b => !(decide (key ∈ G.xs)) && chkSs G N b sc body
structure DfOk (G : Tb) (T : Defs) (d : Df) : Prop where
  fn : G.fns.lookup d.key = some (d.kind, d.ps.length - d.dv.length)
  dl : d.dv.length ≤ d.ps.length
  sc : FnScope d.N d.ps (defScope d.st)
  tb : ∃ b, T.lookup d.key = some (d.dv, d.N.length, b) ∧ chkB G d.N d.key b ⟨defScope d.st, defScope d.st⟩ (defBody d.st) = true
section
variable {P : Program} {w : World} {K : PySem.W.Frag} {mg : Str → Option Value} {base : Heap} {G : Tb} {T : Defs} {fu : Nat}
theorem start_sl {W : Wd} {ds : List D} {vs : List V} {N : List Str} (r : Reps K W ds vs) (h : vs.length ≤ N.length) : Sl K W (ds.map some ++ List.replicate (N.length - ds.length) none) (L2.start N vs) := by
  have hl := reps_len _ _ r
  unfold L2.start
  refine ⟨by simp [hl], fun i d e => ?_⟩
  by_cases hi : i < ds.length
  · rw [List.getElem?_append_left (by simpa using hi), List.getElem?_map] at e
    cases q : ds[i]? with
    | none => rw [q] at e; cases e
    | some d' =>
      rw [q] at e
      cases e
      obtain ⟨v, h1, h2⟩ := reps_get _ _ i r d q
      refine ⟨v, ?_, h2⟩
      rw [List.getElem?_append_left (by simpa [hl] using hi), List.getElem?_map, h1]
      rfl
  · rw [List.getElem?_append_right (by simpa using hi), List.getElem?_replicate] at e
    split at e <;> cases e
/-- the table's words at level l -/
def Words (P : Program) (w : World) (K : PySem.W.Frag) (mg : Str → Option Value) (base : Heap) (G : Tb) (Φ : String → List D → M D) (l : Nat) : Prop :=
  ∀ (i : String) (q : FK) (n : Nat), G.fns.lookup i = some (q, n) → ∃ f, FnW P w K mg base (2 * l) f (spF K n (Φ i)) ∧ AtK K mg i f q
def WordsX (P : Program) (w : World) (K : PySem.W.Frag) (mg : Str → Option Value) (base : Heap) (G : Tb) (Φ : String → List D → M D) (l : Nat) : Prop :=
  ∀ (i : String) (q : FK) (n : Nat), G.fns.lookup i = some (q, n) → i ∈ G.xs → ∃ f, FnW P w K mg base (2 * l) f (spX K mg n (Φ i)) ∧ AtK K mg i f q
theorem room5 {k : Nat} {A : Around} (r : Room k A) : A.units + 65 < cLine := by have := r.un; omega
/-- what of the module a text leans on -/
structure Env9 (K : PySem.W.Frag) (mg : Str → Option Value) (G : Tb) : Prop where
  hb : ∀ x ∈ G.bts, mg x = none
  hc : ∀ (x : Str) (c : CV), (x, c) ∈ G.cs → CvOk (mg x) c
  fl : ∀ (c f : String), (c, f) ∈ G.fls → ∃ C, ClsT K c C ∧ NoAttr K C (Str.ofString f)
  xt : ExcTb K mg G
  gt : ∀ (x : String) (is : List Int), (x, is) ∈ G.gts → GtOk K mg x is
theorem FnG.weak {f : Addr} {fd : FuncData} {ps : List Str} {k : Nat} {sp sp' : Sp} (F : FnG P w K mg base k f fd ps sp) (h : ∀ vs H Q E, sp' vs H Q E → sp vs H Q E) : FnG P w K mg base k f fd ps sp' :=
  ⟨fun vs H Q E z => F.arity vs H Q E (h _ _ _ _ z), fun A outer s H args us vs Q E g r e b rv z => F.go A outer s H args us vs Q E g r e b rv (h _ _ _ _ z)⟩
theorem runB_F {Φ : String → List D → M D} {n : Nat} {b : Sms} (h : ∀ ss, b ≠ .cons (.xb ss) .nil) : runB Φ fu n b = runF Φ fu n b := by
  unfold runB
  split
  · exact absurd rfl (h _)
  · rfl
theorem def_step {d : Df} {l : Nat} {f : Addr} {fd : FuncData} (F : FunA K d.name d.qual d.st f fd) (ok : DfOk G T d) (h9 : Env9 K mg G)
    (ih : Words P w K mg base G (Phi fu T l) l) (ihX : WordsX P w K mg base G (Phi fu T l) l) : ∃ b, T.lookup d.key = some (d.dv, d.N.length, b) ∧ FnG P w K mg base (2 * l + 2) f fd d.ps (spF K d.ps.length (runB (Phi fu T l) fu d.N.length b)) ∧
      (d.key ∈ G.xs → FnG P w K mg base (2 * l + 2) f fd d.ps (spX K mg d.ps.length (runB (Phi fu T l) fu d.N.length b))) := by
  obtain ⟨b, hT, hchk⟩ := ok.tb
  refine ⟨b, hT, ?_⟩
  have hps : d.ps.length ≤ d.N.length := by
    have := congrArg List.length ok.sc.pre
    rw [List.length_take] at this
    omega
  unfold chkB at hchk
  split at hchk
  · rename_i ss
    have key : FnG P w K mg base (2 * l + 2) f fd d.ps (spX K mg d.ps.length (runB (Phi fu T l) fu d.N.length (.cons (.xb ss) .nil))) := by
      refine g_fnX (k := 2 * l + 1) F ok.sc (fun vs H Q E h => h.1) ?_
      rintro cdv A outer s H vs Q E hgd hr ⟨hlen, W, ds, rfl, A0, r, alt⟩
      refine ⟨tSX K mg d.N.length (fun cls d _ H => E cls d H) (exsX (Phi fu T l) fu ss), ?_, ?_⟩
      · refine sndXSs (X := (cxOf (L2.CX P w) P w K mg base d.N d.qual (defScope d.st) f cdv A outer s W.H E)) ss ⟨defScope d.st, defScope d.st⟩ _ _ ?_ hchk
        have g0 : Good G (Phi fu T l) d.N ⟨defScope d.st, defScope d.st⟩ (cxOf (L2.CX P w) P w K mg base d.N d.qual (defScope d.st) f cdv A outer s W.H E).nox :=
          { hN := rfl, nd := ok.sc.nd, hs := rfl, kd := ok.sc.kind, calm := rfl, fn := fun _ _ => rfl, xe := rfl, gd := hgd, hu := hr.units, hu5 := room5 hr, bt := h9.hb, cs := h9.hc,
            ft := fun j q n hj => let ⟨f', F', h1⟩ := ih j q n hj; ⟨f', 2 * l, F', hr, h1⟩, fl := h9.fl, gt := h9.gt }
        exact ⟨g0, takes_of rfl rfl rfl rfl, rfl, rfl, h9.xt, fun j q n hj hx => let ⟨f', F', h1⟩ := ihX j q n hj hx; ⟨f', 2 * l, F', hr, h1⟩⟩
      · rcases alt with ⟨dd, S', e, k⟩ | ⟨c, S', e, k⟩
        · change runX (Phi fu T l) fu d.N.length ss ds W.S = _ at e
          unfold runX at e
          obtain ⟨fl, S1, e1, e2⟩ := bnd_ok e
          refine ⟨W, _, rfl, A0, start_sl r (by omega), fl, S1, noX_ok e1, fun W' N => ?_⟩
          cases fl with
          | xc c ρ' => cases e2
          | fl fl =>
            cases fl with
            | nx ρ' =>
              obtain ⟨rfl, rfl⟩ := ret_ok (show ret D.non S1 = _ from e2)
              exact fun σ' _ => k W' _ N (by simp only [Rep])
            | rt x =>
              obtain ⟨rfl, rfl⟩ := ret_ok (show ret x S1 = _ from e2)
              exact fun v rv => k W' v N rv
            | bk ρ' => cases e2
            | ct ρ' => cases e2
        · change runX (Phi fu T l) fu d.N.length ss ds W.S = _ at e
          unfold runX at e
          rcases bnd_exc e with e1 | ⟨fl, S1, e1, e2⟩
          · exact (noX_exc e1).elim
          · refine ⟨W, _, rfl, A0, start_sl r (by omega), fl, S1, noX_ok e1, fun W' N => ?_⟩
            cases fl with
            | xc c' ρ' =>
              have e2 : Rs.exc c' S1 = Rs.exc (α := D) c S' := e2
              cases e2
              exact fun σ' C _ _ hC => k W' C N hC
            | fl fl =>
              cases fl with
              | nx ρ' => cases e2
              | rt x => cases e2
              | bk ρ' => cases e2
              | ct ρ' => cases e2
    exact ⟨key.weak fun vs H Q E h => spX_of h, fun _ => key⟩
  · rename_i hne
    obtain ⟨hx, hchk⟩ := and2 hchk
    have hx := of_decide_eq_false (not_b hx)
    refine ⟨?_, fun z => absurd z hx⟩
    rw [runB_F (fun ss z => hne ss z)]
    refine g_fn (k := 2 * l + 1) F ok.sc (fun vs H Q E h => h.1) ?_
    rintro cdv A outer s H vs Q E hgd hr ⟨hlen, W, ds, rfl, A0, r, dd, S', e, k⟩
    refine ⟨tS K (exs (Phi fu T l) fu b), ?_, ?_⟩
    · refine sndSs (X := (cxOf (L2.CX P w) P w K mg base d.N d.qual (defScope d.st) f cdv A outer s W.H E).nox) b ⟨defScope d.st, defScope d.st⟩ _ ?_ hchk
      exact { hN := rfl, nd := ok.sc.nd, hs := rfl, kd := ok.sc.kind, calm := rfl, fn := fun _ _ => rfl, xe := rfl, gd := hgd, hu := hr.units, hu5 := room5 hr, bt := h9.hb, cs := h9.hc,
              ft := fun j q n hj => let ⟨f', F', h1⟩ := ih j q n hj; ⟨f', 2 * l, F', hr, h1⟩, fl := h9.fl, gt := h9.gt }
    · unfold runF at e
      obtain ⟨fl, S1, e1, e2⟩ := bnd_ok e
      refine ⟨W, _, rfl, A0, start_sl r (by omega), fl, S1, e1, fun W' N => ?_⟩
      cases fl with
      | nx ρ' =>
        obtain ⟨rfl, rfl⟩ := ret_ok (show ret D.non S1 = _ from e2)
        exact fun σ' _ => k W' _ N (by simp only [Rep])
      | rt x =>
        obtain ⟨rfl, rfl⟩ := ret_ok (show ret x S1 = _ from e2)
        exact fun v rv => k W' v N rv
      | bk ρ' => cases e2
      | ct ρ' => cases e2
/-- where each def stands -/
structure Stands (K : PySem.W.Frag) (mg : Str → Option Value) (d : Df) : Prop where
  ex : ∃ f fd es, FunA K d.name d.qual d.st f fd ∧ AtK K mg d.key f d.kind ∧ Vals (d.dv.map V.int) es ∧ Binds K fd d.ps es ∧ (d.key = "law" → ∀ us : List Value, us.length = d.ps.length → bindArgs fd ⟨us, []⟩ = pure (d.ps.zip us))
theorem reps_dv {W : Wd} : ∀ l : List Int, Reps K W (l.map D.int) (l.map V.int)
  | [] => by simp only [List.map_nil, Reps]
  | x :: xs => by
    simp only [List.map_cons, Reps]
    exact ⟨_, _, rfl, by simp only [Rep], reps_dv xs⟩
/-- as it is called: its defaults filled up -/
theorem def_word {d : Df} {l : Nat} {f : Addr} {fd : FuncData} {es : List Value} (F : FunA K d.name d.qual d.st f fd) (ok : DfOk G T d) (h9 : Env9 K mg G)
    (hd : Vals (d.dv.map V.int) es) (hb : Binds K fd d.ps es) (ih : Words P w K mg base G (Phi fu T l) l) (ihX : WordsX P w K mg base G (Phi fu T l) l) : FnW P w K mg base (2 * l + 2) f (spF K (d.ps.length - d.dv.length) (Phi fu T (l + 1) d.key)) ∧
      (d.key ∈ G.xs → FnW P w K mg base (2 * l + 2) f (spX K mg (d.ps.length - d.dv.length) (Phi fu T (l + 1) d.key))) := by
  obtain ⟨b, hT, hF, hX⟩ := def_step (fu := fu) F ok h9 ih ihX
  have hl := ok.dl
  refine ⟨hF.word hb hd ?_, fun hx => (hX hx).word hb hd ?_⟩
  · rintro vs H Q E ⟨hlen, W, ds, rfl, A, r, dd, S', e, k⟩
    refine ⟨by rw [List.length_append, List.length_map, hlen]; omega, W, ds ++ d.dv.map D.int, rfl, A, reps_app _ _ _ _ r (reps_dv _), dd, S', ?_, k⟩
    have e' := e
    simp only [Phi, hT] at e'
    exact e'
  · rintro vs H Q E ⟨hlen, W, ds, rfl, A, r, alt⟩
    refine ⟨by rw [List.length_append, List.length_map, hlen]; omega, W, ds ++ d.dv.map D.int, rfl, A, reps_app _ _ _ _ r (reps_dv _), ?_⟩
    simp only [Phi, hT] at alt
    exact alt
theorem defs_all (ds : List Df) (hG : ∀ (i : String) (q : FK) (n : Nat), G.fns.lookup i = some (q, n) → ∃ d ∈ ds, d.key = i) (ok : ∀ d ∈ ds, DfOk G T d) (hs : ∀ d ∈ ds, Stands K mg d)
    (h9 : Env9 K mg G) : ∀ l, Words P w K mg base G (Phi fu T l) l ∧ WordsX P w K mg base G (Phi fu T l) l
  | 0 => by
    constructor
    · intro i q n hi
      obtain ⟨d, hd, rfl⟩ := hG i q n hi
      obtain ⟨f, fd, es, F, hm, _⟩ := (hs d hd).ex
      have o := ok d hd
      have e := o.fn
      rw [hi] at e
      cases e
      refine ⟨f, ⟨?_⟩, hm⟩
      rintro A outer s H us vs Q E _ _ _ _ _ ⟨_, W, ds', _, _, _, dd, S', e, _⟩
      cases e
    · intro i q n hi _
      obtain ⟨d, hd, rfl⟩ := hG i q n hi
      obtain ⟨f, fd, es, F, hm, _⟩ := (hs d hd).ex
      have o := ok d hd
      have e := o.fn
      rw [hi] at e
      cases e
      refine ⟨f, ⟨?_⟩, hm⟩
      rintro A outer s H us vs Q E _ _ _ _ _ ⟨_, W, ds', _, _, _, ⟨dd, S', e, _⟩ | ⟨dd, S', e, _⟩⟩
      · cases e
      · cases e
  | l + 1 => by
    obtain ⟨ih, ihX⟩ := defs_all ds hG ok hs h9 l
    constructor
    · intro i q n hi
      obtain ⟨d, hd, rfl⟩ := hG i q n hi
      obtain ⟨f, fd, es, F, hm, hv, hb, _⟩ := (hs d hd).ex
      have o := ok d hd
      have e := o.fn
      rw [hi] at e
      cases e
      exact ⟨f, (def_word F o h9 hv hb ih ihX).1, hm⟩
    · intro i q n hi hx
      obtain ⟨d, hd, rfl⟩ := hG i q n hi
      obtain ⟨f, fd, es, F, hm, hv, hb, _⟩ := (hs d hd).ex
      have o := ok d hd
      have e := o.fn
      rw [hi] at e
      cases e
      exact ⟨f, (def_word F o h9 hv hb ih ihX).2 hx, hm⟩
end
/-! ### a law's own call -/
theorem g_law {P : Program} {w : World} {K : PySem.W.Frag} {mg mb : Str → Option Value} {k : Nat} {fa a : Addr} {fd : FuncData} {x : Str} {sp : Sp} {s1 : Shared} {vs : List Value} {ns : List Int}
    (kin : K.In s1.heap) (glo : s1.heap.Ns mainGlobals mg) (blt : s1.heap.Ns builtinsNs mb) (boot : ∀ x : Str, x ≠ "__name__" → mb x = bootBuiltins x) (lim : s1.heap.NoLimit) (gens : s1.gens = #[])
    (obj : s1.heap.get? a = some { cls := .type "list", data := .seq vs.toArray }) (hints : IntsAre vs ns) (few : ns.length ≤ sizeLine) (room : Room k callerA)
    (F : ∀ base : Heap, K.In base → base.Ns mainGlobals mg → FnG P w K mg base k fa fd [x] sp) (bind : ∀ (s : Shared) (u : Value), BindsTo s fd ⟨[u], []⟩ [(x, u)])
    (word : ∀ H : Hp, Only H → SqF K H a (ns.map V.int) → sp [.ref a] H (fun v _ => v = .bl true) E0) :
    codeAny (model P w) callerA (.call (.ref fa) ⟨[.ref a], []⟩) (fun r s' => r = .ok (.ret (.bool true)) ∧ OldK s1.heap s'.heap ∧ s'.os = s1.os ∧ AllBare s'.gens) s1 := by
  have rv := vals_ints hints
  have main : ∀ H : Hp, Only H → SqF K H a (ns.map V.int) → HOk P w H s1.heap → (∀ b u, H b = some u → b = a ∧ K.lookup a = none) →
      codeAny (model P w) callerA (.call (.ref fa) ⟨[.ref a], []⟩) (fun r s' => r = .ok (.ret (.bool true)) ∧ OldK s1.heap s'.heap ∧ s'.os = s1.os ∧ AllBare s'.gens) s1 := by
    intro H only seq held at_a
    -- a dict or an object of the module is no tracked one
    have free : ∀ {b : Addr} {o : Obj}, s1.heap.get? b = some o → (∀ its n, o.data ≠ .seq its n) → H b = none := by
      intro b o e nd
      cases q : H b with
      | none => rfl
      | some u =>
        obtain ⟨rfl, _⟩ := at_a b u q
        rw [obj] at e
        cases e
        exact absurd rfl (nd _ _)
    have keepNs : ∀ {b : Addr} {m : Str → Option Value}, s1.heap.Ns b m → (hidT s1.heap H).Ns b m := by
      rintro b m ⟨o, es, ep, e, d, r⟩
      exact ⟨o, es, ep, hidT_get e (free e (fun its n z => by rw [d] at z; cases z)), d, r⟩
    have keepK : K.In (hidT s1.heap H) := by
      intro b o e
      refine hidT_get (kin b o e) ?_
      cases q : H b with
      | none => rfl
      | some u =>
        obtain ⟨rfl, z⟩ := at_a b u q
        rw [z] at e
        cases e
    have m0 : Mod K mg (hidT s1.heap H) := by
      obtain ⟨mc, h1, h2⟩ := lim
      exact ⟨keepK, keepNs glo, ⟨mb, keepNs blt, boot⟩, mc, keepNs h1, h2⟩
    have noFr : ∀ b ∈ frs [], H b = none := fun b hb => nomatch hb
    have e0 : Env0 P w K mg (hidT s1.heap H) callerA [] s1 H :=
      { frames := rfl, mod := m0, bs := fun b o e => of_hidT e, bsz := Nat.le_of_eq (hidT_size _ _), funs := trivial, frf := noFr, hok := held, bare := .of_eq gens }
    have run := (F _ keepK (keepNs glo)).go callerA [] s1 H ⟨[.ref a], []⟩ [.ref a] [.ref a] (fun v _ => v = .bl true) E0 rfl room e0 (bind s1 (.ref a)) (.cons rfl .nil) (word H only seq)
    refine codeAny_mono run ?_
    intro res s' h
    match res, h with
    | .error _, h => exact (cx_e0 h).elim
    | .ok .next, h => exact h.elim
    | .ok .brk, h => exact h.elim
    | .ok .cont, h => exact h.elim
    | .ok (.ret u), ⟨v, H', os, bare, un, held', rel, q⟩ =>
      have q : v = .bl true := q
      subst q
      cases (show u = Value.bool true from rel)
      refine ⟨rfl, OldK.of_keep ?_, os, bare⟩
      intro b o e
      cases q : H b with
      | none => exact un.keep b o e q (fun z => nomatch z) (fun z => nomatch z)
      | some u =>
        rcases only b with z | ⟨ob, xs, z⟩
        · rw [q] at z
          cases z
        · obtain ⟨e1, _⟩ := held b _ z
          obtain ⟨e2, _⟩ := held' b _ (un.frzs b ob _ z)
          rw [e] at e1
          cases e1
          exact e2
  cases hk : K.lookup a with
  | some o =>
    have e := kin a o hk
    rw [obj] at e
    cases e
    have sq : SqL K (fun _ => none) a (ns.map V.int) := .inr ⟨_, vs.toArray, _, hk, rfl, rfl, rfl, by rw [List.size_toArray, hints.length]; exact few, by simpa using rv⟩
    exact main (fun _ => none) (fun _ => .inl rfl) (.inr ⟨sq, _, _, hk⟩) (fun b u z => nomatch (show (none : Option HO) = some u from z)) (fun b u z => nomatch (show (none : Option HO) = some u from z))
  | none =>
    have one : ∀ b u, (upd (fun _ => none) a (.frz { cls := .type "list", data := .seq vs.toArray } (.lst (ns.map V.int)))) b = some u → b = a ∧ u = .frz { cls := .type "list", data := .seq vs.toArray } (.lst (ns.map V.int)) := by
      intro b u z
      by_cases hb : b = a
      · subst hb
        rw [upd_same] at z
        exact ⟨rfl, (Option.some.inj z).symm⟩
      · rw [upd_ne hb] at z
        cases z
    refine main (upd (fun _ => none) a (.frz { cls := .type "list", data := .seq vs.toArray } (.lst (ns.map V.int)))) ?_ (.inl ⟨_, _, upd_same⟩) ?_ (fun b u z => ⟨(one b u z).1, hk⟩)
    · intro b
      by_cases hb : b = a
      · subst hb
        exact .inr ⟨_, _, upd_same⟩
      · exact .inl (upd_ne hb)
    · intro b u z
      obtain ⟨rfl, rfl⟩ := one b u z
      exact ⟨obj, by rw [List.length_map]; exact few, vs, _, rv, obj⟩
theorem g_walk {l : PySem.W.OpenLaw} {n k : Nat} {q : Program} {loose : List Str} {XP : (Str → Option Value) → Heap → Prop} {YP : World → Heap → Prop} {d : DefRec} {K : Params → PySem.W.Frag} {sp : World → Sp} {x : Str}
    (hn : l.most = some n) (hn2 : n ≤ sizeLine) (hdf : d.params.defaults = []) (hr : Room k callerA) (hY : ∀ (w : World) (h : Heap), YP w h → (K w.params).In h)
    (F : ∀ (w : World) (mg : Str → Option Value) (fa : Addr) (h : Heap), (K w.params).In h → h.Ns mainGlobals mg → mg d.name = some (.ref fa) →
      ∃ fd : FuncData, (∀ (s : Shared) (u : Value), BindsTo s fd ⟨[u], []⟩ [(x, u)]) ∧ ∀ base : Heap, (K w.params).In base → base.Ns mainGlobals mg → FnG l.prog w (K w.params) mg base k fa fd [x] (sp w))
    (word : ∀ (w : World) (H : Hp) (a : Addr) (ns : List Int), ns.length ≤ n → Only H → SqF (K w.params) H a (ns.map V.int) → sp w [.ref a] H (fun v _ => v = .bl true) E0) :
    PySem.W.WalkO q loose XP YP l.row.toRowW d [] (fun f vs => PySem.call f vs) := by
  apply Att.attach_call hn hdf
  intro w s0 s1 mg mb fa o pm cd doc a vs ns G Y ho hd hcd hmg hobj hints hlen hg
  have kin := hY w _ Y
  obtain ⟨fd, hb, hF⟩ := F w mg fa _ kin G.T.g hmg
  exact g_law kin G.T.g G.T.b G.T.builtins G.T.nolimit hg hobj hints (Nat.le_trans hlen hn2) hr hF hb (fun H hO hS => word w H a ns hlen hO hS)
/-- the law's word from its meaning -/
theorem law_word {K : PySem.W.Frag} {F : List D → M D} {H : Hp} {a : Addr} {ns : List Int} (only : Only H) (seq : SqF K H a (ns.map V.int)) (h : ∃ S', F [.fro (ns.map D.int)] [] = .ok (.bl true) S') : spF K 1 F [.ref a] H (fun v _ => v = .bl true) E0 := by
  obtain ⟨S', e⟩ := h
  refine ⟨rfl, ⟨H, [], [], fun _ => False⟩, [.fro (ns.map D.int)], rfl, ⟨rfl, fun i j b kd kd' xs ys h => ?_, fun k xs h => ?_, fun b z => z.elim⟩, ?_, .bl true, S', e, fun W' v _ r => rep_bl r⟩
  · simp at h
  · simp at h
  · refine reps_one ?_
    simp only [Rep]
    refine ⟨a, ns.map V.int, rfl, ?_, ?_⟩
    · exact seq
    · clear e seq
      induction ns with
      | nil => simp [Reps]
      | cons m ns ih =>
        simp only [List.map_cons, Reps]
        exact ⟨_, _, rfl, int_rep m, ih⟩
end AG
namespace AG
open PySem PySem.Spec PyProof.Rows L2
def mkG (ds : List Df) (bts : List Str) (cs : List (Str × CV)) (fls : List (String × String)) (xt : Xt) : Tb := ⟨ds.map fun d => (d.key, d.kind, d.ps.length - d.dv.length), bts, cs, fls, xt⟩
def mkT (ds : List Df) (bs : List Sms) : Defs := (ds.zip bs).map fun p => (p.1.key, p.1.dv, p.1.N.length, p.2)
/-- the statement j of the class's body -/
def clsS (st : Stmt) (j : Nat) : Stmt := match st with
  | .ClassDef (body := b) .. => b.getD j (.Pass ⟨0, 0, 0, 0⟩)
  | _ => .Pass ⟨0, 0, 0, 0⟩
/-- what is to be looked at in a def, by computation -/
def okDf (G : Tb) (d : Df) (b : Sms) : Bool := chkB G d.N d.key b ⟨defScope d.st, defScope d.st⟩ (defBody d.st)
structure Look (ds : List Df) (bs : List Sms) (bts : List Str) (cs : List (Str × CV)) (fls : List (String × String)) (xt : Xt) (d : Df) (b : Sms) : Prop where
  sc : FnScope d.N d.ps (defScope d.st)
  ok : okDf (mkG ds bts cs fls xt) d b = true
  fk : (mkG ds bts cs fls xt).fns.lookup d.key = some (d.kind, d.ps.length - d.dv.length)
  dl : d.dv.length ≤ d.ps.length
  tk : (mkT ds bs).lookup d.key = some (d.dv, d.N.length, b)
theorem dfOk_of {ds : List Df} {bts : List Str} {cs : List (Str × CV)} {fls : List (String × String)} {xt : Xt} {bs : List Sms} (hl : ds.length = bs.length) (h : ∀ (i : Nat) (d : Df) (b : Sms), ds[i]? = some d → bs[i]? = some b → Look ds bs bts cs fls xt d b) :
    ∀ d ∈ ds, DfOk (mkG ds bts cs fls xt) (mkT ds bs) d := by
  intro d hd
  obtain ⟨i, hi, rfl⟩ := List.getElem_of_mem hd
  have hb : bs[i]? = some bs[i] := List.getElem?_eq_getElem (by rw [← hl]; exact hi)
  have L := h i _ _ (List.getElem?_eq_getElem hi) hb
  exact ⟨L.fk, L.dl, L.sc, _, L.tk, L.ok⟩
theorem mkG_has {bts : List Str} {cs : List (Str × CV)} {fls : List (String × String)} {xt : Xt} : ∀ {ds : List Df} (i : String) (q : FK) (n : Nat), (mkG ds bts cs fls xt).fns.lookup i = some (q, n) → ∃ d ∈ ds, d.key = i
  | [], i, q, n, h => by cases h
  | d :: ds, i, q, n, h => by
    have h : List.lookup i ((d.key, d.kind, d.ps.length - d.dv.length) :: ds.map fun d => (d.key, d.kind, d.ps.length - d.dv.length)) = some (q, n) := h
    rw [List.lookup] at h
    cases hk : (i == d.key) with
    | true => exact ⟨d, List.mem_cons_self .., (eq_of_beq hk).symm⟩
    | false =>
      rw [hk] at h
      obtain ⟨e, he, e2⟩ := mkG_has (bts := bts) (cs := cs) (fls := fls) (xt := xt) (ds := ds) i q n h
      exact ⟨e, List.mem_cons_of_mem _ he, e2⟩
section
variable {K : PySem.W.Frag} {h : Heap} {mg : Str → Option Value}
/-- how a def's values are bound -/
structure BindOk (K : PySem.W.Frag) (d : Df) (dV kV : Value) (fd : FuncData) : Prop where
  ex : ∃ es, Vals (d.dv.map V.int) es ∧ Binds K fd d.ps es ∧ (d.key = "law" → ∀ us : List Value, us.length = d.ps.length → bindArgs fd ⟨us, []⟩ = pure (d.ps.zip us))
theorem bind_all {d : Df} {dV kV : Value} {fd : FuncData} (h0 : d.dv = []) (h : ∀ us : List Value, us.length = d.ps.length → bindArgs fd ⟨us, []⟩ = pure (d.ps.zip us)) : BindOk K d dV kV fd := ⟨[], by rw [h0]; exact .nil, .all h, fun _ => h⟩
theorem stand_mk (X : K.In h) (G : h.Ns mainGlobals mg) {d : Df} {x : Str} {f : Addr} {oc : Value} {od an : Option Addr} {osl : Array (Option Value)} {dV kV doc pm cdv ct : Value} (hkind : mg x = some (.ref f) → PySem.W.keepIn K (.ref f) = true → AtK K mg d.key f d.kind)
    (a : PySem.W.nsIn K mainGlobals x = some (some (.ref f))) (l : K.lookup f = some ⟨oc, od, .func (PySem.W.fnOf d.name d.qual (defArgs d.st) (defBody d.st) (defScope d.st) dV kV doc pm an cdv ct), osl⟩)
    (c : PySem.W.codeIn K cdv d.qual = true) (k : PySem.W.keepIn K (.ref f) = true)
    (b : BindOk K d dV kV (PySem.W.fnOf d.name d.qual (defArgs d.st) (defBody d.st) (defScope d.st) dV kV doc pm an cdv ct)) : Stands K mg d := by
  have F : FunA K d.name d.qual d.st f _ := ⟨_, _, _, _, _, _, _, _, _, _, rfl, l, c⟩
  obtain ⟨es, h1, h2, h3⟩ := b.ex
  exact ⟨f, _, es, F, hkind (PySem.W.mg_of X G a) k, h1, h2, h3⟩
theorem fls_nil : ∀ (c f : String), (c, f) ∈ ([] : List (String × String)) → ∃ C, ClsT K c C ∧ NoAttr K C (Str.ofString f) := fun _ _ h => nomatch h
end
theorem stands_nil {K : PySem.W.Frag} {mg : Str → Option Value} : ∀ d ∈ ([] : List Df), Stands K mg d := fun _ h => nomatch h
theorem stands_cons {K : PySem.W.Frag} {mg : Str → Option Value} {d : Df} {ds : List Df} (h : Stands K mg d) (hs : ∀ e ∈ ds, Stands K mg e) : ∀ e ∈ d :: ds, Stands K mg e := fun e he => by
  rcases List.mem_cons.mp he with q | q
  · rw [q]; exact h
  · exact hs e q
theorem none_nil {mg : Str → Option Value} : ∀ x ∈ ([] : List Str), mg x = none := fun _ h => nomatch h
theorem none_cons {K : PySem.W.Frag} {h : Heap} {mg : Str → Option Value} (X : K.In h) (G : h.Ns mainGlobals mg) {x : Str} {xs : List Str} (z : PySem.W.nsIn K mainGlobals x = some none) (hs : ∀ y ∈ xs, mg y = none) : ∀ y ∈ x :: xs, mg y = none := fun y hy => by
  rcases List.mem_cons.mp hy with q | q
  · rw [q]; exact PySem.W.mg_none_of X G z
  · exact hs y q
theorem cons_nil {mg : Str → Option Value} : ∀ (x : Str) (c : CV), (x, c) ∈ ([] : List (Str × CV)) → CvOk (mg x) c := fun _ _ h => nomatch h
/-! exceptions and written tuples of the module -/
theorem all_nil {p : String → Prop} : ∀ c ∈ ([] : List String), p c := fun _ h => nomatch h
theorem all_cons {p : String → Prop} {x : String} {xs : List String} (h : p x) (hs : ∀ c ∈ xs, p c) : ∀ c ∈ x :: xs, p c := fun c hc => by
  rcases List.mem_cons.mp hc with q | q
  · rw [q]; exact h
  · exact hs c q
section
variable {K : PySem.W.Frag} {h : Heap} {mg : Str → Option Value}
theorem gt_nil : ∀ (x : String) (is : List Int), (x, is) ∈ ([] : List (String × List Int)) → GtOk K mg x is := fun _ _ h => nomatch h
end
def isXb : Sms → Bool
  | .cons (.xb _) .nil => true
  | _ => false
theorem phi_F {T : Defs} {fu l n : Nat} {i : String} {b : Sms} (h : T.lookup i = some ([], n, b)) (hb : isXb b = false) : Phi fu T (l + 1) i = runF (Phi fu T l) fu n b := by
  funext ds
  simp only [Phi, h, List.map_nil, List.append_nil]
  rw [runB_F]
  intro ss z
  rw [z] at hb
  cases hb
/-- the law's def, at the level above its words -/
theorem end_of {P : Program} {w : World} {K : PySem.W.Frag} {mg : Str → Option Value} {ds : List Df} {bs : List Sms} {bts : List Str} {cs : List (Str × CV)} {fls : List (String × String)} {xt : Xt} {fu lv : Nat} {fa : Addr} {dl : Df} {x : Str}
    (hl : ds.length = bs.length) (lk : ∀ (i : Nat) (d : Df) (b : Sms), ds[i]? = some d → bs[i]? = some b → Look ds bs bts cs fls xt d b) (hdl : dl ∈ ds) (hps : dl.ps = [x]) (hdv : dl.dv = []) (hkey : dl.key = "law") (hkind : dl.kind = .fn)
    (st : ∀ d ∈ ds, Stands K mg d) (hb : ∀ x ∈ bts, mg x = none) (hc : ∀ (x : Str) (c : CV), (x, c) ∈ cs → CvOk (mg x) c) (hfl : ∀ (c f : String), (c, f) ∈ fls → ∃ C, ClsT K c C ∧ NoAttr K C (Str.ofString f)) (hx : ExcTb K mg (mkG ds bts cs fls xt)) (hgt : ∀ (x : String) (is : List Int), (x, is) ∈ xt.gts → GtOk K mg x is) (hfa : mg (Str.ofString dl.key) = some (.ref fa)) :
    ∃ fd : FuncData, (∀ (s : Shared) (u : Value), BindsTo s fd ⟨[u], []⟩ [(x, u)]) ∧ ∀ base : Heap, K.In base → base.Ns mainGlobals mg → FnG P w K mg base (2 * lv + 2) fa fd [x] (spF K 1 (Phi fu (mkT ds bs) (lv + 1) dl.key)) := by
  obtain ⟨f, fd, es, F, hm, _, _, hbd⟩ := (st dl hdl).ex
  rw [hkind] at hm
  have e : f = fa := by
    have := hm.1.symm.trans hfa
    cases this
    rfl
  subst e
  refine ⟨fd, fun s u => ?_, fun base hK hG => ?_⟩
  · have q := hbd hkey [u] (by rw [hps]; rfl)
    rw [hps] at q
    exact .of_eq q
  · have W := defs_all (P := P) (w := w) (base := base) (fu := fu) (T := mkT ds bs) ds mkG_has (dfOk_of hl lk) st ⟨hb, hc, hfl, hx, hgt⟩ lv
    obtain ⟨b, hT, q, _⟩ := def_step (fu := fu) F (dfOk_of hl lk dl hdl) ⟨hb, hc, hfl, hx, hgt⟩ W.1 W.2
    rw [hps] at q
    have e : Phi fu (mkT ds bs) (lv + 1) dl.key = runB (Phi fu (mkT ds bs) lv) fu dl.N.length b := by
      funext ds'
      simp only [Phi, hT, hdv, List.map_nil, List.append_nil]
    rw [e]
    exact q
end AG
namespace AG
open PySem
/-! ### what a run comes to -/
def Ok {α : Type} (m : M α) (S : Sto) (P : α → Sto → Prop) : Prop := ∃ a S', m S = .ok a S' ∧ P a S'
theorem Ok.mono {α : Type} {m : M α} {S : Sto} {P Q : α → Sto → Prop} (h : Ok m S P) (k : ∀ a S', P a S' → Q a S') : Ok m S Q := let ⟨a, S', e, p⟩ := h; ⟨a, S', e, k a S' p⟩
theorem ok_ret' {α : Type} {a : α} {S : Sto} {P : α → Sto → Prop} : Ok (ret a) S P = P a S := by
  apply propext
  constructor
  · rintro ⟨b, S', e, p⟩; cases e; exact p
  · intro p; exact ⟨a, S, rfl, p⟩
theorem ok_bnd {α β : Type} {m : M α} {f : α → M β} {S : Sto} {P : β → Sto → Prop} : Ok (bnd m f) S P = Ok m S fun a S' => Ok (f a) S' P := by
  apply propext
  constructor
  · rintro ⟨b, S', e, p⟩
    obtain ⟨a, S1, e1, e2⟩ := bnd_ok e
    exact ⟨a, S1, e1, b, S', e2, p⟩
  · rintro ⟨a, S1, e1, b, S', e2, p⟩
    exact ⟨b, S', bnd_mk e1 e2, p⟩
theorem ok_need {α : Type} {c : Bool} {m : M α} {S : Sto} {P : α → Sto → Prop} : Ok (need c m) S P = (c = true ∧ Ok m S P) := by
  cases c with
  | true => simp [need]
  | false =>
    apply propext
    constructor
    · rintro ⟨_, _, e, _⟩; cases e
    · rintro ⟨h, _⟩; cases h
theorem getV_at {ρ : Env} {i : Nat} {d : D} {S : Sto} (h : ρ[i]? = some (some d)) : getV ρ i S = .ok d S := by
  unfold getV
  rw [h]
  rfl
theorem getV_in {ρ : Env} {i : Nat} {d : D} {S S' : Sto} (e : getV ρ i S = .ok d S') : ρ[i]? = some (some d) ∧ S = S' := by
  unfold getV at e
  cases h : ρ[i]? with
  | none => rw [h] at e; cases e
  | some o =>
    rw [h] at e
    cases o with
    | none => cases e
    | some d' =>
      obtain ⟨rfl, rfl⟩ := ret_ok e
      exact ⟨rfl, rfl⟩
theorem ok_getV {ρ : Env} {i : Nat} {S : Sto} {P : D → Sto → Prop} : Ok (getV ρ i) S P = ∃ d, ρ[i]? = some (some d) ∧ P d S := by
  apply propext
  constructor
  · rintro ⟨b, S', e, p⟩
    obtain ⟨h, rfl⟩ := getV_in e
    exact ⟨b, h, p⟩
  · rintro ⟨d, e, p⟩
    exact ⟨d, S, getV_at e, p⟩
theorem getC_at {k : Nat} {xs : List D} {S : Sto} (h : S[k]? = some (some xs)) : getC k S = .ok xs S := by
  unfold getC
  rw [h]
theorem ok_getC {k : Nat} {S : Sto} {P : List D → Sto → Prop} : Ok (getC k) S P = ∃ xs, S[k]? = some (some xs) ∧ P xs S := by
  apply propext
  constructor
  · rintro ⟨b, S', e, p⟩
    unfold getC at e
    split at e
    · rename_i xs h
      cases e
      exact ⟨_, h, p⟩
    · cases e
  · rintro ⟨xs, e, p⟩
    exact ⟨xs, S, getC_at e, p⟩
theorem ok_setC {k : Nat} {ys : List D} {S : Sto} {P : Unit → Sto → Prop} : Ok (setC k ys) S P = ∃ xs, S[k]? = some (some xs) ∧ P () (S.set k (some ys)) := by
  apply propext
  constructor
  · rintro ⟨b, S', e, p⟩
    unfold setC at e
    split at e
    · rename_i xs h
      cases e
      exact ⟨_, h, p⟩
    · cases e
  · rintro ⟨xs, e, p⟩
    refine ⟨(), _, ?_, p⟩
    unfold setC
    rw [e]
theorem ok_opt {α : Type} {o : Option α} {S : Sto} {P : α → Sto → Prop} : Ok (opt o) S P = ∃ a, o = some a ∧ P a S := by
  apply propext
  cases o with
  | none => constructor <;> rintro ⟨_, h⟩ <;> first | (obtain ⟨_, e, _⟩ := h; cases e) | (cases h.1)
  | some a =>
    constructor
    · rintro ⟨b, S', e, p⟩; cases e; exact ⟨a, rfl, p⟩
    · rintro ⟨b, e, p⟩; cases e; exact ⟨a, S, rfl, p⟩
theorem ok_newC {xs : List D} {S : Sto} {P : D → Sto → Prop} : Ok (newC xs) S P = P (.ref S.length) (S ++ [some xs]) := by
  apply propext
  constructor
  · rintro ⟨b, S', e, p⟩; cases e; exact p
  · intro p; exact ⟨_, _, rfl, p⟩
theorem ok_mkLf {xs : List D} {S : Sto} {P : D → Sto → Prop} : Ok (mkL false xs) S P = P (.lst xs) S := ok_ret'
theorem ok_mkLt {xs : List D} {S : Sto} {P : D → Sto → Prop} : Ok (mkL true xs) S P = P (.ref S.length) (S ++ [some xs]) := ok_newC
theorem ok_ite {α : Type} {c : Bool} {m n : M α} {S : Sto} {P : α → Sto → Prop} : Ok (if c = true then m else n) S P = ((c = true → Ok m S P) ∧ (c = false → Ok n S P)) := by
  apply propext
  cases c <;> simp
/-- a loop by what holds between its turns -/
theorem ok_forL {tg : Tg} {b : Env → M Fl} {P : Fl → Sto → Prop} (I : Nat → Env → Sto → Prop) : ∀ (xs : List D) (ρ : Env) (S : Sto) (i : Nat), I i ρ S →
    (∀ j x ρ S, xs[j]? = some x → I (i + j) ρ S → ∃ ρ2, asg tg x ρ = some ρ2 ∧ Ok (b ρ2) S fun f S' => match f with
      | .nx ρ3 => I (i + j + 1) ρ3 S'
      | .ct ρ3 => I (i + j + 1) ρ3 S'
      | .bk ρ3 => P (.nx ρ3) S'
      | .rt d => P (.rt d) S') →
    (∀ ρ S, I (i + xs.length) ρ S → P (.nx ρ) S) → Ok (forL tg b xs ρ) S P
  | [], ρ, S, i, h0, _, hd => by
    simp only [forL, ok_ret']
    exact hd ρ S h0
  | x :: xs, ρ, S, i, h0, ht, hd => by
    obtain ⟨ρ2, e2, h2⟩ := ht 0 x ρ S rfl h0
    simp only [forL, ok_bnd, ok_opt]
    refine ⟨ρ2, e2, h2.mono fun f S' hf => ?_⟩
    have rest : ∀ ρ3 S', I (i + 1) ρ3 S' → Ok (forL tg b xs ρ3) S' P := fun ρ3 S' h3 =>
      ok_forL I xs ρ3 S' (i + 1) h3 (fun j y ρ S hj hI => by
        have := ht (j + 1) y ρ S (by simpa using hj) (by rw [show i + (j + 1) = i + 1 + j by omega]; exact hI)
        rw [show i + (j + 1) = i + 1 + j by omega] at this
        exact this) (fun ρ S hI => hd ρ S (by rw [List.length_cons, show i + (xs.length + 1) = i + 1 + xs.length by omega]; exact hI))
    cases f with
    | nx ρ3 => exact rest ρ3 S' hf
    | ct ρ3 => exact rest ρ3 S' hf
    | bk ρ3 => simp only [ok_ret']; exact hf
    | rt d => simp only [ok_ret']; exact hf
theorem ok_for {tg : Tg} {b : Env → M Fl} {P : Fl → Sto → Prop} {xs : List D} {ρ : Env} {S : Sto} (I : Nat → Env → Sto → Prop) (h0 : I 0 ρ S)
    (ht : ∀ j x ρ S, xs[j]? = some x → I j ρ S → ∃ ρ2, asg tg x ρ = some ρ2 ∧ Ok (b ρ2) S fun f S' => match f with
      | .nx ρ3 => I (j + 1) ρ3 S'
      | .ct ρ3 => I (j + 1) ρ3 S'
      | .bk ρ3 => P (.nx ρ3) S'
      | .rt d => P (.rt d) S')
    (hd : ∀ ρ S, I xs.length ρ S → P (.nx ρ) S) : Ok (forL tg b xs ρ) S P :=
  ok_forL I xs ρ S 0 h0 (fun j x ρ S hx hI => by simpa only [Nat.zero_add] using ht j x ρ S hx (by simpa only [Nat.zero_add] using hI)) (fun ρ S h => hd ρ S (by simpa only [Nat.zero_add] using h))
/-- a comprehension without a test -/
theorem ok_lcL {elt : Env → M D} {tg : Tg} {ρ : Env} {P : List D → Sto → Prop} (I : Nat → List D → Sto → Prop) : ∀ (xs acc : List D) (S : Sto) (i : Nat), I i acc S → acc.length = i → i + xs.length ≤ 1000000 →
    (∀ j x acc S, xs[j]? = some x → acc.length = i + j → I (i + j) acc S → ∃ ρ2, asg tg x ρ = some ρ2 ∧ Ok (elt ρ2) S fun y S' => I (i + j + 1) (acc ++ [y]) S') →
    (∀ acc S, acc.length = i + xs.length → I (i + xs.length) acc S → P acc S) → Ok (lcL elt tg (fun _ => ret true) ρ xs acc) S P
  | [], acc, S, i, h0, hl, _, _, hd => by
    simp only [lcL, ok_ret']
    exact hd acc S hl h0
  | x :: xs, acc, S, i, h0, hl, hb, ht, hd => by
    obtain ⟨ρ2, e2, h2⟩ := ht 0 x acc S rfl hl h0
    rw [List.length_cons] at hb
    simp only [lcL]
    rw [ok_bnd, ok_opt]
    refine ⟨ρ2, e2, ?_⟩
    rw [ok_bnd, ok_ret', if_pos rfl, ok_bnd]
    refine h2.mono fun y S' hy => ?_
    rw [ok_need]
    refine ⟨by unfold small; rw [hl]; exact decide_eq_true (by omega), ?_⟩
    refine ok_lcL I xs (acc ++ [y]) S' (i + 1) hy (by simp [hl]) (by omega) (fun j z acc S hj hl hI => ?_) (fun acc S hl hI => hd acc S (by rw [hl, List.length_cons]; omega) (by rw [List.length_cons, show i + (xs.length + 1) = i + 1 + xs.length by omega]; exact hI))
    have := ht (j + 1) z acc S (by simpa using hj) (by rw [hl]; omega) (by rw [show i + (j + 1) = i + 1 + j by omega]; exact hI)
    rw [show i + (j + 1) = i + 1 + j by omega] at this
    exact this
theorem ok_lc {elt : Env → M D} {tg : Tg} {ρ : Env} {P : List D → Sto → Prop} {xs : List D} {S : Sto} (I : Nat → List D → Sto → Prop) (h0 : I 0 [] S) (hb : xs.length ≤ 1000000)
    (ht : ∀ j x acc S, xs[j]? = some x → acc.length = j → I j acc S → ∃ ρ2, asg tg x ρ = some ρ2 ∧ Ok (elt ρ2) S fun y S' => I (j + 1) (acc ++ [y]) S')
    (hd : ∀ acc S, acc.length = xs.length → I xs.length acc S → P acc S) : Ok (lcL elt tg (fun _ => ret true) ρ xs []) S P :=
  ok_lcL I xs [] S 0 h0 rfl (by omega) (fun j x acc S hx hl hI => by simpa only [Nat.zero_add] using ht j x acc S hx (by simpa using hl) (by simpa only [Nat.zero_add] using hI)) (fun acc S hl h => hd acc S (by simpa using hl) (by simpa only [Nat.zero_add] using h))
/-- a while by what holds, and a number that falls -/
theorem ok_wh {c : Env → M Bool} {b : Env → M Fl} {P : Fl → Sto → Prop} (I : Nat → Env → Sto → Prop) : ∀ (n : Nat) (m : Nat) (ρ : Env) (S : Sto), m < n → I m ρ S →
    (∀ m ρ S, I m ρ S → Ok (c ρ) S fun k S1 => if k = true then Ok (b ρ) S1 fun f S' => match f with
      | .nx ρ3 => ∃ m', m' < m ∧ I m' ρ3 S'
      | .ct ρ3 => ∃ m', m' < m ∧ I m' ρ3 S'
      | .bk ρ3 => P (.nx ρ3) S'
      | .rt d => P (.rt d) S' else P (.nx ρ) S1) → Ok (whL c b n ρ) S P
  | 0, m, ρ, S, hm, _, _ => absurd hm (Nat.not_lt_zero _)
  | n + 1, m, ρ, S, hm, h0, ht => by
    simp only [whL, ok_bnd]
    refine (ht m ρ S h0).mono fun k S1 hk => ?_
    cases k with
    | false =>
      simp only [Bool.false_eq_true, if_false, ok_ret'] at hk ⊢
      exact hk
    | true =>
      simp only [if_true, ok_bnd] at hk ⊢
      refine hk.mono fun f S2 hf => ?_
      cases f with
      | nx ρ3 =>
        obtain ⟨m', h1, h2⟩ := hf
        exact ok_wh I n m' ρ3 S2 (by omega) h2 ht
      | ct ρ3 =>
        obtain ⟨m', h1, h2⟩ := hf
        exact ok_wh I n m' ρ3 S2 (by omega) h2 ht
      | bk ρ3 => simp only [ok_ret']; exact hf
      | rt d => simp only [ok_ret']; exact hf
end AG
namespace AG
open PySem
theorem ixN_of {n j : Nat} (h : j < n) : L2.ixN n (j : Int) = some j := by
  unfold L2.ixN
  rw [if_pos (by omega), if_pos (by omega)]
  rfl
theorem atI_of {α : Type} (xs : List α) (j : Nat) : L2.atI xs (j : Int) = xs[j]? := by
  unfold L2.atI
  by_cases h : j < xs.length
  · rw [ixN_of h]; rfl
  · have : L2.ixN xs.length (j : Int) = none := by
      unfold L2.ixN
      rw [if_pos (by omega), if_neg (by omega)]
    rw [this, List.getElem?_eq_none (by omega)]
    rfl
theorem atI_0 {α : Type} (xs : List α) : L2.atI xs 0 = xs[0]? := atI_of xs 0
theorem atI_1 {α : Type} (xs : List α) : L2.atI xs 1 = xs[1]? := atI_of xs 1
theorem atI_2 {α : Type} (xs : List α) : L2.atI xs 2 = xs[2]? := atI_of xs 2
theorem atI_3 {α : Type} (xs : List α) : L2.atI xs 3 = xs[3]? := atI_of xs 3
theorem ixN_30 : L2.ixN 3 0 = some 0 := rfl
theorem ixN_31 : L2.ixN 3 1 = some 1 := rfl
theorem ixN_32 : L2.ixN 3 2 = some 2 := rfl
theorem big_of {i : Int} (h1 : -(2 ^ 199) < i) (h2 : i < 2 ^ 199) : big i = true := by
  unfold big
  apply decide_eq_true
  have : (2 : Nat) ^ 200 = 2 * 2 ^ 199 := by decide
  have h : ((2 : Int) ^ 199) = ((2 ^ 199 : Nat) : Int) := by norm_cast
  omega
end AG
namespace AG
open PySem
theorem addD_ii (i j : Int) : addD (.int i) (.int j) = ret (.int (i + j)) := rfl
theorem addD_tt (i j : List D) : addD (.tup i) (.tup j) = need (small i.length && small j.length) (ret (.tup (i ++ j))) := rfl
theorem addD_ll (i j : List D) : addD (.lst i) (.lst j) = need (small i.length && small j.length) (ret (.lst (i ++ j))) := rfl
theorem addD_fl (i j : List D) : addD (.fro i) (.lst j) = need (small i.length && small j.length) (ret (.lst (i ++ j))) := rfl
theorem subD_ii (i j : Int) : subD (.int i) (.int j) = ret (.int (i - j)) := rfl
theorem mulD_ii (i j : Int) : mulD (.int i) (.int j) = need (big i && big j) (ret (.int (i * j))) := rfl
theorem divD_ii (i j : Int) : divD (.int i) (.int j) = need (decide (0 < j) && big j) (ret (.int (i / j))) := rfl
theorem modD_ii (i j : Int) : modD (.int i) (.int j) = need (decide (0 < j)) (ret (.int (i % j))) := rfl
theorem powD_ii (i j : Int) : powD (.int i) (.int j) = need (decide (0 ≤ j) && decide (j ≤ 1000) && decide (i.natAbs < 2 ^ 64)) (ret (.int (i ^ j.toNat))) := rfl
theorem bandD_ii (i j : Int) : bandD (.int i) (.int j) = ret (.int (Builtin.bitAnd i j)) := rfl
theorem ltD_ii (i j : Int) : ltD (.int i) (.int j) = ret (decide (i < j)) := rfl
theorem leD_ii (i j : Int) : leD (.int i) (.int j) = ret (decide (i ≤ j)) := rfl
theorem isD_bb (i j : Bool) : isD (.bl i) (.bl j) = ret (decide (i = j)) := rfl
theorem eqD_ii (i j : Int) : eqD (.int i) (.int j) = ret (decide (i = j)) := rfl
theorem eqD_ss (i j : Str) : eqD (.str i) (.str j) = ret (decide (i = j)) := rfl
theorem eqD_bb (i j : Bool) : eqD (.bl i) (.bl j) = ret (decide (i = j)) := rfl
theorem items_tup (xs : List D) : itemsD (.tup xs) = ret xs := rfl
theorem items_lst (xs : List D) : itemsD (.lst xs) = ret xs := rfl
theorem items_fro (xs : List D) : itemsD (.fro xs) = ret xs := rfl
theorem items_ref (k : Nat) : itemsD (.ref k) = getC k := rfl
theorem ixD_i (a : D) (j : Int) : ixD a (.int j) = bnd (itemsD a) fun xs => opt (L2.atI xs j) := rfl
theorem setIx_ri (k : Nat) (j : Int) (v : D) : setIx (.ref k) (.int j) v = bnd (getC k) fun xs => match L2.ixN xs.length j with
    | some n => setC k (xs.set n v)
    | none => bad := rfl
theorem appD_r (k : Nat) (v : D) : appD (.ref k) v = bnd (getC k) fun xs => need (small xs.length) (setC k (xs ++ [v])) := rfl
theorem isC_r (k : Nat) : isC (.ref k) = bnd (getC k) fun _ => ret () := rfl
theorem tru_b (b : Bool) : truD (.bl b) = ret b := rfl
theorem tru_i (i : Int) : truD (.int i) = ret (i != 0) := rfl
theorem lenB_1 (a : D) : lenB [a] = bnd (itemsD a) fun xs => ret (.int xs.length) := rfl
theorem maxB_ii (i j : Int) : maxB [.int i, .int j] = ret (.int (if j > i then j else i)) := rfl
theorem minB_ii (i j : Int) : minB [.int i, .int j] = ret (.int (if j < i then j else i)) := rfl
theorem tupB_1 (a : D) : tupB [a] = bnd (itemsD a) fun xs => ret (.tup xs) := rfl
theorem lstB_1 (a : D) : lstB [a] = bnd (itemsD a) fun xs => ret (.lst xs) := rfl
theorem reprB_1 (a : D) : reprB [a] = reprD a := rfl
theorem allB_1 (xs : List D) : allB [.lst xs] = bnd (opt (allD xs)) fun k => ret (.bl k) := rfl
theorem slD_t (m : Bool) (xs : List D) (lo hi : Option Int) : slD m (.tup xs) lo hi = ret (.tup (cutD xs lo hi)) := rfl
theorem slD_l (m : Bool) (xs : List D) (lo hi : Option Int) : slD m (.lst xs) lo hi = mkL m (cutD xs lo hi) := rfl
theorem slD_f (m : Bool) (xs : List D) (lo hi : Option Int) : slD m (.fro xs) lo hi = mkL m (cutD xs lo hi) := rfl
theorem slD_r (m : Bool) (k : Nat) (lo hi : Option Int) : slD m (.ref k) lo hi = bnd (getC k) fun xs => mkL m (cutD xs lo hi) := rfl
theorem ints2_ii (i j : Int) : ints2 (.int i) (.int j) = ret (i, j) := rfl
theorem popD_ri (k : Nat) (j : Int) : popD (.ref k) (.int j) = bnd (getC k) fun xs => match xs[j.toNat]? with
    | some y => need (decide (0 ≤ j) && decide (j < 1000000)) (bnd (setC k (xs.eraseIdx j.toNat)) fun _ => ret y)
    | none => bad := rfl
theorem asg_n (i : Nat) (d : D) (ρ : Env) : asg (.name i) d ρ = some (ρ.set i (some d)) := rfl
theorem asg_t (is : List Nat) (ds : List D) (ρ : Env) : asg (.tup is) (.tup ds) ρ = AG.setAll is ds ρ := rfl
theorem asg_p (i : Nat) (is : List Nat) (d : D) (ds : List D) (ρ : Env) : asg (.pair i is) (.tup [d, .tup ds]) ρ = AG.setAll is ds (ρ.set i (some d)) := rfl
theorem b_add : binD .Add = addD := rfl
theorem b_sub : binD .Sub = subD := rfl
theorem b_mul : binD .Mult = mulD := rfl
theorem b_div : binD .FloorDiv = divD := rfl
theorem b_mod : binD .Mod = modD := rfl
theorem b_pow : binD .Pow = powD := rfl
theorem b_band : binD .BitAnd = bandD := rfl
theorem c_eq : cmpD .Eq = eqD := rfl
theorem c_ne (a b : D) : cmpD .NotEq a b = notB (eqD a b) := rfl
theorem c_lt : cmpD .Lt = ltD := rfl
theorem c_le : cmpD .LtE = leD := rfl
theorem c_gt (a b : D) : cmpD .Gt a b = ltD b a := rfl
theorem c_ge (a b : D) : cmpD .GtE a b = leD b a := rfl
theorem c_is : cmpD .Is = isD := rfl
theorem c_isn (a b : D) : cmpD .IsNot a b = notB (isD a b) := rfl
theorem ok_notB {m : M Bool} {S : Sto} {P : Bool → Sto → Prop} : Ok (notB m) S P = Ok m S fun k S' => P (!k) S' := by
  unfold notB
  rw [ok_bnd]
  congr 1
  funext k S'
  exact ok_ret'
theorem bi_len : biD .len = lenB := rfl
theorem bi_max : biD .max2 = maxB := rfl
theorem bi_min : biD .min2 = minB := rfl
theorem bi_min3 : biD .min3 = min3B := rfl
theorem minB_iii (i j k : Int) : min3B [.int i, .int j, .int k] = ret (.int (if k < (if j < i then j else i) then k else (if j < i then j else i))) := rfl
theorem bi_tup : biD .tup = tupB := rfl
theorem bi_lst : biD .lst = lstB := rfl
theorem bi_repr : biD .repr = reprB := rfl
theorem bi_all : biD .all = allB := rfl
theorem dgetF_2 {ks : List Ky} {vs : List D} {a b : Int} : dgetF (.frd ks vs) (.tup [.int a, .int b]) = opt (lookY ks vs (.t [a, b])) := rfl
theorem lset_t {xs : List D} : lsetD (.tup xs) = lsetL xs := rfl
theorem lset_l {xs : List D} : lsetD (.lst xs) = lsetL xs := rfl
theorem lset_r {k : Nat} : lsetD (.ref k) = bnd (getC k) lsetL := rfl
end AG
namespace AGL
open PySem AG
def b_rule_clock : Sms := .cons (.unp [1, 2, 3] (.var 0)) (.cons (.ife (.cmp .Eq (.ix (.var 3) (.int 0)) (.str "own")) (.cons (.ret (.bin .Mult (.var 1) (.bi .len (.cons (.ix (.var 3) (.int 1)) .nil)))) .nil) .nil) (.cons (.ret (.var 1)) .nil))
def b_clock : Sms := .cons (.set 1 (.int 1)) (.cons (.for (.name 2) (.seq (.ix (.var 0) (.int 2))) (.cons (.for (.name 3) (.seq (.var 2)) (.cons (.set 1 (.lcm "lcm" (.cons (.var 1) (.cons (.call "_rule_clock" (.cons (.var 3) .nil)) .nil)))) .nil)) .nil)) (.cons (.ret (.var 1)) .nil))
def b_rule_at : Sms := .cons (.set 3 (.ix (.ix (.var 0) (.int 2)) (.var 1))) (.cons (.for (.pair 4 [5, 6, 7]) (.enm (.sl false (.var 3) .no (.yes (.neg (.int 1))))) (.cons (.ife (.cmp .Eq (.bin .Mod (.bin .Sub (.var 2) (.var 6)) (.var 5)) (.int 0)) (.cons (.ret (.var 4)) .nil) .nil) .nil)) (.cons (.ret (.bin .Sub (.bi .len (.cons (.var 3) .nil)) (.int 1))) .nil))
def b_law_bag : Sms := .cons (.ret (.lst true (.cons (.bi .max2 (.cons (.int 0) (.cons (.bin .Sub (.var 0) (.bin .Pow (.int 10) (.int 18))) .nil))) (.cons (.var 0) (.cons (.int 0) .nil))))) .nil
def b_law_pick : Sms := .cons (.setix (.var 0) (.int 2) (.bin .Add (.ix (.var 0) (.int 2)) (.int 1))) (.cons (.ife (.cmp .Gt (.ix (.var 0) (.int 0)) (.int 0)) (.cons (.set 2 (.bin .Mod (.ix (.var 0) (.int 0)) (.var 1))) (.cons (.setix (.var 0) (.int 0) (.bin .FloorDiv (.ix (.var 0) (.int 0)) (.var 1))) (.cons (.ret (.var 2)) .nil))) .nil) (.cons (.set 3 (.bin .Mod (.bin .Add (.bin .Add (.bin .Mult (.bin .Mod (.ix (.var 0) (.int 1)) (.int 2147483629)) (.int 48271)) (.bin .Mult (.ix (.var 0) (.int 2)) (.int 69621))) (.int 12345)) (.int 2147483647))) (.cons (.set 4 (.bin .Mod (.bin .Add (.bin .Mult (.var 3) (.var 3)) (.bin .Mult (.ix (.var 0) (.int 2)) (.int 40692))) (.int 2147483587))) (.cons (.ret (.bin .Mod (.bin .FloorDiv (.bin .Add (.bin .Mult (.var 3) (.int 2147483587)) (.var 4)) (.int 32)) (.var 1))) .nil))))
def b_law_turn : Sms := .cons (.set 2 (.call "_law_pick" (.cons (.var 0) (.cons (.int 4) .nil)))) (.cons (.ife (.cmp .Lt (.var 2) (.int 2)) (.cons (.set 3 (.bin .Mult (.var 2) (.call "_law_pick" (.cons (.var 0) (.cons (.var 1) .nil))))) (.cons (.ret (.bi .tup (.cons (.lc false (.bin .Mod (.bin .Add (.var 4) (.var 3)) (.var 1)) (.name 4) [4] (.rng (.var 1)) .no) .nil))) .nil)) .nil) (.cons (.ife (.cmp .Eq (.var 2) (.int 2)) (.cons (.set 5 (.lrg true (.var 1))) (.cons (.ret (.bi .tup (.cons (.lc false (.popAt (.var 5) (.call "_law_pick" (.cons (.var 0) (.cons (.bi .len (.cons (.var 5) .nil)) .nil)))) (.name 4) [4] (.rng (.var 1)) .no) .nil))) .nil)) .nil) (.cons (.ret (.bi .tup (.cons (.lc false (.call "_law_pick" (.cons (.var 0) (.cons (.var 1) .nil))) (.name 4) [4] (.rng (.var 1)) .no) .nil))) .nil)))
def b_law_rule : Sms := .cons (.set 4 (.bin .Add (.int 1) (.bin .Mult (.call "_law_pick" (.cons (.var 0) (.cons (.int 12) .nil))) (.bin .Sub (.int 1) (.var 3))))) (.cons (.set 5 (.call "_law_pick" (.cons (.var 0) (.cons (.var 4) .nil)))) (.cons (.ife (.cmp .Eq (.call "_law_pick" (.cons (.var 0) (.cons (.int 4) .nil))) (.int 0)) (.cons (.ret (.tup (.cons (.var 4) (.cons (.var 5) (.cons (.tup (.cons (.str "own") (.cons (.bi .tup (.cons (.lc false (.call "_law_pick" (.cons (.var 0) (.cons (.var 1) .nil))) (.name 6) [6] (.rng (.bin .Add (.int 1) (.call "_law_pick" (.cons (.var 0) (.cons (.int 6) .nil))))) .no) .nil)) .nil))) .nil))))) .nil) .nil) (.cons (.set 7 (.bin .Add (.int 1) (.call "_law_pick" (.cons (.var 0) (.cons (.ix (.lst false (.cons (.int 3) (.cons (.int 12) .nil))) (.call "_law_pick" (.cons (.var 0) (.cons (.int 2) .nil)))) .nil))))) (.cons (.ret (.tup (.cons (.var 4) (.cons (.var 5) (.cons (.tup (.cons (.str "copy") (.cons (.call "_law_pick" (.cons (.var 0) (.cons (.var 2) .nil))) (.cons (.var 7) (.cons (.call "_law_turn" (.cons (.var 0) (.cons (.var 1) .nil))) .nil))))) .nil))))) .nil))))
def b_law_common : Sms := .cons (.set 2 (.bi .max2 (.cons (.var 0) (.cons (.var 1) .nil)))) (.cons (.while (.or (.cmp .Gt (.bin .Mod (.var 2) (.var 0)) (.int 0)) (.cmp .Gt (.bin .Mod (.var 2) (.var 1)) (.int 0))) (.cons (.set 2 (.bin .Add (.var 2) (.bi .max2 (.cons (.var 0) (.cons (.var 1) .nil))))) .nil)) (.cons (.ret (.var 2)) .nil))
def b_law_clock : Sms := .cons (.set 1 (.int 1)) (.cons (.for (.name 2) (.seq (.var 0)) (.cons (.for (.tup [3, 4, 5]) (.seq (.var 2)) (.cons (.set 6 (.ife (.cmp .Eq (.ix (.var 5) (.int 0)) (.str "own")) (.bin .Mult (.var 3) (.bi .len (.cons (.ix (.var 5) (.int 1)) .nil))) (.var 3))) (.cons (.ife (.cmp .LtE (.var 1) (.int 240)) (.cons (.set 1 (.call "_law_common" (.cons (.var 1) (.cons (.var 6) .nil)))) .nil) .nil) .nil))) .nil)) (.cons (.ret (.var 1)) .nil))
def b_law_tamed : Sms := .cons (.set 1 (.lst true .nil)) (.cons (.for (.tup [2, 3, 4]) (.seq (.var 0)) (.cons (.set 5 (.ix (.lst false (.cons (.int 1) (.cons (.int 1) (.cons (.int 2) (.cons (.int 3) (.cons (.int 4) (.cons (.int 4) (.cons (.int 6) (.cons (.int 6) (.cons (.int 4) (.cons (.int 3) (.cons (.int 2) (.cons (.int 6) (.cons (.int 12) .nil)))))))))))))) (.var 2))) (.cons (.app (.var 1) (.tup (.cons (.var 5) (.cons (.bin .Mod (.var 3) (.var 5)) (.cons (.ife (.cmp .Eq (.ix (.var 4) (.int 0)) (.str "own")) (.bin .Add (.sl false (.var 4) .no (.yes (.int 1))) (.tup (.cons (.sl false (.ix (.var 4) (.int 1)) .no (.yes (.int 3))) .nil))) (.var 4)) .nil))))) .nil))) (.cons (.ret (.bi .tup (.cons (.var 1) .nil))) .nil))
def b_law_web : Sms := .cons (.set 1 (.ix (.lst false (.cons (.bin .Add (.int 1) (.call "_law_pick" (.cons (.var 0) (.cons (.int 9) .nil)))) (.cons (.bin .Add (.int 2) (.call "_law_pick" (.cons (.var 0) (.cons (.int 3) .nil)))) .nil))) (.call "_law_pick" (.cons (.var 0) (.cons (.int 2) .nil))))) (.cons (.set 2 (.bin .Add (.int 1) (.call "_law_pick" (.cons (.var 0) (.cons (.int 6) .nil))))) (.cons (.set 3 (.lst true .nil)) (.cons (.for (.name 4) (.rng (.var 2)) (.cons (.set 5 (.lc false (.call "_law_rule" (.cons (.var 0) (.cons (.var 1) (.cons (.var 2) (.cons (.int 0) .nil))))) (.name 6) [6] (.rng (.call "_law_pick" (.cons (.var 0) (.cons (.ix (.lst false (.cons (.int 3) (.cons (.int 6) .nil))) (.call "_law_pick" (.cons (.var 0) (.cons (.int 2) .nil)))) .nil)))) .no)) (.cons (.app (.var 3) (.bi .tup (.cons (.bin .Add (.var 5) (.lst false (.cons (.call "_law_rule" (.cons (.var 0) (.cons (.var 1) (.cons (.var 2) (.cons (.int 1) .nil))))) .nil))) .nil))) .nil))) (.cons (.settle 3 (.ife (.cmp .Gt (.call "_law_clock" (.cons (.var 3) .nil)) (.int 240)) (.cons (.set 3 (.lc false (.call "_law_tamed" (.cons (.var 7) .nil)) (.name 7) [7] (.seq (.var 3)) .no)) .nil) .nil)) (.cons (.ret (.tup (.cons (.var 1) (.cons (.bi .tup (.cons (.lc false (.call "_law_pick" (.cons (.var 0) (.cons (.var 1) .nil))) (.name 4) [4] (.rng (.var 2)) .no) .nil)) (.cons (.bi .tup (.cons (.var 3) .nil)) .nil))))) .nil)))))
def b_law_far : Sms := .cons (.set 1 (.bin .Pow (.int 10) (.int 18))) (.cons (.set 2 (.tenp (.bin .Add (.int 4) (.call "_law_pick" (.cons (.var 0) (.cons (.int 14) .nil)))))) (.cons (.set 3 (.lst false (.cons (.call "_law_pick" (.cons (.var 0) (.cons (.int 30) .nil))) (.cons (.call "_law_pick" (.cons (.var 0) (.cons (.int 3000) .nil))) (.cons (.call "_law_pick" (.cons (.var 0) (.cons (.var 2) .nil))) (.cons (.call "_law_pick" (.cons (.var 0) (.cons (.bin .Add (.var 1) (.int 1)) .nil))) .nil)))))) (.cons (.ret (.ix (.bin .Add (.var 3) (.lst false (.cons (.bin .Sub (.var 1) (.call "_law_pick" (.cons (.var 0) (.cons (.int 300) .nil)))) .nil))) (.call "_law_pick" (.cons (.var 0) (.cons (.int 5) .nil))))) .nil)))
end AGL
namespace AGL
open PySem AG
/-! ### the bag of draws -/
structure Bag (S : Sto) (k n : Nat) : Prop where
  ex : ∃ a b c : Int, S[k]? = some (some [.int a, .int b, .int c]) ∧ 0 ≤ c ∧ c ≤ n
theorem Bag.lt {S : Sto} {k n : Nat} (h : Bag S k n) : k < S.length := let ⟨_, _, _, e, _⟩ := h.ex; (List.getElem?_eq_some_iff.mp e).1
theorem Bag.up {S : Sto} {k n m : Nat} (h : Bag S k n) (hm : n ≤ m) : Bag S k m := let ⟨a, b, c, e, h0, h1⟩ := h.ex; ⟨a, b, c, e, h0, by omega⟩
/-- the cells but k are as they were; there may be more -/
structure Fr (k : Nat) (S S' : Sto) : Prop where
  len : S.length ≤ S'.length
  at_ : ∀ j, j < S.length → j ≠ k → S'[j]? = S[j]?
theorem Fr.refl (k : Nat) (S : Sto) : Fr k S S := ⟨Nat.le_refl _, fun _ _ _ => rfl⟩
theorem Fr.trans {k : Nat} {S1 S2 S3 : Sto} (a : Fr k S1 S2) (b : Fr k S2 S3) : Fr k S1 S3 := ⟨Nat.le_trans a.len b.len, fun j h n => (b.at_ j (Nat.lt_of_lt_of_le h a.len) n).trans (a.at_ j h n)⟩
theorem Fr.set (k : Nat) (S : Sto) (x : Option (List D)) : Fr k S (S.set k x) := ⟨by simp, fun j _ h => by rw [List.getElem?_set_ne (Ne.symm h)]⟩
theorem Fr.app (k : Nat) (S : Sto) (x : Option (List D)) : Fr k S (S ++ [x]) := ⟨by simp, fun j h _ => by rw [List.getElem?_append_left h]⟩
theorem set_at {S : Sto} {k : Nat} {o : Option (List D)} (h : S[k]? = some o) (x : Option (List D)) : (S.set k x)[k]? = some x := List.getElem?_set_self (List.getElem?_eq_some_iff.mp h).1
theorem Bag.app {S : Sto} {k n : Nat} (h : Bag S k n) (x : Option (List D)) : Bag (S ++ [x]) k n := by
  obtain ⟨a, b, c, e, h0⟩ := h.ex
  exact ⟨a, b, c, by rw [List.getElem?_append_left h.lt]; exact e, h0⟩
section
variable {Φ : String → List D → M D} {fu : Nat}
/-- the word of _law_pick -/
def PickW (F : List D → M D) : Prop := ∀ (S : Sto) (k n : Nat) (many : Int), Bag S k n → n ≤ 1000000000 → 1 ≤ many → many < 2 ^ 100 →
  Ok (F [.ref k, .int many]) S fun d S' => ∃ t : Nat, d = .int t ∧ (t : Int) < many ∧ Bag S' k (n + 1) ∧ S'.length = S.length ∧ Fr k S S'
end
/-! ### turns -/
/-- a turn's datum -/
def tN (ts : List Nat) : D := .tup (ts.map fun t => .int (t : Nat))
/-- a turn of m -/
structure Tn (m : Nat) (ts : List Nat) : Prop where
  len : ts.length = m
  lt : ∀ t ∈ ts, t < m
section
variable {Φ : String → List D → M D} {fu : Nat}
theorem rngL_0 (m : Nat) : rngL 0 m = (List.range m).map fun t => D.int (t : Nat) := by
  unfold rngL
  congr 1
  funext k
  rw [Int.zero_add]
theorem okR_nat {m : Nat} (h : m ≤ 1000) : okR (m : Int) = true := by
  unfold okR
  rw [Bool.and_eq_true]
  exact ⟨decide_eq_true (by omega), decide_eq_true (by omega)⟩
theorem rng_len {m : Nat} : (rngL 0 m).length = m := by rw [rngL_0]; simp
theorem big_nat {m : Nat} (h : m ≤ 1000000000) : big (m : Int) = true := big_of (by omega) (by omega)
end
end AGL
namespace AGL
open PySem AG
/-! ### webs -/
inductive Wh where
  | own (row : List Nat) | cop (hand ago : Nat) (turn : List Nat)
structure Ru where
  every : Nat
  at_ : Nat
  wh : Wh
structure We where
  many : Nat
  before : List Nat
  hands : List (List Ru)
def dW : Wh → D
  | .own row => .tup [.str "own", tN row]
  | .cop h a t => .tup [.str "copy", .int (h : Nat), .int (a : Nat), tN t]
def dR (r : Ru) : D := .tup [.int (r.every : Nat), .int (r.at_ : Nat), dW r.wh]
def dH (h : List Ru) : D := .tup (h.map dR)
def dWe (w : We) : D := .tup [.int (w.many : Nat), tN w.before, .tup (w.hands.map dH)]
def WhOk (m c : Nat) : Wh → Prop
  | .own row => 1 ≤ row.length ∧ row.length ≤ 6 ∧ ∀ t ∈ row, t < m
  | .cop h a t => h < c ∧ 1 ≤ a ∧ a ≤ 12 ∧ Tn m t
structure RuOk (m c : Nat) (r : Ru) : Prop where
  e1 : 1 ≤ r.every
  e12 : r.every ≤ 12
  at_ : r.at_ < r.every
  wh : WhOk m c r.wh
def TurnW (F : List D → M D) : Prop := ∀ (S : Sto) (k n m : Nat), Bag S k n → n ≤ 1000000 → 1 ≤ m → m ≤ 9 → Ok (F [.ref k, .int m]) S fun d S' => ∃ ts, d = tN ts ∧ Tn m ts ∧ Bag S' k (n + 11) ∧ Fr k S S'
def BagW (F : List D → M D) : Prop := ∀ (S : Sto) (cell : Int), Ok (F [.int cell]) S fun d S' => d = .ref S.length ∧ Bag S' S.length 0 ∧ S'.length = S.length + 1 ∧ Fr S.length S S'
def RuleW (F : List D → M D) : Prop := ∀ (S : Sto) (k n m c l : Nat), Bag S k n → n ≤ 500000 → 1 ≤ m → m ≤ 9 → 1 ≤ c → c ≤ 6 → l ≤ 1 → Ok (F [.ref k, .int m, .int c, .int l]) S fun d S' => ∃ r, d = dR r ∧ RuOk m c r ∧ (l = 1 → r.every = 1) ∧ Bag S' k (n + 20) ∧ Fr k S S'
section
variable {Φ : String → List D → M D} {fu : Nat}
/-! ### the least common number -/
def ComW (F : List D → M D) : Prop := ∀ (S : Sto) (a b : Nat), 1 ≤ a → a ≤ 240 → 1 ≤ b → b ≤ 72 → Ok (F [.int a, .int b]) S fun d S' => d = .int (Nat.lcm a b : Nat) ∧ S' = S
/-! ### clocks -/
def ruC (r : Ru) : Nat := match r.wh with
  | .own row => r.every * row.length
  | .cop _ _ _ => r.every
def haC (c : Nat) (h : List Ru) : Nat := h.foldl (fun c r => Nat.lcm c (ruC r)) c
def weC (c : Nat) (hs : List (List Ru)) : Nat := hs.foldl haC c
/-- the law's own clock: it stops behind 240 -/
def rC (c : Nat) (r : Ru) : Nat := if c ≤ 240 then Nat.lcm c (ruC r) else c
def LcW (F : List D → M D) : Prop := ∀ (S : Sto) (m c : Nat) (hs : List (List Ru)), (∀ h ∈ hs, ∀ r ∈ h, RuOk m c r) → Ok (F [.lst (hs.map dH)]) S fun d S' => d = .int ((hs.foldl (fun c h => h.foldl rC c) 1 : Nat) : Int) ∧ S' = S
/-! ### tamed hands -/
def fewN (e : Nat) : Nat := [1, 1, 2, 3, 4, 4, 6, 6, 4, 3, 2, 6, 12].getD e 1
def tam (r : Ru) : Ru := ⟨fewN r.every, r.at_ % fewN r.every, match r.wh with
  | .own row => .own (row.take 3)
  | w => w⟩
theorem cut_take (xs : List D) (n : Nat) : cutD xs none (some (n : Int)) = xs.take n := by
  unfold cutD
  show (xs.drop 0).take ((if (n : Int) < 0 then ((n : Int) + (xs.length : Int)).toNat else min (n : Int).toNat xs.length) - 0) = _
  rw [if_neg (by omega), List.drop_zero, Nat.sub_zero, Int.toNat_natCast]
  rcases Nat.le_total n xs.length with h | h
  · rw [Nat.min_eq_left h]
  · rw [Nat.min_eq_right h, List.take_of_length_le (Nat.le_refl _), List.take_of_length_le h]
def TamW (F : List D → M D) : Prop := ∀ (S : Sto) (m c : Nat) (h : List Ru), (∀ r ∈ h, RuOk m c r) → h.length ≤ 100 → Ok (F [dH h]) S fun d S' => d = dH (h.map tam) ∧ ∃ x, S' = S ++ [x]
/-! ### the web that is drawn -/
structure HaOk (m c : Nat) (h : List Ru) : Prop where
  l1 : 1 ≤ h.length
  l6 : h.length ≤ 6
  ru : ∀ r ∈ h, RuOk m c r
  last : ∃ r, h.getLast? = some r ∧ r.every = 1
structure WeOk (w : We) : Prop where
  m1 : 1 ≤ w.many
  m9 : w.many ≤ 9
  c1 : 1 ≤ w.hands.length
  c6 : w.hands.length ≤ 6
  ha : ∀ h ∈ w.hands, HaOk w.many w.hands.length h
  bl : w.before.length = w.hands.length
  bm : ∀ t ∈ w.before, t < w.many
  ck : weC 1 w.hands ≤ 240
theorem fr_set {k i : Nat} {S S' : Sto} {x : Option (List D)} (h : Fr k S S') (hi : S.length ≤ i) : Fr k S (S'.set i x) := ⟨by rw [List.length_set]; exact h.len, fun j hj hn => by rw [List.getElem?_set_ne (by omega)]; exact h.at_ j hj hn⟩
def WebW (F : List D → M D) : Prop := ∀ (S : Sto) (k n : Nat), Bag S k n → n ≤ 1000 → Ok (F [.ref k]) S fun d S' => ∃ w, d = dWe w ∧ WeOk w ∧ Bag S' k (n + 1000) ∧ Fr k S S'
end
end AGL
namespace AGL
open PySem AG
def RcW (F : List D → M D) : Prop := ∀ (S : Sto) (m c : Nat) (r : Ru), RuOk m c r → Ok (F [dR r]) S fun d S' => d = .int (ruC r : Nat) ∧ S' = S
def ClW (F : List D → M D) : Prop := ∀ (S : Sto) (w : We), WeOk w → Ok (F [dWe w]) S fun d S' => d = .int (weC 1 w.hands : Nat) ∧ S' = S
section
variable {Φ : String → List D → M D} {fu : Nat}
end
/-! ### the rule that is gone by -/
def holds (b : Int) (r : Ru) : Bool := decide ((b - (r.at_ : Nat)) % (r.every : Nat) = 0)
def ruleNo (h : List Ru) (b : Int) : Nat := h.findIdx (holds b)
theorem holds_last {m c : Nat} {h : List Ru} (ho : HaOk m c h) (b : Int) : ∃ r, h[h.length - 1]? = some r ∧ holds b r = true := by
  obtain ⟨r, h1, h2⟩ := ho.last
  rw [List.getLast?_eq_getElem?] at h1
  refine ⟨r, h1, ?_⟩
  have := (ho.ru r (List.mem_of_getElem? h1)).at_
  have e0 : r.at_ = 0 := by omega
  unfold holds
  rw [h2, e0]
  apply decide_eq_true
  omega
theorem ruleNo_lt {m c : Nat} {h : List Ru} (ho : HaOk m c h) (b : Int) : ruleNo h b < h.length := by
  obtain ⟨r, h1, h2⟩ := holds_last ho b
  exact List.findIdx_lt_length_of_exists ⟨r, List.mem_of_getElem? h1, h2⟩
theorem enmL_len : ∀ (l : List D) (i : Nat), (enmL i l).length = l.length
  | [], i => rfl
  | x :: xs, i => by rw [enmL, List.length_cons, List.length_cons, enmL_len xs]
def RatW (F : List D → M D) : Prop := ∀ (S : Sto) (w : We) (i : Nat) (h : List Ru) (b : Int), WeOk w → w.hands[i]? = some h → Ok (F [dWe w, .int (i : Nat), .int b]) S fun d S' => d = .int (ruleNo h b : Nat) ∧ S' = S
def FarW (F : List D → M D) : Prop := ∀ (S : Sto) (k n : Nat), Bag S k n → n ≤ 100000 → Ok (F [.ref k]) S fun d S' => ∃ b : Nat, d = .int (b : Nat) ∧ b ≤ 10 ^ 18 ∧ Bag S' k (n + 10) ∧ S'.length = S.length ∧ Fr k S S'
section
variable {Φ : String → List D → M D} {fu : Nat}
end
end AGL
namespace AGL
open PySem AG
theorem cut_ints (ns : List Int) (lo hi : Option Int) : ∃ ms : List Int, cutD (ns.map D.int) lo hi = ms.map D.int ∧ ms.length ≤ ns.length := by
  refine ⟨(ns.drop (HT.sIx ns.length 0 lo)).take (HT.sIx ns.length ns.length hi - HT.sIx ns.length 0 lo), ?_, ?_⟩
  · unfold cutD
    rw [List.length_map, ← List.map_drop, ← List.map_take]
  · rw [List.length_take, List.length_drop]
    omega
/-- a datum that can be shown, no greater than n, no deeper than k -/
def Nice (d : D) (n k : Nat) : Prop := ∃ p, toPy d = some p ∧ p.showable = true ∧ cost p ≤ n ∧ p.depth ≤ k
def Nices (ds : List D) (n k : Nat) : Prop := ∃ ps, toPys ds = some ps ∧ PyData.showableAll ps = true ∧ costs ps ≤ n ∧ PyData.depthAll ps ≤ k
end AGL
namespace AGL
open PySem AG
def b_after : Sms := .cons (.ret (.bi .tup (.cons (.lc false (.ix (.var 1) (.var 2)) (.name 2) [2] (.seq (.var 0)) .no) .nil))) .nil
def b_staying : Sms := .cons (.ret (.trg (.var 0))) .nil
def b_power : Sms := .cons (.set 2 (.call "staying" (.cons (.bi .len (.cons (.var 0) .nil)) .nil))) (.cons (.set 3 (.var 0)) (.cons (.set 4 (.var 1)) (.cons (.while (.cmp .Gt (.var 4) (.int 0)) (.cons (.ife (.bin .BitAnd (.var 4) (.int 1)) (.cons (.set 2 (.call "after" (.cons (.var 2) (.cons (.var 3) .nil)))) .nil) .nil) (.cons (.set 3 (.call "after" (.cons (.var 3) (.cons (.var 3) .nil)))) (.cons (.set 4 (.bin .FloorDiv (.var 4) (.int 2))) .nil)))) (.cons (.ret (.var 2)) .nil))))
def b_often : Sms := .cons (.set 3 (.lst true .nil)) (.cons (.while (.cmp .NotIn (.var 1) (.var 3)) (.cons (.ife (.cmp .Eq (.bi .len (.cons (.var 3) .nil)) (.var 2)) (.cons (.ret (.var 1)) .nil) .nil) (.cons (.app (.var 3) (.var 1)) (.cons (.set 1 (.ix (.var 0) (.var 1))) .nil)))) (.cons (.set 4 (.idxOf (.var 3) (.var 1))) (.cons (.ret (.ix (.var 3) (.bin .Add (.var 4) (.bin .Mod (.bin .Sub (.var 2) (.var 4)) (.bin .Sub (.bi .len (.cons (.var 3) .nil)) (.var 4)))))) .nil)))
def b_own_doing : Sms := .cons (.unp [2, 3, 4] (.var 0)) (.cons (.set 5 (.ix (.var 4) (.int 1))) (.cons (.ret (.ix (.var 5) (.bin .Mod (.bin .FloorDiv (.var 1) (.var 2)) (.bi .len (.cons (.var 5) .nil))))) .nil))
def b_copies_in : Sms := .cons (.ret (.bi .sum (.cons (.lc false (.bin .Mult (.bi .len (.cons (.var 1) .nil)) (.var 2)) (.tup [1, 2]) [1, 2] (.seq (.var 0)) .no) .nil))) .nil
def b_Ways___init__ : Sms := .cons (.setfl "Ways" "web" (.var 0) (.var 1)) (.cons (.setfl "Ways" "beats" (.var 0) (.call "clock" (.cons (.var 1) .nil))) (.cons (.setfl "Ways" "rules" (.var 0) (.dnew true)) .nil))
def b_Ways_rule : Sms := .cons (.ife (.din true (.tup (.cons (.var 1) (.cons (.var 2) .nil))) (.fld "Ways" "rules" (.var 0))) (.cons (.dput (.fld "Ways" "rules" (.var 0)) (.tup (.cons (.var 1) (.cons (.var 2) .nil))) (.call "rule_at" (.cons (.fld "Ways" "web" (.var 0)) (.cons (.var 1) (.cons (.var 2) .nil))))) .nil) .nil) (.cons (.ret (.dget (.fld "Ways" "rules" (.var 0)) (.tup (.cons (.var 1) (.cons (.var 2) .nil))))) .nil)
def b_Ways_back : Sms := .cons (.set 4 (.lst true .nil)) (.cons (.set 5 (.dnew true)) (.cons (.while (.cmp .GtE (.var 2) (.var 3)) (.cons (.set 6 (.tup (.cons (.var 1) (.cons (.bin .Mod (.var 2) (.fld "Ways" "beats" (.var 0))) .nil)))) (.cons (.ife (.din false (.var 6) (.var 5)) (.cons (.ret (.meth "Ways._round" "Ways" "_round" (.var 0) (.cons (.var 4) (.cons (.dget (.var 5) (.var 6)) (.cons (.var 2) (.cons (.var 3) .nil)))))) .nil) .nil) (.cons (.set 7 (.meth "Ways.rule" "Ways" "rule" (.var 0) (.cons (.var 1) (.cons (.ix (.var 6) (.int 1)) .nil)))) (.cons (.set 8 (.ix (.ix (.ix (.ix (.fld "Ways" "web" (.var 0)) (.int 2)) (.var 1)) (.var 7)) (.int 2))) (.cons (.ife (.cmp .Eq (.ix (.var 8) (.int 0)) (.str "own")) (.cons .brk .nil) .nil) (.cons (.dput (.var 5) (.var 6) (.bi .len (.cons (.var 4) .nil))) (.cons (.app (.var 4) (.tup (.cons (.var 1) (.cons (.var 7) .nil)))) (.cons (.set 1 (.ix (.var 8) (.int 1))) (.cons (.set 2 (.bin .Sub (.var 2) (.ix (.var 8) (.int 2)))) .nil)))))))))) (.cons (.settle 4 (.ret (.tup (.cons (.lst false (.cons (.tup (.cons (.var 4) (.cons (.int 1) .nil))) .nil)) (.cons (.var 1) (.cons (.var 2) .nil)))))) .nil)))
def b_Ways__round : Sms := .cons (.set 5 (.sl false (.var 1) (.yes (.var 2)) .no)) (.cons (.set 6 (.lc false (.ix (.meth "Ways._what" "Ways" "_what" (.var 0) (.cons (.var 7) .nil)) (.int 2)) (.name 7) [7] (.seq (.var 5)) .no)) (.cons (.set 8 (.bi .sum (.cons (.var 6) .nil))) (.cons (.set 9 (.bin .FloorDiv (.bin .Add (.bin .Sub (.var 3) (.var 4)) (.ix (.var 6) (.neg (.int 1)))) (.var 8))) (.cons (.set 3 (.bin .Sub (.var 3) (.bin .Mult (.var 9) (.var 8)))) (.cons (.set 10 (.lst true .nil)) (.cons (.while (.cmp .GtE (.var 3) (.var 4)) (.cons (.set 3 (.bin .Sub (.var 3) (.ix (.var 6) (.bi .len (.cons (.var 10) .nil))))) (.cons (.app (.var 10) (.ix (.var 5) (.bi .len (.cons (.var 10) .nil)))) .nil))) (.cons (.settle 10 (.ret (.tup (.cons (.lst false (.cons (.tup (.cons (.sl false (.var 1) .no (.yes (.var 2))) (.cons (.int 1) .nil))) (.cons (.tup (.cons (.var 5) (.cons (.bin .Add (.int 1) (.var 9)) .nil))) (.cons (.tup (.cons (.var 10) (.cons (.int 1) .nil))) .nil)))) (.cons (.ix (.ix (.var 5) (.bi .len (.cons (.var 10) .nil))) (.int 0)) (.cons (.var 3) .nil)))))) .nil)))))))
def b_Ways__what : Sms := .cons (.unp [2, 3] (.var 1)) (.cons (.ret (.ix (.ix (.ix (.ix (.fld "Ways" "web" (.var 0)) (.int 2)) (.var 2)) (.var 3)) (.int 2))) .nil)
def b_Ways_turn : Sms := .cons (.set 2 (.call "staying" (.cons (.ix (.fld "Ways" "web" (.var 0)) (.int 0)) .nil))) (.cons (.for (.name 3) (.seq (.var 1)) (.cons (.set 2 (.call "after" (.cons (.ix (.meth "Ways._what" "Ways" "_what" (.var 0) (.cons (.var 3) .nil)) (.int 3)) (.cons (.var 2) .nil)))) .nil)) (.cons (.ret (.var 2)) .nil))
def b_Ways_turn_of_all : Sms := .cons (.set 2 (.call "staying" (.cons (.ix (.fld "Ways" "web" (.var 0)) (.int 0)) .nil))) (.cons (.for (.tup [3, 4]) (.seq (.var 1)) (.cons (.set 2 (.call "after" (.cons (.call "power" (.cons (.meth "Ways.turn" "Ways" "turn" (.var 0) (.cons (.var 3) .nil)) (.cons (.var 4) .nil))) (.cons (.var 2) .nil)))) .nil)) (.cons (.ret (.var 2)) .nil))
def b_Ways_begun : Sms := .cons (.ife (.cmp .Lt (.var 2) (.int 0)) (.cons (.ret (.ix (.ix (.fld "Ways" "web" (.var 0)) (.int 1)) (.var 1))) .nil) .nil) (.cons (.set 3 (.meth "Ways.rule" "Ways" "rule" (.var 0) (.cons (.var 1) (.cons (.bin .Mod (.var 2) (.fld "Ways" "beats" (.var 0))) .nil)))) (.cons (.ret (.call "own_doing" (.cons (.ix (.ix (.ix (.fld "Ways" "web" (.var 0)) (.int 2)) (.var 1)) (.var 3)) (.cons (.var 2) .nil)))) .nil))
def b_Ways_led_on : Sms := .cons (.for (.tup [3, 4]) (.revl (.var 1)) (.cons (.set 2 (.meth "Ways._changed" "Ways" "_changed" (.var 0) (.cons (.var 3) (.cons (.var 4) (.cons (.var 2) .nil))))) .nil)) (.cons (.ret (.var 2)) .nil)
def b_Ways_doing : Sms := .cons (.unp [3, 4, 5] (.meth "Ways.back/3" "Ways" "back" (.var 0) (.cons (.var 1) (.cons (.var 2) .nil)))) (.cons (.ret (.meth "Ways.led_on" "Ways" "led_on" (.var 0) (.cons (.var 3) (.cons (.meth "Ways.begun" "Ways" "begun" (.var 0) (.cons (.var 4) (.cons (.var 5) .nil))) .nil)))) .nil)
def b_Ways__changed : Sms := .cons (.ife (.cmp .Gt (.var 2) (.int 1)) (.cons (.ret (.call "often" (.cons (.meth "Ways.turn" "Ways" "turn" (.var 0) (.cons (.var 1) .nil)) (.cons (.var 3) (.cons (.var 2) .nil))))) .nil) .nil) (.cons (.for (.name 4) (.revl (.var 1)) (.cons (.set 5 (.ix (.meth "Ways._what" "Ways" "_what" (.var 0) (.cons (.var 4) .nil)) (.int 3))) (.cons (.set 3 (.ix (.var 5) (.var 3))) .nil))) (.cons (.ret (.var 3)) .nil))
def b_source : Sms := .cons (.set 3 (.make "Ways" "Ways.__init__" (.cons (.var 0) .nil))) (.cons (.unp [4, 5, 6] (.meth "Ways.back/3" "Ways" "back" (.var 3) (.cons (.var 1) (.cons (.var 2) .nil)))) (.cons (.ret (.tup (.cons (.var 5) (.cons (.bi .max2 (.cons (.var 6) (.cons (.neg (.int 1)) .nil))) (.cons (.meth "Ways.turn_of_all" "Ways" "turn_of_all" (.var 3) (.cons (.var 4) .nil)) (.cons (.call "copies_in" (.cons (.var 4) .nil)) .nil)))))) .nil))
def b_doing_at : Sms := .cons (.ret (.meth "Ways.doing" "Ways" "doing" (.make "Ways" "Ways.__init__" (.cons (.var 0) .nil)) (.cons (.var 1) (.cons (.var 2) .nil)))) .nil
end AGL
namespace AGL
open PySem AG
/-! ### the mathematics of turns -/
def comp (xs ys : List Nat) : List Nat := xs.map fun x => ys.getD x 0
def itN (ts : List Nat) : Nat → Nat → Nat
  | 0, d => d
  | k + 1, d => ts.getD (itN ts k d) 0
def pw (ts : List Nat) : Nat → List Nat
  | 0 => List.range ts.length
  | k + 1 => comp (pw ts k) ts
theorem getD_at {l : List Nat} {i : Nat} (h : i < l.length) : l.getD i 0 = l[i] := by
  rw [List.getD_eq_getElem?_getD, List.getElem?_eq_getElem h]
  rfl
/-! ### the words of the program's defs -/
def AfterW (F : List D → M D) : Prop := ∀ (S : Sto) (m : Nat) (xs ys : List Nat), m ≤ 9 → Tn m xs → Tn m ys → Ok (F [tN xs, tN ys]) S fun d S' => d = tN (comp xs ys) ∧ S' = S
def StayW (F : List D → M D) : Prop := ∀ (S : Sto) (m : Nat), m ≤ 9 → Ok (F [.int m]) S fun d S' => d = tN (List.range m) ∧ S' = S
def PowW (F : List D → M D) : Prop := ∀ (S : Sto) (m k : Nat) (ts : List Nat), m ≤ 9 → Tn m ts → k < 2 ^ 90 → Ok (F [tN ts, .int k]) S fun d S' => d = tN (pw ts k) ∧ S' = S
def OftW (F : List D → M D) : Prop := ∀ (S : Sto) (m k d : Nat) (ts : List Nat), m ≤ 9 → Tn m ts → d < m → k ≤ 1000 → Ok (F [tN ts, .int d, .int k]) S fun x S' => x = .int (itN ts k d : Nat) ∧ S' = S
section
variable {Φ : String → List D → M D} {fu : Nat}
end
end AGL
namespace AGL
open PySem AG
/-! ### the way back: rows of hands and rules -/
abbrev Row := Nat × Nat
def hd (w : We) (i : Nat) : List Ru := w.hands.getD i []
def noAt (w : We) (h : Nat) (b : Int) : Nat := ruleNo (hd w h) b
def ruA (w : We) (h n : Nat) : Ru := ((hd w h)[n]?).getD ⟨1, 0, .own [0]⟩
def agR (w : We) (r : Row) : Nat := match (ruA w r.1 r.2).wh with
  | .cop _ a _ => a
  | .own _ => 0
def tuR (w : We) (r : Row) : List Nat := match (ruA w r.1 r.2).wh with
  | .cop _ _ t => t
  | .own _ => List.range w.many
def ck (w : We) : Nat := weC 1 w.hands
inductive GoF (w : We) (f : Int) : Nat → Int → List Row → Nat → Int → Prop
  | nil (h : Nat) (b : Int) : GoF w f h b [] h b
  | cons (h : Nat) (b : Int) (h2 a : Nat) (t : List Nat) (rs : List Row) (h' : Nat) (b' : Int) : f ≤ b → (ruA w h (noAt w h b)).wh = .cop h2 a t → GoF w f h2 (b - (a : Nat)) rs h' b' → GoF w f h b ((h, noAt w h b) :: rs) h' b'
abbrev Go (w : We) := GoF w 0
def StopF (w : We) (f : Int) (h : Nat) (b : Int) : Prop := b < f ∨ ∃ row, (ruA w h (noAt w h b)).wh = .own row
abbrev Stop (w : We) (h : Nat) (b : Int) : Prop := StopF w 0 h b
theorem GoF.app {w : We} {f : Int} {h : Nat} {b : Int} {xs : List Row} {h1 : Nat} {b1 : Int} (g : GoF w f h b xs h1 b1) {ys : List Row} {h2 : Nat} {b2 : Int} (g2 : GoF w f h1 b1 ys h2 b2) : GoF w f h b (xs ++ ys) h2 b2 := by
  induction g with
  | nil h b => exact g2
  | cons h b h2 a t rs h' b' h0 hw _ ih => exact .cons h b h2 a t _ _ _ h0 hw (ih g2)
theorem GoF.split {w : We} {f : Int} : ∀ {xs ys : List Row} {h : Nat} {b : Int} {h2 : Nat} {b2 : Int}, GoF w f h b (xs ++ ys) h2 b2 → ∃ h1 b1, GoF w f h b xs h1 b1 ∧ GoF w f h1 b1 ys h2 b2
  | [], ys, h, b, h2, b2, g => ⟨h, b, .nil h b, g⟩
  | x :: xs, ys, h, b, h2, b2, g => by
    rw [List.cons_append] at g
    cases g with
    | cons _ _ h3 a t _ _ _ h0 hw g =>
      obtain ⟨h1, b1, g1, g2⟩ := GoF.split g
      exact ⟨h1, b1, .cons h b h3 a t _ _ _ h0 hw g1, g2⟩
def sumA (w : We) (xs : List Row) : Nat := (xs.map (agR w)).sum
theorem sumA_cons (w : We) (x : Row) (xs : List Row) : sumA w (x :: xs) = agR w x + sumA w xs := by
  unfold sumA
  rw [List.map_cons, List.sum_cons]
theorem GoF.sum {w : We} {f : Int} {h : Nat} {b : Int} {xs : List Row} {h1 : Nat} {b1 : Int} (g : GoF w f h b xs h1 b1) : b1 = b - (sumA w xs : Nat) := by
  induction g with
  | nil h b => simp [sumA]
  | cons h b h2 a t rs h' b' h0 hw _ ih =>
    rw [sumA_cons]
    have : agR w (h, noAt w h b) = a := by
      unfold agR
      rw [hw]
    rw [this]
    omega
/-- a row of the web: a copy -/
structure RowOk (w : We) (r : Row) : Prop where
  c : r.1 < w.hands.length
  n : r.2 < (hd w r.1).length
  at_ : (hd w r.1)[r.2]? = some (ruA w r.1 r.2)
  cop : ∃ h2 a t, (ruA w r.1 r.2).wh = .cop h2 a t ∧ h2 < w.hands.length ∧ 1 ≤ a ∧ a ≤ 12 ∧ Tn w.many t
theorem hd_mem {w : We} {h : Nat} (hh : h < w.hands.length) : w.hands[h]? = some (hd w h) := by
  unfold hd
  rw [List.getD_eq_getElem?_getD, List.getElem?_eq_getElem hh]
  rfl
theorem hd_ok {w : We} (hw : WeOk w) {h : Nat} (hh : h < w.hands.length) : HaOk w.many w.hands.length (hd w h) := hw.ha _ (List.mem_of_getElem? (hd_mem hh))
theorem noAt_lt {w : We} (hw : WeOk w) {h : Nat} (hh : h < w.hands.length) (b : Int) : noAt w h b < (hd w h).length := ruleNo_lt (hd_ok hw hh) b
theorem ruA_at {w : We} {h n : Nat} (hn : n < (hd w h).length) : (hd w h)[n]? = some (ruA w h n) := by
  unfold ruA
  rw [List.getElem?_eq_getElem hn]
  rfl
theorem ruA_ok {w : We} (hw : WeOk w) {h n : Nat} (hh : h < w.hands.length) (hn : n < (hd w h).length) : RuOk w.many w.hands.length (ruA w h n) := (hd_ok hw hh).ru _ (List.mem_of_getElem? (ruA_at hn))
theorem GoF.ok {w : We} {f : Int} (hw : WeOk w) {h : Nat} {b : Int} {xs : List Row} {h1 : Nat} {b1 : Int} (g : GoF w f h b xs h1 b1) : h < w.hands.length → h1 < w.hands.length ∧ ∀ r ∈ xs, RowOk w r := by
  induction g with
  | nil h b => exact fun hh => ⟨hh, fun r hr => nomatch hr⟩
  | cons h b h2 a t rs h' b' h0 hc _ ih =>
    intro hh
    have hn := noAt_lt hw hh b
    have ho := ruA_ok hw hh hn
    have hx := ho.wh
    rw [hc] at hx
    obtain ⟨c1, c2, c3, c4⟩ := hx
    obtain ⟨i1, i2⟩ := ih c1
    refine ⟨i1, fun r hr => ?_⟩
    rcases List.mem_cons.mp hr with e | e
    · subst e
      exact ⟨hh, hn, ruA_at hn, h2, a, t, hc, c1, c2, c3, c4⟩
    · exact i2 r e
/-- the beats of the rows begin at 0 or above -/
def Fits (w : We) (f : Int) : Int → List Row → Prop
  | _, [] => True
  | c, r :: rs => f ≤ c ∧ Fits w f (c - (agR w r : Nat)) rs
theorem Fits.of {w : We} {f : Int} : ∀ (xs : List Row) (c : Int), (∀ n, n < xs.length → ((sumA w (xs.take n) : Nat) : Int) + f ≤ c) → Fits w f c xs
  | [], _, _ => trivial
  | x :: xs, c, h => by
    refine ⟨by have := h 0 (by simp); simpa [sumA] using this, Fits.of xs _ fun n hn => ?_⟩
    have := h (n + 1) (by rw [List.length_cons]; omega)
    rw [List.take_succ_cons, sumA_cons] at this
    omega
end AGL
namespace AGL
open PySem AG
/-! ### objects and dicts -/
theorem ok_of_run {α : Type} {m : M α} {S S' : Sto} {a : α} {P : α → Sto → Prop} (h : m S = .ok a S') : Ok m S P = P a S' := by
  apply propext
  constructor
  · rintro ⟨b, S2, e, p⟩
    rw [h] at e
    cases e
    exact p
  · intro p
    exact ⟨a, S', h, p⟩
theorem ok_sum {ns : List Int} {S : Sto} {P : D → Sto → Prop} (hl : ns.length ≤ 1000000) (hb : ∀ n ∈ ns, n.natAbs < 2 ^ 100) : Ok (biD .sum [.lst (ns.map D.int)]) S P = P (.int ns.sum) S := by
  have e : ∀ l : List Int, intsOf (l.map D.int) = some l := by
    intro l
    induction l with
    | nil => rfl
    | cons i l ih => simp only [List.map_cons, intsOf, ih]
  show Ok (sumB [.lst (ns.map D.int)]) S P = _
  unfold sumB
  simp only [e]
  rw [decide_eq_true hl, show (ns.all fun n => decide (n.natAbs < 2 ^ 100)) = true from List.all_eq_true.mpr fun n hn => decide_eq_true (hb n hn)]
  exact ok_of_run rfl
end AGL
namespace AGL
open PySem AG
/-! ### Ways -/
def dRow (r : Row) : D := .tup [.int (r.1 : Nat), .int (r.2 : Nat)]
abbrev wKs : List Ky := [.s "web", .s "beats", .s "rules"]
def waysV (w : We) (r : Nat) : List D := [dWe w, .int (ck w : Nat), .dct true r]
structure Memo (w : We) (ks : List Ky) (vs : List D) : Prop where
  len : ks.length = vs.length
  nd : ks.Nodup
  dom : ∀ q ∈ ks, ∃ h b : Nat, q = .t [(h : Int), (b : Int)] ∧ h < w.hands.length ∧ b < ck w
  val : ∀ (h b : Nat) (v : D), lookY ks vs (.t [(h : Int), (b : Int)]) = some v → v = .int (noAt w h (b : Nat) : Nat)
structure WA (S : Sto) (k r : Nat) (w : We) : Prop where
  ne : k ≠ r
  wok : WeOk w
  cell : S[k]? = some (some [.dic false wKs (waysV w r)])
  memo : ∃ ks vs, S[r]? = some (some [.dic true ks vs]) ∧ Memo w ks vs
theorem WA.lk {S : Sto} {k r : Nat} {w : We} (h : WA S k r w) : k < S.length := (List.getElem?_eq_some_iff.mp h.cell).1
theorem WA.lr {S : Sto} {k r : Nat} {w : We} (h : WA S k r w) : r < S.length := let ⟨_, _, e, _⟩ := h.memo; (List.getElem?_eq_some_iff.mp e).1
theorem WA.fr {S S' : Sto} {j k r : Nat} {w : We} (h : WA S k r w) (f : Fr j S S') (h1 : k ≠ j) (h2 : r ≠ j) : WA S' k r w := by
  refine ⟨h.ne, h.wok, by rw [f.at_ k h.lk h1]; exact h.cell, ?_⟩
  obtain ⟨ks, vs, e, m⟩ := h.memo
  exact ⟨ks, vs, by rw [f.at_ r h.lr h2]; exact e, m⟩
theorem WA.app {S : Sto} {k r : Nat} {w : We} (h : WA S k r w) (x : Option (List D)) : WA (S ++ [x]) k r w := h.fr (Fr.app S.length S x) (Nat.ne_of_lt h.lk) (Nat.ne_of_lt h.lr)
theorem WA.set {S : Sto} {k r j : Nat} {w : We} (h : WA S k r w) (x : Option (List D)) (h1 : k ≠ j) (h2 : r ≠ j) : WA (S.set j x) k r w := h.fr (Fr.set j S x) h1 h2
section
variable {S : Sto} {k r : Nat} {w : We}
end
def WRuleW (F : List D → M D) : Prop := ∀ (S : Sto) (k r : Nat) (w : We) (h b : Nat), WA S k r w → h < w.hands.length → b < ck w → Ok (F [.obj "Ways" k, .int (h : Nat), .int (b : Nat)]) S fun d S' => d = .int (noAt w h (b : Nat) : Nat) ∧ WA S' k r w ∧ S'.length = S.length ∧ Fr r S S'
def WhatW (F : List D → M D) : Prop := ∀ (S : Sto) (k r : Nat) (w : We) (q : Row), WA S k r w → RowOk w q → Ok (F [.obj "Ways" k, dRow q]) S fun d S' => d = dW (ruA w q.1 q.2).wh ∧ S' = S
def InitW (F : List D → M D) : Prop := ∀ (S : Sto) (k : Nat) (w : We), WeOk w → S[k]? = some (some [.dic false [] []]) → Ok (F [.obj "Ways" k, dWe w]) S fun d S' => d = .non ∧ WA S' k S.length w ∧ S'.length = S.length + 1 ∧ Fr k S S'
section
variable {Φ : String → List D → M D} {fu : Nat}
end
end AGL
namespace AGL
open PySem AG
/-! ### parts of the way back -/
def dRows (rs : List Row) : D := .lst (rs.map dRow)
def dPart (p : List Row × Nat) : D := .tup [dRows p.1, .int (p.2 : Nat)]
def dParts (ps : List (List Row × Nat)) : D := .lst (ps.map dPart)
def flat (ps : List (List Row × Nat)) : List Row := ps.flatMap fun p => (List.replicate p.2 p.1).flatten
structure PsOk (w : We) (ps : List (List Row × Nat)) : Prop where
  le : ps.length ≤ 3
  len : ∀ p ∈ ps, p.1.length ≤ 1440
  one : ∀ p ∈ ps, 1 ≤ p.2
  big : ∀ p ∈ ps, p.2 < 2 ^ 81
  rows : ∀ p ∈ ps, ∀ q ∈ p.1, RowOk w q
def RoundW (F : List D → M D) : Prop := ∀ (S : Sto) (k r : Nat) (w : We) (R : Nat) (rows : List Row) (i hc f : Nat) (b0 bc : Int), WA S k r w → S[R]? = some (some (rows.map dRow)) → i < rows.length → rows.length ≤ 1440 → (∀ q ∈ rows, RowOk w q) → hc < w.hands.length → GoF w (f : Nat) hc b0 (rows.drop i) hc bc → (∃ q : Int, bc = b0 + (ck w : Nat) * q) → (f : Nat) ≤ bc → bc ≤ 10 ^ 20 →
  Ok (F [.obj "Ways" k, .ref R, .int (i : Nat), .int bc, .int (f : Nat)]) S fun d S' => ∃ (more : Nat) (left : List Row) (h' : Nat) (b' : Int), d = .tup [dParts [(rows.take i, 1), (rows.drop i, 1 + more), (left, 1)], .int (h' : Nat), .int b'] ∧ GoF w (f : Nat) hc bc ((List.replicate more (rows.drop i)).flatten ++ left) h' b' ∧ b' < (f : Nat) ∧ left.length ≤ 1440 ∧ (∀ q ∈ left, RowOk w q) ∧ more < 2 ^ 80 ∧ WA S' k r w ∧ Fr S.length S S' ∧ ∃ j, j < (rows.drop i).length ∧ left = (rows.drop i).take j
/-- the ago of a row that is told -/
def agD (w : We) (d : D) : D := match d with
  | .tup [.int a, .int b] => .int (agR w (a.toNat, b.toNat) : Nat)
  | d => d
section
variable {Φ : String → List D → M D} {fu : Nat}
end
end AGL
namespace AGL
open PySem AG
theorem Fr.weak {S S' : Sto} (f : Fr S.length S S') (k : Nat) : Fr k S S' := ⟨f.len, fun j h _ => f.at_ j h (Nat.ne_of_lt h)⟩
structure Met (w : We) (f : Int) (h : Nat) (b : Int) (rows : List Row) (hc : Nat) (bc : Int) (ks : List Ky) : Prop where
  go : GoF w f h b rows hc bc
  hcl : hc < w.hands.length
  le : bc ≤ b
  len : ks.length = rows.length
  nd : ks.Nodup
  dom : ∀ q ∈ ks, ∃ h b : Nat, q = .t [(h : Int), (b : Int)] ∧ h < w.hands.length ∧ b < ck w
  at_ : ∀ i, i < rows.length → ∃ (hi bi : Nat), ks[i]? = some (.t [(hi : Int), ((bi % ck w : Nat) : Int)]) ∧ GoF w f h b (rows.take i) hi (bi : Nat) ∧ GoF w f hi (bi : Nat) (rows.drop i) hc bc
/-- the parts of a way back: all rows, or those ahead of a circle, the circle so often, and the circle's beginning -/
def Sh (w : We) (f : Int) (h : Nat) (b : Int) (ps : List (List Row × Nat)) (h' : Nat) (b' : Int) : Prop := (∃ rows ks, ps = [(rows, 1)] ∧ Met w f h b rows h' b' ks) ∨
  ∃ (rows : List Row) (i m j hc bc : Nat) (ks : List Ky), ps = [(rows.take i, 1), (rows.drop i, 1 + m), ((rows.drop i).take j, 1)] ∧ i < rows.length ∧ j < (rows.drop i).length ∧ Met w f h b rows hc (bc : Nat) ks ∧ f ≤ (bc : Nat) ∧ ks[i]? = some (.t [(hc : Int), ((bc % ck w : Nat) : Int)])
structure BackOkF (w : We) (f : Int) (h : Nat) (b : Int) (pt : List (List Row × Nat)) (h' : Nat) (b' : Int) : Prop where
  go : GoF w f h b (flat pt) h' b'
  stop : StopF w f h' b'
  ps : PsOk w pt
  sh : Sh w f h b pt h' b'
abbrev BackOk (w : We) (h : Nat) (b : Int) (ps : List (List Row × Nat)) (h' : Nat) (b' : Int) : Prop := BackOkF w 0 h b ps h' b'
def BackFW (F : List D → M D) : Prop := ∀ (S : Sto) (k r : Nat) (w : We) (h f : Nat) (b : Int), WA S k r w → h < w.hands.length → b ≤ 10 ^ 20 → Ok (F [.obj "Ways" k, .int (h : Nat), .int b, .int (f : Nat)]) S fun d S' => ∃ ps h' b', d = .tup [dParts ps, .int (h' : Nat), .int b'] ∧ BackOkF w (f : Nat) h b ps h' b' ∧ WA S' k r w ∧ Fr r S S'
def BackW (F : List D → M D) : Prop := ∀ (S : Sto) (k r : Nat) (w : We) (h : Nat) (b : Int), WA S k r w → h < w.hands.length → b ≤ 10 ^ 20 → Ok (F [.obj "Ways" k, .int (h : Nat), .int b]) S fun d S' => ∃ ps h' b', d = .tup [dParts ps, .int (h' : Nat), .int b'] ∧ BackOk w h b ps h' b' ∧ WA S' k r w ∧ Fr r S S'
section
variable {Φ : String → List D → M D} {fu : Nat}
theorem BackFW.z {F : List D → M D} (H : BackFW F) : BackW (fun ds => F (ds ++ [.int 0])) := fun S k r w h b H1 hh hb => H S k r w h 0 b H1 hh hb
end
end AGL
namespace AGL
open PySem AG
/-! ### numbers in a list -/
def nN (l : List Nat) : List D := l.map fun t => D.int (t : Nat)
def nP (l : List Nat) : List PyData := l.map fun t => PyData.int (t : Nat)
/-! ### a doing gone on by a turn, often -/
def OftenW (F : List D → M D) : Prop := ∀ (S : Sto) (m k d : Nat) (ts : List Nat), m ≤ 9 → Tn m ts → d < m → k < 2 ^ 90 → Ok (F [tN ts, .int (d : Nat), .int (k : Nat)]) S fun x S' => x = .int (itN ts k d : Nat) ∧ Fr S.length S S'
section
variable {Φ : String → List D → M D} {fu : Nat}
/-! ### what is told of a way -/
end
def turnOf (w : We) (rows : List Row) : List Nat := rows.foldl (fun t q => comp (tuR w q) t) (List.range w.many)
/-- what is done at the way's end -/
def endV (w : We) (h : Nat) (b : Int) : Nat := if b < 0 then w.before.getD h 0 else match (ruA w h (noAt w h b)).wh with
  | .own row => row.getD ((b / ((ruA w h (noAt w h b)).every : Nat)).toNat % row.length) 0
  | .cop _ _ _ => 0
def TurW (F : List D → M D) : Prop := ∀ (S : Sto) (k r : Nat) (w : We) (rows : List Row), WA S k r w → rows.length ≤ 1440 → (∀ q ∈ rows, RowOk w q) → Ok (F [.obj "Ways" k, dRows rows]) S fun d S' => d = tN (turnOf w rows) ∧ S' = S
def AllW (F : List D → M D) : Prop := ∀ (S : Sto) (k r : Nat) (w : We) (ps : List (List Row × Nat)), WA S k r w → PsOk w ps → Ok (F [.obj "Ways" k, dParts ps]) S fun d S' => d = tN (turnOf w (flat ps)) ∧ S' = S
def ChgW (F : List D → M D) : Prop := ∀ (S : Sto) (k r : Nat) (w : We) (rows : List Row) (n v : Nat), WA S k r w → rows.length ≤ 1440 → (∀ q ∈ rows, RowOk w q) → 1 ≤ n → n < 2 ^ 81 → v < w.many → Ok (F [.obj "Ways" k, dRows rows, .int (n : Nat), .int (v : Nat)]) S fun d S' => d = .int ((turnOf w (List.replicate n rows).flatten).getD v 0 : Nat) ∧ Fr S.length S S'
def OwnW (F : List D → M D) : Prop := ∀ (S : Sto) (m c : Nat) (q : Ru) (row : List Nat) (b : Nat), RuOk m c q → q.wh = .own row → b ≤ 10 ^ 20 → Ok (F [dR q, .int (b : Nat)]) S fun d S' => d = .int (row.getD (b / q.every % row.length) 0 : Nat) ∧ S' = S
section
variable {Φ : String → List D → M D} {fu : Nat}
end
end AGL
namespace AGL
open PySem AG
def DoW (F : List D → M D) : Prop := ∀ (S : Sto) (k r : Nat) (w : We) (h : Nat) (b : Int), WA S k r w → h < w.hands.length → b ≤ 10 ^ 20 → Ok (F [.obj "Ways" k, .int (h : Nat), .int b]) S fun d S' => ∃ rows h' b', Go w h b rows h' b' ∧ Stop w h' b' ∧ d = .int ((turnOf w rows).getD (endV w h' b') 0 : Nat) ∧ WA S' k r w ∧ Fr r S S'
def BegW (F : List D → M D) : Prop := ∀ (S : Sto) (k r : Nat) (w : We) (h : Nat) (b : Int), WA S k r w → h < w.hands.length → b ≤ 10 ^ 20 → Stop w h b → Ok (F [.obj "Ways" k, .int (h : Nat), .int b]) S fun d S' => d = .int (endV w h b : Nat) ∧ WA S' k r w ∧ Fr r S S'
def LedW (F : List D → M D) : Prop := ∀ (S : Sto) (k r : Nat) (w : We) (ps : List (List Row × Nat)) (e0 : Nat), WA S k r w → PsOk w ps → e0 < w.many → Ok (F [.obj "Ways" k, dParts ps, .int (e0 : Nat)]) S fun d S' => d = .int ((turnOf w (flat ps)).getD e0 0 : Nat) ∧ WA S' k r w ∧ Fr r S S'
def CopW (F : List D → M D) : Prop := ∀ (S : Sto) (ps : List (List Row × Nat)), (ps.length ≤ 1000 ∧ ∀ p ∈ ps, p.1.length ≤ 1440 ∧ p.2 < 2 ^ 81) → Ok (F [dParts ps]) S fun d S' => d = .int ((flat ps).length : Nat) ∧ S' = S
def SrcW (F : List D → M D) : Prop := ∀ (S : Sto) (w : We) (h : Nat) (b : Int), WeOk w → h < w.hands.length → b ≤ 10 ^ 20 → Ok (F [dWe w, .int (h : Nat), .int b]) S fun d S' => ∃ rows h' b', Go w h b rows h' b' ∧ Stop w h' b' ∧ d = .tup [.int (h' : Nat), .int (if b' < 0 then -1 else b'), tN (turnOf w rows), .int (rows.length : Nat)] ∧ Fr S.length S S'
def DatW (F : List D → M D) : Prop := ∀ (S : Sto) (w : We) (h : Nat) (b : Int), WeOk w → h < w.hands.length → b ≤ 10 ^ 20 → Ok (F [dWe w, .int (h : Nat), .int b]) S fun d S' => ∃ rows h' b', Go w h b rows h' b' ∧ Stop w h' b' ∧ d = .int ((turnOf w rows).getD (endV w h' b') 0 : Nat) ∧ Fr S.length S S'
theorem GoF.le {w : We} {f : Int} {h : Nat} {b : Int} {xs : List Row} {h1 : Nat} {b1 : Int} (g : GoF w f h b xs h1 b1) : b1 ≤ b := by
  have := g.sum
  omega
section
variable {Φ : String → List D → M D} {fu : Nat}
theorem Fr.up {S S1 S2 : Sto} {j : Nat} (f : Fr S.length S S1) (g : Fr j S1 S2) (h : S.length ≤ j) : Fr S.length S S2 := ⟨Nat.le_trans f.len g.len, fun i hi hn => (g.at_ i (Nat.lt_of_lt_of_le hi f.len) (by omega)).trans (f.at_ i hi hn)⟩
end
end AGL
namespace AGL
open PySem AG
def b_law_jar_j : Sms := .cons (.ret (.lst true (.cons (.bi .max2 (.cons (.int 0) (.cons (.bin .Sub (.var 0) (.bin .Pow (.int 10) (.int 18))) .nil))) (.cons (.bin .Mod (.var 0) (.bin .Add (.bin .Pow (.int 10) (.int 36)) (.int 67))) (.cons (.int 0) .nil))))) .nil
def b_law_dip_j : Sms := .cons (.ife (.cmp .Gt (.ix (.var 0) (.int 0)) (.int 0)) (.cons (.set 2 (.bin .Mod (.ix (.var 0) (.int 0)) (.var 1))) (.cons (.setix (.var 0) (.int 0) (.bin .FloorDiv (.ix (.var 0) (.int 0)) (.var 1))) (.cons (.ret (.var 2)) .nil))) .nil) (.cons (.setix (.var 0) (.int 2) (.bin .Add (.ix (.var 0) (.int 2)) (.int 1))) (.cons (.set 3 (.bin .Mod (.powW (.bin .Add (.ix (.var 0) (.int 1)) (.bin .Mult (.int 15485863) (.ix (.var 0) (.int 2)))) (.int 3)) (.bin .Add (.powW (.int 10) (.int 39)) (.int 3)))) (.cons (.set 3 (.bin .Mod (.powW (.bin .Add (.var 3) (.bin .Mult (.int 982451653) (.ix (.var 0) (.int 2)))) (.int 3)) (.bin .Add (.powW (.int 10) (.int 37)) (.int 43)))) (.cons (.ret (.bin .Mod (.bin .FloorDiv (.var 3) (.int 1048576)) (.var 1))) .nil))))
def b_law_bent_way_j : Sms := .cons (.set 2 (.call "_law_dip" (.cons (.var 0) (.cons (.int 5) .nil)))) (.cons (.ife (.cmp .Eq (.var 2) (.int 0)) (.cons (.set 3 (.call "_law_dip" (.cons (.var 0) (.cons (.var 1) .nil)))) (.cons (.ret (.bi .tup (.cons (.lc false (.bin .Mod (.bin .Add (.var 4) (.var 3)) (.var 1)) (.name 4) [4] (.rng (.var 1)) .no) .nil))) .nil)) .nil) (.cons (.ife (.cmp .Eq (.var 2) (.int 1)) (.cons (.set 5 (.lrg true (.var 1))) (.cons (.ret (.bi .tup (.cons (.lc false (.popAt (.var 5) (.call "_law_dip" (.cons (.var 0) (.cons (.bi .len (.cons (.var 5) .nil)) .nil)))) (.name 4) [4] (.rng (.var 1)) .no) .nil))) .nil)) .nil) (.cons (.ife (.cmp .Eq (.var 2) (.int 2)) (.cons (.ret (.bi .tup (.cons (.lc false (.bi .max2 (.cons (.int 0) (.cons (.bin .Sub (.var 4) (.int 1)) .nil))) (.name 4) [4] (.rng (.var 1)) .no) .nil))) .nil) .nil) (.cons (.ife (.cmp .Eq (.var 2) (.int 3)) (.cons (.ret (.bi .tup (.cons (.lc false (.bi .min2 (.cons (.bin .Mod (.var 4) (.int 2)) (.cons (.bin .Sub (.var 1) (.int 1)) .nil))) (.name 4) [4] (.rng (.var 1)) .no) .nil))) .nil) .nil) (.cons (.ret (.bi .tup (.cons (.lc false (.call "_law_dip" (.cons (.var 0) (.cons (.var 1) .nil))) (.name 4) [4] (.rng (.var 1)) .no) .nil))) .nil)))))
def b_law_rule_j : Sms := .cons (.set 5 (.ix (.var 3) (.call "_law_dip" (.cons (.var 0) (.cons (.bi .len (.cons (.var 3) .nil)) .nil))))) (.cons (.set 6 (.call "_law_dip" (.cons (.var 0) (.cons (.var 5) .nil)))) (.cons (.ife (.cmp .Eq (.call "_law_dip" (.cons (.var 0) (.cons (.int 4) .nil))) (.int 0)) (.cons (.set 7 (.ix (.var 4) (.call "_law_dip" (.cons (.var 0) (.cons (.bi .len (.cons (.var 4) .nil)) .nil))))) (.cons (.ret (.tup (.cons (.var 5) (.cons (.var 6) (.cons (.tup (.cons (.str "own") (.cons (.bi .tup (.cons (.lc false (.call "_law_dip" (.cons (.var 0) (.cons (.var 1) .nil))) (.name 8) [8] (.rng (.var 7)) .no) .nil)) .nil))) .nil))))) .nil)) .nil) (.cons (.set 9 (.bin .Add (.int 1) (.call "_law_dip" (.cons (.var 0) (.cons (.ix (.lst false (.cons (.int 3) (.cons (.int 12) .nil))) (.call "_law_dip" (.cons (.var 0) (.cons (.int 2) .nil)))) .nil))))) (.cons (.ret (.tup (.cons (.var 5) (.cons (.var 6) (.cons (.tup (.cons (.str "copy") (.cons (.call "_law_dip" (.cons (.var 0) (.cons (.var 2) .nil))) (.cons (.var 9) (.cons (.call "_law_bent_way" (.cons (.var 0) (.cons (.var 1) .nil))) .nil))))) .nil))))) .nil))))
def b_law_web_j : Sms := .cons (.set 2 (.lst false (.cons (.tup (.cons (.lst false (.cons (.int 1) (.cons (.int 2) (.cons (.int 4) .nil)))) (.cons (.lst false (.cons (.int 1) (.cons (.int 2) (.cons (.int 3) (.cons (.int 4) (.cons (.int 5) (.cons (.int 6) .nil))))))) .nil))) (.cons (.tup (.cons (.lst false (.cons (.int 1) (.cons (.int 2) (.cons (.int 3) (.cons (.int 6) (.cons (.int 12) .nil)))))) (.cons (.lst false (.cons (.int 1) (.cons (.int 2) (.cons (.int 4) (.cons (.int 5) .nil))))) .nil))) (.cons (.tup (.cons (.lst false (.cons (.int 1) (.cons (.int 3) (.cons (.int 9) .nil)))) (.cons (.lst false (.cons (.int 1) (.cons (.int 2) (.cons (.int 4) (.cons (.int 5) .nil))))) .nil))) .nil))))) (.cons (.set 2 (.bin .Add (.var 2) (.lst false (.cons (.tup (.cons (.lst false (.cons (.int 1) (.cons (.int 5) (.cons (.int 10) .nil)))) (.cons (.lst false (.cons (.int 1) (.cons (.int 2) (.cons (.int 3) (.cons (.int 4) (.cons (.int 6) .nil)))))) .nil))) (.cons (.tup (.cons (.lst false (.cons (.int 1) (.cons (.int 7) .nil))) (.cons (.lst false (.cons (.int 1) (.cons (.int 2) (.cons (.int 3) (.cons (.int 5) (.cons (.int 6) .nil)))))) .nil))) (.cons (.tup (.cons (.lst false (.cons (.int 1) (.cons (.int 11) .nil))) (.cons (.lst false (.cons (.int 1) (.cons (.int 2) (.cons (.int 4) (.cons (.int 5) .nil))))) .nil))) .nil)))))) (.cons (.unp [3, 4] (.ix (.bin .Add (.var 2) (.lst false (.cons (.tup (.cons (.lst false (.cons (.int 1) (.cons (.int 2) (.cons (.int 4) (.cons (.int 8) .nil))))) (.cons (.lst false (.cons (.int 1) (.cons (.int 2) (.cons (.int 3) (.cons (.int 5) (.cons (.int 6) .nil)))))) .nil))) .nil))) (.call "_law_dip" (.cons (.var 0) (.cons (.int 7) .nil))))) (.cons (.set 5 (.bin .Add (.int 1) (.call "_law_dip" (.cons (.var 0) (.cons (.ix (.lst false (.cons (.int 3) (.cons (.int 9) .nil))) (.call "_law_dip" (.cons (.var 0) (.cons (.int 2) .nil)))) .nil))))) (.cons (.set 6 (.bin .Add (.int 1) (.call "_law_dip" (.cons (.var 0) (.cons (.var 1) .nil))))) (.cons (.set 7 (.lst true .nil)) (.cons (.for (.name 8) (.rng (.var 6)) (.cons (.set 9 (.lc false (.call "_law_rule" (.cons (.var 0) (.cons (.var 5) (.cons (.var 6) (.cons (.var 3) (.cons (.var 4) .nil)))))) (.name 10) [10] (.rng (.call "_law_dip" (.cons (.var 0) (.cons (.ix (.lst false (.cons (.int 3) (.cons (.int 6) .nil))) (.call "_law_dip" (.cons (.var 0) (.cons (.int 2) .nil)))) .nil)))) .no)) (.cons (.app (.var 7) (.bi .tup (.cons (.bin .Add (.var 9) (.lst false (.cons (.call "_law_rule" (.cons (.var 0) (.cons (.var 5) (.cons (.var 6) (.cons (.lst false (.cons (.int 1) .nil)) (.cons (.var 4) .nil)))))) .nil))) .nil))) .nil))) (.cons (.ret (.tup (.cons (.var 5) (.cons (.bi .tup (.cons (.lc false (.call "_law_dip" (.cons (.var 0) (.cons (.var 5) .nil))) (.name 8) [8] (.rng (.var 6)) .no) .nil)) (.cons (.bi .tup (.cons (.var 7) .nil)) .nil))))) .nil)))))))
def b_law_clock_j : Sms := .cons (.set 1 (.int 1)) (.cons (.for (.name 2) (.seq (.ix (.var 0) (.int 2))) (.cons (.for (.tup [3, 4, 5]) (.seq (.var 2)) (.cons (.set 6 (.ife (.cmp .Eq (.ix (.var 5) (.int 0)) (.str "own")) (.bin .Mult (.var 3) (.bi .len (.cons (.ix (.var 5) (.int 1)) .nil))) (.var 3))) (.cons (.set 7 (.var 1)) (.cons (.while (.cmp .Gt (.bin .Mod (.var 7) (.var 6)) (.int 0)) (.cons (.set 7 (.bin .Add (.var 7) (.var 1))) .nil)) (.cons (.set 1 (.var 7)) .nil))))) .nil)) (.cons (.ret (.var 1)) .nil))
end AGL
namespace AGL
open PySem AG
/-! ### the jar of draws -/
structure Jar (S : Sto) (k n : Nat) : Prop where
  ex : ∃ a b c : Int, S[k]? = some (some [.int a, .int b, .int c]) ∧ 0 ≤ b ∧ b < 10 ^ 37 ∧ 0 ≤ c ∧ c ≤ n
theorem Jar.lt {S : Sto} {k n : Nat} (h : Jar S k n) : k < S.length := let ⟨_, _, _, e, _⟩ := h.ex; (List.getElem?_eq_some_iff.mp e).1
theorem Jar.up {S : Sto} {k n m : Nat} (h : Jar S k n) (hm : n ≤ m) : Jar S k m := let ⟨a, b, c, e, h0, h1, h2, h3⟩ := h.ex; ⟨a, b, c, e, h0, h1, h2, by omega⟩
theorem Jar.same {S S' : Sto} {k n : Nat} (h : Jar S k n) (e : S'[k]? = S[k]?) : Jar S' k n := let ⟨a, b, c, e1, h1⟩ := h.ex; ⟨a, b, c, e.trans e1, h1⟩
theorem Jar.app {S : Sto} {k n : Nat} (h : Jar S k n) (x : Option (List D)) : Jar (S ++ [x]) k n := h.same (List.getElem?_append_left h.lt)
theorem Jar.set {S : Sto} {k n j : Nat} (h : Jar S k n) (x : Option (List D)) (hj : k ≠ j) : Jar (S.set j x) k n := h.same (List.getElem?_set_ne (Ne.symm hj))
def DipW (F : List D → M D) : Prop := ∀ (S : Sto) (k n m : Nat), Jar S k n → n ≤ 1000000000 → 1 ≤ m → m ≤ 1000000000 → Ok (F [.ref k, .int (m : Nat)]) S fun d S' => ∃ t : Nat, d = .int (t : Nat) ∧ t < m ∧ Jar S' k (n + 1) ∧ S'.length = S.length ∧ Fr k S S'
def JarW (F : List D → M D) : Prop := ∀ (S : Sto) (cell : Int), Ok (F [.int cell]) S fun d S' => d = .ref S.length ∧ Jar S' S.length 0 ∧ S'.length = S.length + 1 ∧ Fr S.length S S'
def BentW (F : List D → M D) : Prop := ∀ (S : Sto) (k n m : Nat), Jar S k n → n ≤ 1000000 → 1 ≤ m → m ≤ 9 → Ok (F [.ref k, .int (m : Nat)]) S fun d S' => ∃ ts, d = tN ts ∧ Tn m ts ∧ Jar S' k (n + 11) ∧ Fr k S S'
def dIs (xs : List Nat) : D := .lst (xs.map fun t => D.int (t : Nat))
structure RuJ (es ls : List Nat) (r : Ru) : Prop where
  e : r.every ∈ es
  l : ∀ row, r.wh = .own row → row.length ∈ ls
def RuleJW (F : List D → M D) : Prop := ∀ (S : Sto) (k n m c : Nat) (es ls : List Nat), Jar S k n → n ≤ 500000 → 1 ≤ m → m ≤ 9 → 1 ≤ c → c ≤ 6 → 1 ≤ es.length → es.length ≤ 20 → (∀ e ∈ es, 1 ≤ e ∧ e ≤ 12) → 1 ≤ ls.length → ls.length ≤ 20 → (∀ l ∈ ls, 1 ≤ l ∧ l ≤ 6) → Ok (F [.ref k, .int (m : Nat), .int (c : Nat), dIs es, dIs ls]) S fun d S' => ∃ r, d = dR r ∧ RuOk m c r ∧ RuJ es ls r ∧ Jar S' k (n + 30) ∧ Fr k S S'
theorem bits_le {x : Int} {k : Nat} (h : x.natAbs < 2 ^ k) : Builtin.Int.intBits x ≤ k + 1 := by
  unfold Builtin.Int.intBits
  split
  · omega
  · have : x.natAbs.log2 ≤ k := by
      rcases Nat.eq_zero_or_pos x.natAbs with z | z
      · rw [z]; simp
      · have := (Nat.log2_lt (by omega)).mpr h
        omega
    omega
theorem ok_powW {i j : Int} {S : Sto} {P : D → Sto → Prop} (h0 : 0 ≤ j) (hj : j ≤ 1000) (h : i.natAbs < 2 ^ 200) : Ok (powWD (.int i) (.int j)) S P = P (.int (i ^ j.toNat)) S := by
  apply ok_of_run
  have hb := bits_le h
  have e : (decide (0 ≤ j) && decide ((Builtin.Int.intBits i : Int) * j ≤ 2 ^ 27)) = true := by
    rw [Bool.and_eq_true, decide_eq_true_eq, decide_eq_true_eq]
    refine ⟨h0, ?_⟩
    have h1 : ((Builtin.Int.intBits i : Nat) : Int) * j ≤ 201 * 1000 := by
      have h2 : ((Builtin.Int.intBits i : Nat) : Int) * j ≤ 201 * j := Int.mul_le_mul_of_nonneg_right (by omega) h0
      omega
    have h3 : (2 : Int) ^ 27 = 134217728 := by decide
    rw [h3]
    omega
  show need _ _ S = _
  rw [e]
  rfl
section
variable {Φ : String → List D → M D} {fu : Nat}
theorem jar_run : JarW (runF Φ fu 1 b_law_jar_j) := by
  intro S cell
  simp only [b_law_jar_j, runF, exs, ex, ev, evs, evt, evo, evi, evc, ok_bnd, ok_ret', ok_getV, ok_getC, ok_setC, ok_opt, ok_need, ok_ite, ok_mkLf, ok_mkLt, ok_notB, List.map_cons, List.map_nil, List.replicate_zero, List.replicate_succ, List.length_cons, List.length_nil, List.cons_append, List.nil_append, Nat.reduceSub, Nat.reduceAdd, List.getElem?_cons_zero, List.getElem?_cons_succ, Option.some.injEq, exists_eq_left', ixD_i, setIx_ri, appD_r, isC_r, items_tup, items_lst, items_fro, items_ref, tru_b, tru_i, b_add, b_sub, b_mul, b_div, b_mod, b_pow, b_band, addD_ii, subD_ii, mulD_ii, modD_ii, divD_ii, powD_ii, bandD_ii, addD_tt, addD_ll, addD_fl, c_eq, c_ne, c_lt, c_le, c_gt, c_ge, c_is, c_isn, isD_bb, eqD_ii, eqD_ss, eqD_bb, ltD_ii, leD_ii, bi_len, bi_max, bi_min, bi_tup, bi_lst, bi_repr, bi_all, maxB_ii, minB_ii, lenB_1, tupB_1, lstB_1, reprB_1, allB_1, slD_t, slD_l, slD_f, slD_r, ints2_ii, popD_ri, dgetF_2, lset_t, lset_l, lset_r, AG.wipeD, asg_n, asg_t, asg_p, AG.setAll, atI_0, atI_1, atI_2, atI_3, ixN_30, ixN_31, ixN_32, List.set_cons_zero, List.set_cons_succ, List.getElem?_set_self, List.length_set, Bool.and_eq_true, decide_eq_true_eq, decide_eq_false_iff_not, bne_iff_ne, bne_eq_false_iff_eq, Int.toNat_natCast]
  have h36 : (10 : Int) ^ Int.toNat 36 = 1000000000000000000000000000000000000 := by decide
  have h37 : (10 : Int) ^ 37 = 10000000000000000000000000000000000000 := by decide
  refine ⟨⟨by decide, by decide⟩, ⟨by decide, by decide⟩, by decide, by decide, trivial, ⟨_, _, _, by rw [List.getElem?_append_right (Nat.le_refl _), Nat.sub_self]; rfl, Int.emod_nonneg _ (by rw [h36]; decide), ?_, by omega, by omega⟩, by simp, Fr.app _ _ _⟩
  have := Int.emod_lt_of_pos cell (show (0 : Int) < 10 ^ Int.toNat 36 + 67 by rw [h36]; decide)
  rw [h36] at this ⊢
  rw [h37]
  omega
end
end AGL
namespace AGL
open PySem AG
def b_law_far_j : Sms := .cons (.set 2 (.tenp (.bin .Add (.int 4) (.call "_law_dip" (.cons (.var 0) (.cons (.int 14) .nil)))))) (.cons (.set 3 (.lst false (.cons (.call "_law_dip" (.cons (.var 0) (.cons (.int 30) .nil))) (.cons (.call "_law_dip" (.cons (.var 0) (.cons (.int 6000) .nil))) (.cons (.call "_law_dip" (.cons (.var 0) (.cons (.var 2) .nil))) (.cons (.call "_law_dip" (.cons (.var 0) (.cons (.bin .Add (.var 1) (.int 1)) .nil))) .nil)))))) (.cons (.ret (.ix (.bin .Add (.var 3) (.lst false (.cons (.bin .Sub (.var 1) (.call "_law_dip" (.cons (.var 0) (.cons (.int 400) .nil)))) .nil))) (.call "_law_dip" (.cons (.var 0) (.cons (.int 5) .nil))))) .nil))
end AGL
namespace AGL
open PySem AG
/-! ### == of plain data -/
mutual
def pl : D → Bool
  | .non => true
  | .int _ => true
  | .str s => PyData.strOk s
  | .tup xs => pls xs
  | .lst xs => pls xs
  | .bl _ => false
  | .fro _ => false
  | .ref _ => false
  | .ty _ => false
  | .dic _ _ _ => false
  | .obj _ _ => false
  | .dct _ _ => false
  | .set _ => false
  | .frd _ _ => false
  | .exc _ => false
def pls : List D → Bool
  | [] => true
  | x :: xs => pl x && pls xs
end
mutual
def dpt : D → Nat
  | .tup xs => dpts xs + 1
  | .lst xs => dpts xs + 1
  | .non => 0
  | .int _ => 0
  | .str s => 0
  | .bl _ => 0
  | .fro _ => 0
  | .ref _ => 0
  | .ty _ => 0
  | .dic _ _ _ => 0
  | .obj _ _ => 0
  | .dct _ _ => 0
  | .set _ => 0
  | .frd _ _ => 0
  | .exc _ => 0
def dpts : List D → Nat
  | [] => 0
  | x :: xs => max (dpt x) (dpts xs)
end
mutual
theorem pl_py : ∀ d : D, pl d = true → ∃ p, toPy d = some p ∧ p.canLay0 = true ∧ p.depth ≤ dpt d
  | .non, _ => ⟨.none, by simp only [toPy], by simp only [PyData.canLay0], by simp only [PyData.depth, dpt, Nat.le_refl]⟩
  | .int i, _ => ⟨.int i, by simp only [toPy], by simp only [PyData.canLay0], by simp only [PyData.depth, dpt, Nat.le_refl]⟩
  | .str s, h => ⟨.str s, by simp only [toPy], by simp only [pl] at h; simp only [PyData.canLay0]; exact h, by simp only [PyData.depth, dpt, Nat.le_refl]⟩
  | .tup xs, h => by
    simp only [pl] at h
    obtain ⟨ps, h1, h2, h3⟩ := pls_py xs h
    exact ⟨.tuple ps, by simp only [toPy, h1, Option.map_some], by simp only [PyData.canLay0]; exact h2, by simp only [PyData.depth, dpt]; omega⟩
  | .lst xs, h => by
    simp only [pl] at h
    obtain ⟨ps, h1, h2, h3⟩ := pls_py xs h
    exact ⟨.list ps, by simp only [toPy, h1, Option.map_some], by simp only [PyData.canLay0]; exact h2, by simp only [PyData.depth, dpt]; omega⟩
  | .bl _, h => by simp only [pl] at h; cases h
  | .fro _, h => by simp only [pl] at h; cases h
  | .ref _, h => by simp only [pl] at h; cases h
  | .ty _, h => by simp only [pl] at h; cases h
  | .dic _ _ _, h => by simp only [pl] at h; cases h
  | .obj _ _, h => by simp only [pl] at h; cases h
  | .dct _ _, h => by simp only [pl] at h; cases h
  | .set _, h => by simp only [pl] at h; cases h
  | .frd _ _, h => by simp only [pl] at h; cases h
  | .exc _, h => by simp only [pl] at h; cases h
theorem pls_py : ∀ ds : List D, pls ds = true → ∃ ps, toPys ds = some ps ∧ PyData.canLayAll0 ps = true ∧ PyData.depthAll ps ≤ dpts ds
  | [], _ => ⟨[], by simp only [toPys], by simp only [PyData.canLayAll0], by simp only [PyData.depthAll, dpts, Nat.le_refl]⟩
  | x :: xs, h => by
    simp only [pls, Bool.and_eq_true] at h
    obtain ⟨p, h1, h2, h3⟩ := pl_py x h.1
    obtain ⟨ps, h4, h5, h6⟩ := pls_py xs h.2
    exact ⟨p :: ps, by simp only [toPys, h1, h4], by simp only [PyData.canLayAll0, h2, h5, Bool.and_self], by simp only [PyData.depthAll, dpts]; omega⟩
end
theorem py_tup {xs : List D} {p : PyData} (h : toPy (.tup xs) = some p) : ∃ ps, toPys xs = some ps ∧ p = .tuple ps := by
  simp only [toPy] at h
  obtain ⟨ps, h1, h2⟩ := Option.map_eq_some_iff.mp h
  exact ⟨ps, h1, h2.symm⟩
theorem py_lst {xs : List D} {p : PyData} (h : toPy (.lst xs) = some p) : ∃ ps, toPys xs = some ps ∧ p = .list ps := by
  simp only [toPy] at h
  obtain ⟨ps, h1, h2⟩ := Option.map_eq_some_iff.mp h
  exact ⟨ps, h1, h2.symm⟩
theorem py_cons {x : D} {xs : List D} {ps : List PyData} (h : toPys (x :: xs) = some ps) : ∃ p qs, toPy x = some p ∧ toPys xs = some qs ∧ ps = p :: qs := by
  simp only [toPys] at h
  cases h1 : toPy x with
  | none => rw [h1] at h; cases h
  | some p =>
    cases h2 : toPys xs with
    | none => rw [h1, h2] at h; cases h
    | some qs => rw [h1, h2] at h; exact ⟨p, qs, rfl, rfl, (Option.some.inj h).symm⟩
/-- the five kinds -/
theorem py_kind {d : D} {p : PyData} (h : pl d = true) (e : toPy d = some p) : (d = .non ∧ p = .none) ∨ (∃ i, d = .int i ∧ p = .int i) ∨ (∃ s, d = .str s ∧ p = .str s) ∨ (∃ xs ps, d = .tup xs ∧ p = .tuple ps ∧ pls xs = true ∧ toPys xs = some ps) ∨ (∃ xs ps, d = .lst xs ∧ p = .list ps ∧ pls xs = true ∧ toPys xs = some ps) := by
  cases d with
  | non => simp only [toPy, Option.some.injEq] at e; exact .inl ⟨rfl, e.symm⟩
  | int i => simp only [toPy, Option.some.injEq] at e; exact .inr (.inl ⟨i, rfl, e.symm⟩)
  | str s => simp only [toPy, Option.some.injEq] at e; exact .inr (.inr (.inl ⟨s, rfl, e.symm⟩))
  | tup xs =>
    simp only [pl] at h
    obtain ⟨ps, h1, h2⟩ := py_tup e
    exact .inr (.inr (.inr (.inl ⟨xs, ps, rfl, h2, h, h1⟩)))
  | lst xs =>
    simp only [pl] at h
    obtain ⟨ps, h1, h2⟩ := py_lst e
    exact .inr (.inr (.inr (.inr ⟨xs, ps, rfl, h2, h, h1⟩)))
  | _ => simp only [pl] at h; cases h
mutual
theorem eqv_py : ∀ (p q : PyData) (a b : D), pl a = true → pl b = true → toPy a = some p → toPy b = some q → (PyData.eqv p q = true ↔ a = b)
  | p, q, a, b, ha, hb, ea, eb => by
    rcases py_kind ha ea with ⟨rfl, rfl⟩ | ⟨i, rfl, rfl⟩ | ⟨s, rfl, rfl⟩ | ⟨xs, ps, rfl, rfl, h1, h2⟩ | ⟨xs, ps, rfl, rfl, h1, h2⟩ <;>
      rcases py_kind hb eb with ⟨rfl, rfl⟩ | ⟨j, rfl, rfl⟩ | ⟨t, rfl, rfl⟩ | ⟨ys, qs, rfl, rfl, h3, h4⟩ | ⟨ys, qs, rfl, rfl, h3, h4⟩
    case inr.inr.inr.inl.inr.inr.inr.inl => simp only [PyData.eqv, eqvs_py ps qs xs ys h1 h3 h2 h4, D.tup.injEq]
    case inr.inr.inr.inr.inr.inr.inr.inr => simp only [PyData.eqv, eqvs_py ps qs xs ys h1 h3 h2 h4, D.lst.injEq]
    all_goals simp [PyData.eqv]
  termination_by p => 2 * sizeOf p
theorem eqvs_py : ∀ (ps qs : List PyData) (xs ys : List D), pls xs = true → pls ys = true → toPys xs = some ps → toPys ys = some qs → (PyData.eqvAll ps qs = true ↔ xs = ys)
  | ps, qs, [], [], _, _, e1, e2 => by
    simp only [toPys, Option.some.injEq] at e1 e2
    subst e1 e2
    simp only [PyData.eqvAll]
  | ps, qs, [], y :: ys, _, _, e1, e2 => by
    simp only [toPys, Option.some.injEq] at e1
    obtain ⟨q, qs', _, _, rfl⟩ := py_cons e2
    subst e1
    simp [PyData.eqvAll]
  | ps, qs, x :: xs, [], _, _, e1, e2 => by
    simp only [toPys, Option.some.injEq] at e2
    obtain ⟨q, qs', _, _, rfl⟩ := py_cons e1
    subst e2
    simp [PyData.eqvAll]
  | ps, qs, x :: xs, y :: ys, h1, h2, e1, e2 => by
    obtain ⟨p, ps', a1, a2, rfl⟩ := py_cons e1
    obtain ⟨q, qs', b1, b2, rfl⟩ := py_cons e2
    simp only [pls, Bool.and_eq_true] at h1 h2
    simp only [PyData.eqvAll, Bool.and_eq_true, eqv_py p q x y h1.1 h2.1 a1 b1, eqvs_py ps' qs' xs ys h1.2 h2.2 a2 b2, List.cons.injEq]
  termination_by ps => 2 * sizeOf ps + 1
end
noncomputable def eqB (a b : D) : Bool := @decide (a = b) (Classical.propDecidable _)
theorem eqB_t {a b : D} (h : a = b) : eqB a b = true := @decide_eq_true _ (Classical.propDecidable _) h
theorem eqB_f {a b : D} (h : ¬ a = b) : eqB a b = false := @decide_eq_false _ (Classical.propDecidable _) h
theorem eqB_iff {a b : D} : eqB a b = true ↔ a = b := ⟨fun h => @of_decide_eq_true _ (Classical.propDecidable _) h, eqB_t⟩
theorem ok_eqG {a b : D} {S : Sto} {P : Bool → Sto → Prop} (ha : pl a = true) (hb : pl b = true) (da : dpt a ≤ 60) (db : dpt b ≤ 60) : Ok (eqG a b) S P = P (eqB a b) S := by
  obtain ⟨p, p1, p2, p3⟩ := pl_py a ha
  obtain ⟨q, q1, q2, q3⟩ := pl_py b hb
  unfold eqG
  rw [p1, q1]
  show Ok (need _ _) S P = _
  have s1 : SeqAt.shaped p = true := by unfold SeqAt.shaped; rw [p2, decide_eq_true (by omega)]; rfl
  have s2 : SeqAt.shaped q = true := by unfold SeqAt.shaped; rw [q2, decide_eq_true (by omega)]; rfl
  rw [s1, s2]
  have e : PyData.eqv p q = eqB a b := by
    rw [Bool.eq_iff_iff, eqB_iff]
    exact eqv_py p q a b ha hb p1 q1
  rw [e]
  exact ok_ret'
theorem ok_eqP {a b : D} {S : Sto} {P : Bool → Sto → Prop} (ha : pl a = true) (hb : pl b = true) (da : dpt a ≤ 60) (db : dpt b ≤ 60) : Ok (eqD a b) S P = P (eqB a b) S := by
  have g := ok_eqG (S := S) (P := P) ha hb da db
  unfold eqD
  split
  · rename_i i j
    rw [ok_ret']
    congr 1
    rw [Bool.eq_iff_iff, eqB_iff, decide_eq_true_eq]
    exact ⟨fun h => by rw [h], fun h => by injection h⟩
  · rename_i i j
    rw [ok_ret']
    congr 1
    rw [Bool.eq_iff_iff, eqB_iff, decide_eq_true_eq]
    exact ⟨fun h => by rw [h], fun h => by injection h⟩
  · simp only [pl] at ha; cases ha
  · rename_i x xs
    rw [ok_ret', eqB_f (fun z => by injection z with z; cases z)]
  · rename_i x xs
    rw [ok_ret', eqB_f (fun z => by injection z with z; cases z)]
  · simp only [pl] at ha; cases ha
  · rw [ok_ret', eqB_f (fun z => by cases z)]
  · rw [ok_ret', eqB_f (fun z => by cases z)]
  · simp only [pl] at ha; cases ha
  · exact g
end AGL
namespace AGL
open PySem AG
/-! ### times in told form, and what they count -/
structure Ti where
  F : Nat
  R : Nat
  A : List Nat
  W : List Nat
structure TiOk (T : Ti) : Prop where
  r1 : 1 ≤ T.R
  fb : T.F ≤ 100000
  rb : T.R ≤ 100000
  au : T.A.Pairwise (· < ·)
  al : ∀ a ∈ T.A, a < T.F
  wu : T.W.Pairwise (· < ·)
  wl : ∀ a ∈ T.W, a < T.R
def cntL (l : List Nat) (b : Nat) : Nat := (l.filter fun x => decide (x < b)).length
def mea (T : Ti) (b : Nat) : Bool := if b < T.F then decide (b ∈ T.A) else decide (b % T.R ∈ T.W)
def cbr (T : Ti) (b : Nat) : Nat := b / T.R * T.W.length + cntL T.W (b % T.R)
def cbl (T : Ti) (b : Nat) : Nat := if b ≤ T.F then cntL T.A b else T.A.length + cbr T b - cbr T T.F
def kthT (T : Ti) (k : Nat) : Option Nat := if k < T.A.length then T.A[k]? else if T.W = [] then none else some ((k - T.A.length + cbr T T.F) / T.W.length * T.R + T.W.getD ((k - T.A.length + cbr T T.F) % T.W.length) 0)
theorem cntL_zero (l : List Nat) : cntL l 0 = 0 := by
  unfold cntL
  rw [List.length_eq_zero_iff, List.filter_eq_nil_iff]
  intro x _
  simp
theorem cntL_all {l : List Nat} {b : Nat} (h : ∀ x ∈ l, x < b) : cntL l b = l.length := by
  unfold cntL
  rw [List.filter_eq_self.mpr fun x hx => decide_eq_true (h x hx)]
theorem cntL_cons (x : Nat) (l : List Nat) (b : Nat) : cntL (x :: l) b = (if x < b then 1 else 0) + cntL l b := by
  unfold cntL
  rw [List.filter_cons]
  by_cases h : x < b
  · rw [if_pos (decide_eq_true h), if_pos h, List.length_cons]
    omega
  · rw [if_neg (by simpa using h), if_neg h]
    omega
theorem cntL_succ : ∀ {l : List Nat} {b : Nat}, l.Pairwise (· < ·) → cntL l (b + 1) = cntL l b + if b ∈ l then 1 else 0
  | [], b, _ => by simp [cntL]
  | x :: l, b, h => by
    obtain ⟨h1, h2⟩ := List.pairwise_cons.mp h
    rw [cntL_cons, cntL_cons, cntL_succ h2]
    by_cases e : x = b
    · subst e
      have hn : ¬ x ∈ l := fun z => Nat.lt_irrefl _ (h1 x z)
      rw [if_pos (Nat.lt_succ_self _), if_neg (Nat.lt_irrefl _), if_neg hn, if_pos (List.mem_cons_self ..)]
      omega
    · have em : (b ∈ x :: l) ↔ b ∈ l := ⟨fun z => (List.mem_cons.mp z).resolve_left (fun q => e q.symm), List.mem_cons_of_mem _⟩
      have e1 : (if b ∈ x :: l then 1 else 0) = (if b ∈ l then 1 else 0) := by
        by_cases hb : b ∈ l
        · rw [if_pos hb, if_pos (em.mpr hb)]
        · rw [if_neg hb, if_neg fun z => hb (em.mp z)]
      rw [e1]
      by_cases hx : x < b
      · rw [if_pos hx, if_pos (by omega)]
        omega
      · rw [if_neg hx, if_neg (by omega)]
        omega
theorem cntL_at : ∀ {l : List Nat} {k x : Nat}, l.Pairwise (· < ·) → l[k]? = some x → cntL l x = k
  | [], k, x, _, h => by cases h
  | y :: l, 0, x, h, hk => by
    cases hk
    obtain ⟨h1, h2⟩ := List.pairwise_cons.mp h
    rw [cntL_cons, if_neg (Nat.lt_irrefl _)]
    unfold cntL
    rw [Nat.zero_add, List.length_eq_zero_iff, List.filter_eq_nil_iff]
    intro z hz
    have := h1 z hz
    simp
    omega
  | y :: l, k + 1, x, h, hk => by
    obtain ⟨h1, h2⟩ := List.pairwise_cons.mp h
    have hk : l[k]? = some x := hk
    rw [cntL_cons, if_pos (h1 x (List.mem_of_getElem? hk)), cntL_at h2 hk]
    omega
section
variable {T : Ti}
theorem cbr_succ (h : TiOk T) (b : Nat) : cbr T (b + 1) = cbr T b + if b % T.R ∈ T.W then 1 else 0 := by
  have r1 := h.r1
  have hm := Nat.mod_lt b (show 0 < T.R by omega)
  have hd := Nat.div_add_mod b T.R
  unfold cbr
  by_cases e : b % T.R + 1 < T.R
  · have e1 : (b + 1) / T.R = b / T.R := by
      rw [Nat.div_eq_iff (by omega)]
      have := Nat.mul_comm T.R (b / T.R)
      constructor
      · omega
      · omega
    have e2 : (b + 1) % T.R = b % T.R + 1 := by
      rw [Nat.add_mod, Nat.mod_eq_of_lt (show 1 < T.R by omega), Nat.mod_eq_of_lt e]
    rw [e1, e2, cntL_succ h.wu]
    omega
  · have e3 : b % T.R + 1 = T.R := by omega
    have e0 : b + 1 = T.R * (b / T.R + 1) := by rw [Nat.mul_add, Nat.mul_one]; omega
    have e1 : (b + 1) / T.R = b / T.R + 1 := by rw [e0, Nat.mul_div_cancel_left _ (by omega)]
    have e2 : (b + 1) % T.R = 0 := by rw [e0, Nat.mul_mod_right]
    have e4 : cntL T.W (b % T.R + 1) = T.W.length := cntL_all fun x hx => by have := h.wl x hx; omega
    rw [cntL_succ h.wu] at e4
    rw [e1, e2, cntL_zero, Nat.add_mul, Nat.one_mul]
    omega
theorem cbr_mono (h : TiOk T) {b c : Nat} (hbc : b ≤ c) : cbr T b ≤ cbr T c := by
  obtain ⟨d, rfl⟩ := Nat.exists_eq_add_of_le hbc
  clear hbc
  induction d with
  | zero => exact Nat.le_refl _
  | succ d ih =>
    have := cbr_succ h (b + d)
    rw [← Nat.add_assoc, this]
    omega
theorem cbl_succ (h : TiOk T) (b : Nat) : cbl T (b + 1) = cbl T b + if mea T b = true then 1 else 0 := by
  unfold cbl mea
  by_cases h1 : b < T.F
  · rw [if_pos (show b + 1 ≤ T.F by omega), if_pos (show b ≤ T.F by omega), cntL_succ h.au, if_pos h1]
    simp only [decide_eq_true_eq]
  · have hs := cbr_succ h b
    have hm := cbr_mono h (show T.F ≤ b by omega)
    rw [if_neg (show ¬ b + 1 ≤ T.F by omega), if_neg h1]
    simp only [decide_eq_true_eq]
    by_cases h2 : b ≤ T.F
    · have e : b = T.F := by omega
      rw [if_pos h2, cntL_all fun x hx => by have := h.al x hx; omega, hs]
      rw [← e]
      omega
    · rw [if_neg h2, hs]
      omega
theorem cbl_zero : cbl T 0 = 0 := by
  unfold cbl
  rw [if_pos (Nat.zero_le _), cntL_zero]
theorem cbl_mono (h : TiOk T) {b c : Nat} (hbc : b ≤ c) : cbl T b ≤ cbl T c := by
  obtain ⟨d, rfl⟩ := Nat.exists_eq_add_of_le hbc
  clear hbc
  induction d with
  | zero => exact Nat.le_refl _
  | succ d ih =>
    have := cbl_succ h (b + d)
    rw [← Nat.add_assoc, this]
    omega
theorem mea_up (h : TiOk T) {b c : Nat} (m : mea T b = true) (hbc : b < c) : cbl T b + 1 ≤ cbl T c := by
  have h1 := cbl_succ h b
  rw [if_pos m] at h1
  have := cbl_mono h (show b + 1 ≤ c by omega)
  omega
theorem mea_inj (h : TiOk T) {b c : Nat} (m : mea T b = true) (m2 : mea T c = true) (e : cbl T b = cbl T c) : b = c := by
  rcases Nat.lt_trichotomy b c with z | z | z
  · have := mea_up h m z; omega
  · exact z
  · have := mea_up h m2 z; omega
theorem cbl_cnt (h : TiOk T) (b : Nat) : ∀ n : Nat, cbl T (b + n) = cbl T b + ((List.range n).filter fun i => mea T (b + i)).length
  | 0 => by simp
  | n + 1 => by
    rw [← Nat.add_assoc, cbl_succ h, cbl_cnt h b n, List.range_succ, List.filter_append, List.length_append]
    by_cases m : mea T (b + n) = true
    · have e : [n].filter (fun i => mea T (b + i)) = [n] := by simp [m]
      rw [if_pos m, e]
      simp
      omega
    · have e : [n].filter (fun i => mea T (b + i)) = [] := by simp [m]
      rw [if_neg m, e]
      simp
theorem kth_ok (h : TiOk T) {k x : Nat} (e : kthT T k = some x) : mea T x = true ∧ cbl T x = k := by
  unfold kthT at e
  by_cases h1 : k < T.A.length
  · rw [if_pos h1] at e
    have hx := List.mem_of_getElem? e
    have hl := h.al x hx
    constructor
    · unfold mea
      rw [if_pos hl]
      exact decide_eq_true hx
    · unfold cbl
      rw [if_pos (by omega)]
      exact cntL_at h.au e
  · rw [if_neg h1] at e
    by_cases h2 : T.W = []
    · rw [if_pos h2] at e; cases e
    · rw [if_neg h2] at e
      have wp : 0 < T.W.length := List.length_pos_iff.mpr h2
      obtain ⟨n, hn⟩ : ∃ n, k - T.A.length + cbr T T.F = n := ⟨_, rfl⟩
      rw [hn] at e
      have hm := Nat.mod_lt n wp
      obtain ⟨r, hr⟩ : ∃ r, T.W[n % T.W.length]? = some r := ⟨_, List.getElem?_eq_getElem hm⟩
      have hg : T.W.getD (n % T.W.length) 0 = r := by
        rw [List.getD_eq_getElem?_getD, hr]
        rfl
      rw [hg] at e
      cases e
      have hrl := h.wl r (List.mem_of_getElem? hr)
      have r1 := h.r1
      have e1 : (n / T.W.length * T.R + r) / T.R = n / T.W.length := by
        rw [Nat.mul_comm, Nat.mul_add_div (by omega), Nat.div_eq_of_lt hrl, Nat.add_zero]
      have e2 : (n / T.W.length * T.R + r) % T.R = r := by
        rw [Nat.mul_comm, Nat.mul_add_mod, Nat.mod_eq_of_lt hrl]
      have ec : cbr T (n / T.W.length * T.R + r) = n := by
        unfold cbr
        rw [e1, e2, cntL_at h.wu hr]
        have := Nat.div_add_mod n T.W.length
        rw [Nat.mul_comm]
        exact this
      generalize n / T.W.length * T.R + r = x at *
      have hmem : x % T.R ∈ T.W := by rw [e2]; exact List.mem_of_getElem? hr
      have hF : T.F ≤ x := by
        rcases Nat.lt_or_ge x T.F with z | z
        · have s := cbr_succ h x
          rw [if_pos hmem] at s
          have := cbr_mono h (show x + 1 ≤ T.F by omega)
          omega
        · exact z
      constructor
      · unfold mea
        rw [if_neg (by omega)]
        exact decide_eq_true hmem
      · unfold cbl
        by_cases hx : x ≤ T.F
        · have e3 : x = T.F := by omega
          rw [if_pos hx, cntL_all fun y hy => by have := h.al y hy; omega]
          rw [e3] at ec
          omega
        · rw [if_neg hx, ec]
          have := cbr_mono h hF
          omega
end
end AGL
namespace AGL
open PySem PySem.Spec PyProof.Rows L2 AG
def topS (i : Nat) : Stmt := PySem.Challenge.pw_agohands_k32_whole_counts_and_kths.main.body.getD i (.Pass ⟨0, 0, 0, 0⟩)
def b_count : Sms := .cons (.set 2 (.int 0)) (.cons (.set 3 (.bi .len (.cons (.var 0) .nil))) (.cons (.while (.cmp .Lt (.var 2) (.var 3)) (.cons (.set 4 (.bin .FloorDiv (.bin .Add (.var 2) (.var 3)) (.int 2))) (.cons (.ife (.cmp .Lt (.ix (.var 0) (.var 4)) (.var 1)) (.cons (.set 2 (.bin .Add (.var 4) (.int 1))) .nil) (.cons (.set 3 (.var 4)) .nil)) .nil))) (.cons (.ret (.var 2)) .nil)))
def b_count_by_rests : Sms := .cons (.unp [2, 3, 2, 4] (.var 0)) (.cons (.ret (.bin .Add (.bin .Mult (.bin .FloorDiv (.var 1) (.var 3)) (.bi .len (.cons (.var 4) .nil))) (.call "_count" (.cons (.var 4) (.cons (.bin .Mod (.var 1) (.var 3)) .nil))))) .nil)
def b_is_meant : Sms := .cons (.unp [2, 3, 4, 5] (.var 0)) (.cons (.ife (.cmp .Lt (.var 1) (.var 2)) (.cons (.set 6 (.var 4)) (.cons (.set 7 (.var 1)) .nil)) (.cons (.set 6 (.var 5)) (.cons (.set 7 (.bin .Mod (.var 1) (.var 3))) .nil))) (.cons (.set 8 (.call "_count" (.cons (.var 6) (.cons (.var 7) .nil)))) (.cons (.ret (.and (.cmp .Lt (.var 8) (.bi .len (.cons (.var 6) .nil))) (.cmp .Eq (.ix (.var 6) (.var 8)) (.var 7)))) .nil)))
def b_count_below : Sms := .cons (.unp [2, 3, 4, 3] (.var 0)) (.cons (.ife (.cmp .LtE (.var 1) (.var 2)) (.cons (.ret (.call "_count" (.cons (.var 4) (.cons (.var 1) .nil)))) .nil) .nil) (.cons (.ret (.bin .Sub (.bin .Add (.bi .len (.cons (.var 4) .nil)) (.call "_count_by_rests" (.cons (.var 0) (.cons (.var 1) .nil)))) (.call "_count_by_rests" (.cons (.var 0) (.cons (.var 2) .nil))))) .nil))
def b_kth : Sms := .cons (.unp [2, 3, 4, 5] (.var 0)) (.cons (.ife (.cmp .Lt (.var 1) (.bi .len (.cons (.var 4) .nil))) (.cons (.ret (.ix (.var 4) (.var 1))) .nil) .nil) (.cons (.ife (.not (.var 5)) (.cons (.ret .non) .nil) .nil) (.cons (.set 6 (.bin .Add (.bin .Sub (.var 1) (.bi .len (.cons (.var 4) .nil))) (.call "_count_by_rests" (.cons (.var 0) (.cons (.var 2) .nil))))) (.cons (.ret (.bin .Add (.bin .Mult (.bin .FloorDiv (.var 6) (.bi .len (.cons (.var 5) .nil))) (.var 3)) (.ix (.var 5) (.bin .Mod (.var 6) (.bi .len (.cons (.var 5) .nil)))))) .nil))))
def b_law_form : Sms := .cons (.set 2 (.bi .len (.cons (.var 1) .nil))) (.cons (.set 3 (.lc false (.var 4) (.name 4) [4] (.rng2 (.int 1) (.bin .Add (.var 2) (.int 1))) (.yes (.cmp .Eq (.bin .Mod (.var 2) (.var 4)) (.int 0))))) (.cons (.set 4 (.ix (.lc false (.var 5) (.name 5) [5] (.seq (.var 3)) (.yes (.cmp .Eq (.bin .Mult (.sl false (.var 1) .no (.yes (.var 5))) (.bin .FloorDiv (.var 2) (.var 5))) (.var 1)))) (.int 0))) (.cons (.set 6 (.bi .len (.cons (.var 0) .nil))) (.cons (.while (.and (.cmp .Gt (.var 6) (.int 0)) (.cmp .Eq (.ix (.var 0) (.bin .Sub (.var 6) (.int 1))) (.ix (.var 1) (.bin .Mod (.bin .Sub (.var 6) (.int 1)) (.var 4))))) (.cons (.set 6 (.bin .Sub (.var 6) (.int 1))) .nil)) (.cons (.set 7 (.bi .tup (.cons (.lc false (.var 8) (.name 8) [8] (.rng (.var 6)) (.yes (.ix (.var 0) (.var 8)))) .nil))) (.cons (.ret (.tup (.cons (.var 6) (.cons (.var 4) (.cons (.var 7) (.cons (.bi .tup (.cons (.lc false (.var 9) (.name 9) [9] (.rng (.var 4)) (.yes (.ix (.var 1) (.var 9)))) .nil)) .nil)))))) .nil))))))
def b_law_truths : Sms := .cons (.set 2 (.ix (.lst false (.cons (.int 0) (.cons (.int 4) (.cons (.int 1) (.cons (.int 2) (.cons (.int 3) .nil)))))) (.call "_law_dip" (.cons (.var 0) (.cons (.int 5) .nil))))) (.cons (.ret (.lc false (.cmp .Lt (.call "_law_dip" (.cons (.var 0) (.cons (.int 4) .nil))) (.var 2)) (.name 3) [3] (.rng (.var 1)) .no)) .nil)
def b_law_some : Sms := .cons (.set 1 (.ix (.lst false (.cons (.int 0) (.cons (.call "_law_dip" (.cons (.var 0) (.cons (.int 6) .nil))) (.cons (.call "_law_dip" (.cons (.var 0) (.cons (.int 40) .nil))) (.cons (.call "_law_dip" (.cons (.var 0) (.cons (.int 300) .nil))) .nil))))) (.call "_law_dip" (.cons (.var 0) (.cons (.int 4) .nil))))) (.cons (.set 2 (.bin .Add (.int 1) (.call "_law_dip" (.cons (.var 0) (.cons (.ix (.lst false (.cons (.int 1) (.cons (.int 6) (.cons (.int 30) (.cons (.int 240) .nil))))) (.call "_law_dip" (.cons (.var 0) (.cons (.int 4) .nil)))) .nil))))) (.cons (.ret (.lst false (.cons (.call "_law_truths" (.cons (.var 0) (.cons (.var 1) .nil))) (.cons (.call "_law_truths" (.cons (.var 0) (.cons (.var 2) .nil))) .nil)))) .nil))
def b_law_great : Sms := .cons (.set 1 (.mulL true (.lst false (.cons (.bl false) .nil)) (.call "_law_dip" (.cons (.var 0) (.cons (.int 20001) .nil))))) (.cons (.set 2 (.mulL true (.lst false (.cons (.bl false) .nil)) (.bin .Add (.int 1) (.call "_law_dip" (.cons (.var 0) (.cons (.int 50000) .nil)))))) (.cons (.for (.name 3) (.rng (.call "_law_dip" (.cons (.var 0) (.cons (.int 5) .nil)))) (.cons (.setix (.var 2) (.call "_law_dip" (.cons (.var 0) (.cons (.bi .len (.cons (.var 2) .nil)) .nil))) (.bl true)) (.cons (.ife (.cmp .NotEq (.var 1) (.lst false .nil)) (.cons (.setix (.var 1) (.call "_law_dip" (.cons (.var 0) (.cons (.bi .len (.cons (.var 1) .nil)) .nil))) (.bl true)) .nil) .nil) .nil))) (.cons (.settle 2 (.settle 1 (.ret (.lst false (.cons (.var 1) (.cons (.var 2) .nil)))))) .nil)))
def b_law_kths_right : Sms := .cons (.set 2 (.ix (.lst false (.cons (.call "_law_dip" (.cons (.var 0) (.cons (.int 5) .nil))) (.cons (.bi .max2 (.cons (.int 0) (.cons (.bin .Add (.bin .Sub (.bi .len (.cons (.ix (.var 1) (.int 2)) .nil)) (.int 2)) (.call "_law_dip" (.cons (.var 0) (.cons (.int 4) .nil)))) .nil))) (.cons (.call "_law_far" (.cons (.var 0) (.cons (.bin .Sub (.bin .Pow (.int 10) (.int 18)) (.int 1)) .nil))) .nil)))) (.call "_law_dip" (.cons (.var 0) (.cons (.int 3) .nil))))) (.cons (.set 3 (.call "kth" (.cons (.var 1) (.cons (.var 2) .nil)))) (.cons (.set 4 (.call "kth" (.cons (.var 1) (.cons (.bin .Add (.var 2) (.int 1)) .nil)))) (.cons (.ife (.cmp .Eq (.ix (.var 1) (.int 3)) (.tup .nil)) (.cons (.ret (.and (.cmp .Eq (.cmp .Is (.var 3) .non) (.cmp .GtE (.var 2) (.bi .len (.cons (.ix (.var 1) (.int 2)) .nil)))) (.cmp .Eq (.cmp .Is (.var 4) .non) (.cmp .GtE (.bin .Add (.var 2) (.int 1)) (.bi .len (.cons (.ix (.var 1) (.int 2)) .nil)))))) .nil) .nil) (.cons (.ife (.or (.cmp .Is (.var 3) .non) (.or (.cmp .Is (.var 4) .non) (.not (.cmp .Lt (.var 3) (.var 4))))) (.cons (.ret (.bl false)) .nil) .nil) (.cons (.ife (.or (.cmp .NotEq (.call "count_below" (.cons (.var 1) (.cons (.var 3) .nil))) (.var 2)) (.or (.cmp .NotEq (.call "count_below" (.cons (.var 1) (.cons (.var 4) .nil))) (.bin .Add (.var 2) (.int 1))) (.cmp .IsNot (.call "is_meant" (.cons (.var 1) (.cons (.var 3) .nil))) (.bl true)))) (.cons (.ret (.bl false)) .nil) .nil) (.cons (.set 5 (.bi .min3 (.cons (.var 4) (.cons (.bin .Add (.var 3) (.int 400)) (.cons (.bin .Pow (.int 10) (.int 18)) .nil))))) (.cons (.ret (.cmp .Eq (.lc false (.var 6) (.name 6) [6] (.rng2 (.bin .Add (.var 3) (.int 1)) (.var 5)) (.yes (.call "is_meant" (.cons (.var 1) (.cons (.var 6) .nil))))) (.lst false .nil))) .nil)))))))
def b_law_between_right : Sms := .cons (.set 2 (.call "_law_far" (.cons (.var 0) (.cons (.bin .Sub (.bin .Pow (.int 10) (.int 18)) (.int 400)) .nil)))) (.cons (.set 3 (.bin .Add (.var 2) (.call "_law_dip" (.cons (.var 0) (.cons (.int 400) .nil))))) (.cons (.set 4 (.lc false (.var 5) (.name 5) [5] (.rng2 (.var 2) (.var 3)) (.yes (.call "is_meant" (.cons (.var 1) (.cons (.var 5) .nil)))))) (.cons (.ife (.cmp .NotEq (.bin .Sub (.call "count_below" (.cons (.var 1) (.cons (.var 3) .nil))) (.call "count_below" (.cons (.var 1) (.cons (.var 2) .nil)))) (.bi .len (.cons (.var 4) .nil))) (.cons (.ret (.bl false)) .nil) .nil) (.cons (.for (.name 5) (.seq (.bin .Add (.sl false (.var 4) .no (.yes (.int 2))) (.sl false (.var 4) (.yes (.neg (.int 1))) .no))) (.cons (.ife (.cmp .NotEq (.call "kth" (.cons (.var 1) (.cons (.call "count_below" (.cons (.var 1) (.cons (.var 5) .nil))) .nil))) (.var 5)) (.cons (.ret (.bl false)) .nil) .nil) .nil)) (.cons (.ret (.cmp .Eq (.call "count_below" (.cons (.var 1) (.cons (.int 0) .nil))) (.int 0))) .nil)))))
def b_law : Sms := .cons (.for (.name 1) (.seq (.bin .Add (.sl false (.var 0) .no (.yes (.int 10))) (.lst false (.cons (.int 0) .nil)))) (.cons (.set 2 (.call "_law_jar" (.cons (.var 1) .nil))) (.cons (.set 3 (.lc true (.call "_law_some" (.cons (.var 2) .nil)) (.name 4) [4] (.rng (.int 3)) .no)) (.cons (.ife (.cmp .Eq (.call "_law_dip" (.cons (.var 2) (.cons (.int 4) .nil))) (.int 0)) (.cons (.app (.var 3) (.call "_law_great" (.cons (.var 2) .nil))) .nil) .nil) (.cons (.settle 3 (.for (.tup [5, 6]) (.seq (.var 3)) (.cons (.set 7 (.call "_law_form" (.cons (.var 5) (.cons (.var 6) .nil)))) (.cons (.for (.name 8) (.rng (.int 4)) (.cons (.ife (.or (.not (.call "_law_kths_right" (.cons (.var 2) (.cons (.var 7) .nil)))) (.not (.call "_law_between_right" (.cons (.var 2) (.cons (.var 7) .nil))))) (.cons (.ret (.bl false)) .nil) .nil) .nil)) .nil)))) .nil))))) (.cons (.ret (.bl true)) .nil)
def bodies : List Sms := [b_count, b_count_by_rests, b_is_meant, b_count_below, b_kth, b_law_jar_j, b_law_dip_j, b_law_form, b_law_truths, b_law_some, b_law_great, b_law_far_j, b_law_kths_right, b_law_between_right, b_law]
def db_count : Df := ⟨"_count", .fn, "_count", "_count", topS 1, ["numbers", "below", "low", "high", "middle"], ["numbers", "below"], []⟩
def db_count_by_rests : Df := ⟨"_count_by_rests", .fn, "_count_by_rests", "_count_by_rests", topS 2, ["times", "beat", "_", "again", "within"], ["times", "beat"], []⟩
def db_is_meant : Df := ⟨"is_meant", .fn, "is_meant", "is_meant", topS 3, ["times", "beat", "first", "again", "ahead", "within", "numbers", "number", "place"], ["times", "beat"], []⟩
def db_count_below : Df := ⟨"count_below", .fn, "count_below", "count_below", topS 4, ["times", "beat", "first", "_", "ahead"], ["times", "beat"], []⟩
def db_kth : Df := ⟨"kth", .fn, "kth", "kth", topS 5, ["times", "k", "first", "again", "ahead", "within", "by_rests"], ["times", "k"], []⟩
def db_law_jar : Df := ⟨"_law_jar", .fn, "_law_jar", "_law_jar", topS 7, ["cell"], ["cell"], []⟩
def db_law_dip : Df := ⟨"_law_dip", .fn, "_law_dip", "_law_dip", topS 8, ["jar", "many", "found", "one"], ["jar", "many"], []⟩
def db_law_form : Df := ⟨"_law_form", .fn, "_law_form", "_law_form", topS 9, ["early", "marks", "many", "parts", "part", "some", "first", "ahead", "beat", "rest"], ["early", "marks"], []⟩
def db_law_truths : Df := ⟨"_law_truths", .fn, "_law_truths", "_law_truths", topS 10, ["jar", "many", "often", "k"], ["jar", "many"], []⟩
def db_law_some : Df := ⟨"_law_some", .fn, "_law_some", "_law_some", topS 11, ["jar", "first", "length"], ["jar"], []⟩
def db_law_great : Df := ⟨"_law_great", .fn, "_law_great", "_law_great", topS 12, ["jar", "early", "marks", "k"], ["jar"], []⟩
def db_law_far : Df := ⟨"_law_far", .fn, "_law_far", "_law_far", topS 13, ["jar", "most", "bound", "some"], ["jar", "most"], []⟩
def db_law_kths_right : Df := ⟨"_law_kths_right", .fn, "_law_kths_right", "_law_kths_right", topS 14, ["jar", "times", "k", "here", "later", "last", "beat"], ["jar", "times"], []⟩
def db_law_between_right : Df := ⟨"_law_between_right", .fn, "_law_between_right", "_law_between_right", topS 15, ["jar", "times", "beat", "near", "met", "one"], ["jar", "times"], []⟩
def db_law : Df := ⟨"law", .fn, "law", "law", topS 16, ["script", "cell", "jar", "some", "k", "early", "marks", "times", "turn"], ["script"], []⟩
def defs : List Df := [db_count, db_count_by_rests, db_is_meant, db_count_below, db_kth, db_law_jar, db_law_dip, db_law_form, db_law_truths, db_law_some, db_law_great, db_law_far, db_law_kths_right, db_law_between_right, db_law]
def bts : List Str := ["len", "max", "tuple", "range", "int", "min"]
def cs : List (Str × CV) := []
def fls : List (String × String) := []
def xt : Xt := ⟨[], [], [], [], []⟩
abbrev TT : Defs := mkT defs bodies
theorem lookb_count : Look defs bodies bts cs fls xt db_count b_count := ⟨⟨rfl, rfl, rfl, by decide +kernel, rfl, by decide +kernel, by decide +kernel⟩, by decide +kernel, rfl, by decide, rfl⟩
theorem phib_count (fu l : Nat) : Phi fu TT (l + 1) "_count" = runF (Phi fu TT l) fu 5 b_count := phi_F lookb_count.tk rfl
theorem lookb_count_by_rests : Look defs bodies bts cs fls xt db_count_by_rests b_count_by_rests := ⟨⟨rfl, rfl, rfl, by decide +kernel, rfl, by decide +kernel, by decide +kernel⟩, by decide +kernel, rfl, by decide, rfl⟩
theorem phib_count_by_rests (fu l : Nat) : Phi fu TT (l + 1) "_count_by_rests" = runF (Phi fu TT l) fu 5 b_count_by_rests := phi_F lookb_count_by_rests.tk rfl
theorem lookb_is_meant : Look defs bodies bts cs fls xt db_is_meant b_is_meant := ⟨⟨rfl, rfl, rfl, by decide +kernel, rfl, by decide +kernel, by decide +kernel⟩, by decide +kernel, rfl, by decide, rfl⟩
theorem phib_is_meant (fu l : Nat) : Phi fu TT (l + 1) "is_meant" = runF (Phi fu TT l) fu 9 b_is_meant := phi_F lookb_is_meant.tk rfl
theorem lookb_count_below : Look defs bodies bts cs fls xt db_count_below b_count_below := ⟨⟨rfl, rfl, rfl, by decide +kernel, rfl, by decide +kernel, by decide +kernel⟩, by decide +kernel, rfl, by decide, rfl⟩
theorem phib_count_below (fu l : Nat) : Phi fu TT (l + 1) "count_below" = runF (Phi fu TT l) fu 5 b_count_below := phi_F lookb_count_below.tk rfl
theorem lookb_kth : Look defs bodies bts cs fls xt db_kth b_kth := ⟨⟨rfl, rfl, rfl, by decide +kernel, rfl, by decide +kernel, by decide +kernel⟩, by decide +kernel, rfl, by decide, rfl⟩
theorem phib_kth (fu l : Nat) : Phi fu TT (l + 1) "kth" = runF (Phi fu TT l) fu 7 b_kth := phi_F lookb_kth.tk rfl
theorem lookb_law_jar : Look defs bodies bts cs fls xt db_law_jar b_law_jar_j := ⟨⟨rfl, rfl, rfl, by decide +kernel, rfl, by decide +kernel, by decide +kernel⟩, by decide +kernel, rfl, by decide, rfl⟩
theorem phib_law_jar (fu l : Nat) : Phi fu TT (l + 1) "_law_jar" = runF (Phi fu TT l) fu 1 b_law_jar_j := phi_F lookb_law_jar.tk rfl
theorem lookb_law_dip : Look defs bodies bts cs fls xt db_law_dip b_law_dip_j := ⟨⟨rfl, rfl, rfl, by decide +kernel, rfl, by decide +kernel, by decide +kernel⟩, by decide +kernel, rfl, by decide, rfl⟩
theorem phib_law_dip (fu l : Nat) : Phi fu TT (l + 1) "_law_dip" = runF (Phi fu TT l) fu 4 b_law_dip_j := phi_F lookb_law_dip.tk rfl
theorem lookb_law_form : Look defs bodies bts cs fls xt db_law_form b_law_form := ⟨⟨rfl, rfl, rfl, by decide +kernel, rfl, by decide +kernel, by decide +kernel⟩, by decide +kernel, rfl, by decide, rfl⟩
theorem phib_law_form (fu l : Nat) : Phi fu TT (l + 1) "_law_form" = runF (Phi fu TT l) fu 10 b_law_form := phi_F lookb_law_form.tk rfl
theorem lookb_law_truths : Look defs bodies bts cs fls xt db_law_truths b_law_truths := ⟨⟨rfl, rfl, rfl, by decide +kernel, rfl, by decide +kernel, by decide +kernel⟩, by decide +kernel, rfl, by decide, rfl⟩
theorem phib_law_truths (fu l : Nat) : Phi fu TT (l + 1) "_law_truths" = runF (Phi fu TT l) fu 4 b_law_truths := phi_F lookb_law_truths.tk rfl
theorem lookb_law_some : Look defs bodies bts cs fls xt db_law_some b_law_some := ⟨⟨rfl, rfl, rfl, by decide +kernel, rfl, by decide +kernel, by decide +kernel⟩, by decide +kernel, rfl, by decide, rfl⟩
theorem phib_law_some (fu l : Nat) : Phi fu TT (l + 1) "_law_some" = runF (Phi fu TT l) fu 3 b_law_some := phi_F lookb_law_some.tk rfl
theorem lookb_law_great : Look defs bodies bts cs fls xt db_law_great b_law_great := ⟨⟨rfl, rfl, rfl, by decide +kernel, rfl, by decide +kernel, by decide +kernel⟩, by decide +kernel, rfl, by decide, rfl⟩
theorem phib_law_great (fu l : Nat) : Phi fu TT (l + 1) "_law_great" = runF (Phi fu TT l) fu 4 b_law_great := phi_F lookb_law_great.tk rfl
theorem lookb_law_far : Look defs bodies bts cs fls xt db_law_far b_law_far_j := ⟨⟨rfl, rfl, rfl, by decide +kernel, rfl, by decide +kernel, by decide +kernel⟩, by decide +kernel, rfl, by decide, rfl⟩
theorem phib_law_far (fu l : Nat) : Phi fu TT (l + 1) "_law_far" = runF (Phi fu TT l) fu 4 b_law_far_j := phi_F lookb_law_far.tk rfl
theorem lookb_law_kths_right : Look defs bodies bts cs fls xt db_law_kths_right b_law_kths_right := ⟨⟨rfl, rfl, rfl, by decide +kernel, rfl, by decide +kernel, by decide +kernel⟩, by decide +kernel, rfl, by decide, rfl⟩
theorem phib_law_kths_right (fu l : Nat) : Phi fu TT (l + 1) "_law_kths_right" = runF (Phi fu TT l) fu 7 b_law_kths_right := phi_F lookb_law_kths_right.tk rfl
theorem lookb_law_between_right : Look defs bodies bts cs fls xt db_law_between_right b_law_between_right := ⟨⟨rfl, rfl, rfl, by decide +kernel, rfl, by decide +kernel, by decide +kernel⟩, by decide +kernel, rfl, by decide, rfl⟩
theorem phib_law_between_right (fu l : Nat) : Phi fu TT (l + 1) "_law_between_right" = runF (Phi fu TT l) fu 6 b_law_between_right := phi_F lookb_law_between_right.tk rfl
theorem lookb_law : Look defs bodies bts cs fls xt db_law b_law := ⟨⟨rfl, rfl, rfl, by decide +kernel, rfl, by decide +kernel, by decide +kernel⟩, by decide +kernel, rfl, by decide, rfl⟩
theorem phib_law (fu l : Nat) : Phi fu TT (l + 1) "law" = runF (Phi fu TT l) fu 9 b_law := phi_F lookb_law.tk rfl
theorem looks : ∀ (i : Nat) (d : Df) (b : Sms), defs[i]? = some d → bodies[i]? = some b → Look defs bodies bts cs fls xt d b
  | 0, d, b, h1, h2 => by cases (Option.some.inj h1); cases (Option.some.inj h2); exact lookb_count
  | 1, d, b, h1, h2 => by cases (Option.some.inj h1); cases (Option.some.inj h2); exact lookb_count_by_rests
  | 2, d, b, h1, h2 => by cases (Option.some.inj h1); cases (Option.some.inj h2); exact lookb_is_meant
  | 3, d, b, h1, h2 => by cases (Option.some.inj h1); cases (Option.some.inj h2); exact lookb_count_below
  | 4, d, b, h1, h2 => by cases (Option.some.inj h1); cases (Option.some.inj h2); exact lookb_kth
  | 5, d, b, h1, h2 => by cases (Option.some.inj h1); cases (Option.some.inj h2); exact lookb_law_jar
  | 6, d, b, h1, h2 => by cases (Option.some.inj h1); cases (Option.some.inj h2); exact lookb_law_dip
  | 7, d, b, h1, h2 => by cases (Option.some.inj h1); cases (Option.some.inj h2); exact lookb_law_form
  | 8, d, b, h1, h2 => by cases (Option.some.inj h1); cases (Option.some.inj h2); exact lookb_law_truths
  | 9, d, b, h1, h2 => by cases (Option.some.inj h1); cases (Option.some.inj h2); exact lookb_law_some
  | 10, d, b, h1, h2 => by cases (Option.some.inj h1); cases (Option.some.inj h2); exact lookb_law_great
  | 11, d, b, h1, h2 => by cases (Option.some.inj h1); cases (Option.some.inj h2); exact lookb_law_far
  | 12, d, b, h1, h2 => by cases (Option.some.inj h1); cases (Option.some.inj h2); exact lookb_law_kths_right
  | 13, d, b, h1, h2 => by cases (Option.some.inj h1); cases (Option.some.inj h2); exact lookb_law_between_right
  | 14, d, b, h1, h2 => by cases (Option.some.inj h1); cases (Option.some.inj h2); exact lookb_law
  | i + 15, d, b, h1, h2 => by cases h1
theorem all_mk {w : World} {K : PySem.W.Frag} {h : Heap} {mg : Str → Option Value} {fa : Addr} {P : Program} (X : K.In h) (G : h.Ns mainGlobals mg) (hfa : mg "law" = some (.ref fa))
    {od0 an0 od1 an1 od2 an2 od3 an3 od4 an4 od5 an5 od6 an6 od7 an7 od8 an8 od9 an9 od10 an10 od11 an11 od12 an12 od13 an13 od14 an14 : Option Addr} {sl0 sl1 sl2 sl3 sl4 sl5 sl6 sl7 sl8 sl9 sl10 sl11 sl12 sl13 sl14 : Array (Option Value)}
    {oc0 dc0 pm0 cd0 ct0 kV0 oc1 dc1 pm1 cd1 ct1 kV1 oc2 dc2 pm2 cd2 ct2 kV2 oc3 dc3 pm3 cd3 ct3 kV3 oc4 dc4 pm4 cd4 ct4 kV4 oc5 dc5 pm5 cd5 ct5 kV5 oc6 dc6 pm6 cd6 ct6 kV6 oc7 dc7 pm7 cd7 ct7 kV7 oc8 dc8 pm8 cd8 ct8 kV8 oc9 dc9 pm9 cd9 ct9 kV9 oc10 dc10 pm10 cd10 ct10 kV10 oc11 dc11 pm11 cd11 ct11 kV11 oc12 dc12 pm12 cd12 ct12 kV12 oc13 dc13 pm13 cd13 ct13 kV13 oc14 dc14 pm14 cd14 ct14 kV14 : Value} {f0 f1 f2 f3 f4 f5 f6 f7 f8 f9 f10 f11 f12 f13 f14 : Addr}
    (a0 : PySem.W.nsIn K mainGlobals "_count" = some (some (.ref f0)))
    (l0 : K.lookup f0 = some ⟨oc0, od0, .func (PySem.W.fnOf "_count" "_count" (defArgs (topS 1)) (defBody (topS 1)) (defScope (topS 1)) .none kV0 dc0 pm0 an0 cd0 ct0), sl0⟩)
    (c0 : PySem.W.codeIn K cd0 "_count" = true) (k0 : PySem.W.keepIn K (.ref f0) = true)
    (a1 : PySem.W.nsIn K mainGlobals "_count_by_rests" = some (some (.ref f1)))
    (l1 : K.lookup f1 = some ⟨oc1, od1, .func (PySem.W.fnOf "_count_by_rests" "_count_by_rests" (defArgs (topS 2)) (defBody (topS 2)) (defScope (topS 2)) .none kV1 dc1 pm1 an1 cd1 ct1), sl1⟩)
    (c1 : PySem.W.codeIn K cd1 "_count_by_rests" = true) (k1 : PySem.W.keepIn K (.ref f1) = true)
    (a2 : PySem.W.nsIn K mainGlobals "is_meant" = some (some (.ref f2)))
    (l2 : K.lookup f2 = some ⟨oc2, od2, .func (PySem.W.fnOf "is_meant" "is_meant" (defArgs (topS 3)) (defBody (topS 3)) (defScope (topS 3)) .none kV2 dc2 pm2 an2 cd2 ct2), sl2⟩)
    (c2 : PySem.W.codeIn K cd2 "is_meant" = true) (k2 : PySem.W.keepIn K (.ref f2) = true)
    (a3 : PySem.W.nsIn K mainGlobals "count_below" = some (some (.ref f3)))
    (l3 : K.lookup f3 = some ⟨oc3, od3, .func (PySem.W.fnOf "count_below" "count_below" (defArgs (topS 4)) (defBody (topS 4)) (defScope (topS 4)) .none kV3 dc3 pm3 an3 cd3 ct3), sl3⟩)
    (c3 : PySem.W.codeIn K cd3 "count_below" = true) (k3 : PySem.W.keepIn K (.ref f3) = true)
    (a4 : PySem.W.nsIn K mainGlobals "kth" = some (some (.ref f4)))
    (l4 : K.lookup f4 = some ⟨oc4, od4, .func (PySem.W.fnOf "kth" "kth" (defArgs (topS 5)) (defBody (topS 5)) (defScope (topS 5)) .none kV4 dc4 pm4 an4 cd4 ct4), sl4⟩)
    (c4 : PySem.W.codeIn K cd4 "kth" = true) (k4 : PySem.W.keepIn K (.ref f4) = true)
    (a5 : PySem.W.nsIn K mainGlobals "_law_jar" = some (some (.ref f5)))
    (l5 : K.lookup f5 = some ⟨oc5, od5, .func (PySem.W.fnOf "_law_jar" "_law_jar" (defArgs (topS 7)) (defBody (topS 7)) (defScope (topS 7)) .none kV5 dc5 pm5 an5 cd5 ct5), sl5⟩)
    (c5 : PySem.W.codeIn K cd5 "_law_jar" = true) (k5 : PySem.W.keepIn K (.ref f5) = true)
    (a6 : PySem.W.nsIn K mainGlobals "_law_dip" = some (some (.ref f6)))
    (l6 : K.lookup f6 = some ⟨oc6, od6, .func (PySem.W.fnOf "_law_dip" "_law_dip" (defArgs (topS 8)) (defBody (topS 8)) (defScope (topS 8)) .none kV6 dc6 pm6 an6 cd6 ct6), sl6⟩)
    (c6 : PySem.W.codeIn K cd6 "_law_dip" = true) (k6 : PySem.W.keepIn K (.ref f6) = true)
    (a7 : PySem.W.nsIn K mainGlobals "_law_form" = some (some (.ref f7)))
    (l7 : K.lookup f7 = some ⟨oc7, od7, .func (PySem.W.fnOf "_law_form" "_law_form" (defArgs (topS 9)) (defBody (topS 9)) (defScope (topS 9)) .none kV7 dc7 pm7 an7 cd7 ct7), sl7⟩)
    (c7 : PySem.W.codeIn K cd7 "_law_form" = true) (k7 : PySem.W.keepIn K (.ref f7) = true)
    (a8 : PySem.W.nsIn K mainGlobals "_law_truths" = some (some (.ref f8)))
    (l8 : K.lookup f8 = some ⟨oc8, od8, .func (PySem.W.fnOf "_law_truths" "_law_truths" (defArgs (topS 10)) (defBody (topS 10)) (defScope (topS 10)) .none kV8 dc8 pm8 an8 cd8 ct8), sl8⟩)
    (c8 : PySem.W.codeIn K cd8 "_law_truths" = true) (k8 : PySem.W.keepIn K (.ref f8) = true)
    (a9 : PySem.W.nsIn K mainGlobals "_law_some" = some (some (.ref f9)))
    (l9 : K.lookup f9 = some ⟨oc9, od9, .func (PySem.W.fnOf "_law_some" "_law_some" (defArgs (topS 11)) (defBody (topS 11)) (defScope (topS 11)) .none kV9 dc9 pm9 an9 cd9 ct9), sl9⟩)
    (c9 : PySem.W.codeIn K cd9 "_law_some" = true) (k9 : PySem.W.keepIn K (.ref f9) = true)
    (a10 : PySem.W.nsIn K mainGlobals "_law_great" = some (some (.ref f10)))
    (l10 : K.lookup f10 = some ⟨oc10, od10, .func (PySem.W.fnOf "_law_great" "_law_great" (defArgs (topS 12)) (defBody (topS 12)) (defScope (topS 12)) .none kV10 dc10 pm10 an10 cd10 ct10), sl10⟩)
    (c10 : PySem.W.codeIn K cd10 "_law_great" = true) (k10 : PySem.W.keepIn K (.ref f10) = true)
    (a11 : PySem.W.nsIn K mainGlobals "_law_far" = some (some (.ref f11)))
    (l11 : K.lookup f11 = some ⟨oc11, od11, .func (PySem.W.fnOf "_law_far" "_law_far" (defArgs (topS 13)) (defBody (topS 13)) (defScope (topS 13)) .none kV11 dc11 pm11 an11 cd11 ct11), sl11⟩)
    (c11 : PySem.W.codeIn K cd11 "_law_far" = true) (k11 : PySem.W.keepIn K (.ref f11) = true)
    (a12 : PySem.W.nsIn K mainGlobals "_law_kths_right" = some (some (.ref f12)))
    (l12 : K.lookup f12 = some ⟨oc12, od12, .func (PySem.W.fnOf "_law_kths_right" "_law_kths_right" (defArgs (topS 14)) (defBody (topS 14)) (defScope (topS 14)) .none kV12 dc12 pm12 an12 cd12 ct12), sl12⟩)
    (c12 : PySem.W.codeIn K cd12 "_law_kths_right" = true) (k12 : PySem.W.keepIn K (.ref f12) = true)
    (a13 : PySem.W.nsIn K mainGlobals "_law_between_right" = some (some (.ref f13)))
    (l13 : K.lookup f13 = some ⟨oc13, od13, .func (PySem.W.fnOf "_law_between_right" "_law_between_right" (defArgs (topS 15)) (defBody (topS 15)) (defScope (topS 15)) .none kV13 dc13 pm13 an13 cd13 ct13), sl13⟩)
    (c13 : PySem.W.codeIn K cd13 "_law_between_right" = true) (k13 : PySem.W.keepIn K (.ref f13) = true)
    (a14 : PySem.W.nsIn K mainGlobals "law" = some (some (.ref f14)))
    (l14 : K.lookup f14 = some ⟨oc14, od14, .func (PySem.W.fnOf "law" "law" (defArgs (topS 16)) (defBody (topS 16)) (defScope (topS 16)) .none kV14 dc14 pm14 an14 cd14 ct14), sl14⟩)
    (c14 : PySem.W.codeIn K cd14 "law" = true) (k14 : PySem.W.keepIn K (.ref f14) = true)
    (z0 : PySem.W.nsIn K mainGlobals "len" = some none)
    (z1 : PySem.W.nsIn K mainGlobals "max" = some none)
    (z2 : PySem.W.nsIn K mainGlobals "tuple" = some none)
    (z3 : PySem.W.nsIn K mainGlobals "range" = some none)
    (z4 : PySem.W.nsIn K mainGlobals "int" = some none)
    (z5 : PySem.W.nsIn K mainGlobals "min" = some none)
    (fu lv : Nat) : ∃ fd : FuncData, (∀ (s : Shared) (v : Value), BindsTo s fd ⟨[v], []⟩ [("script", v)]) ∧ ∀ base : Heap, K.In base → base.Ns mainGlobals mg → FnG P w K mg base (2 * lv + 2) fa fd ["script"] (spF K 1 (Phi fu TT (lv + 1) "law")) := by
  have S14 : ∀ e ∈ [db_law], Stands K mg e := stands_cons (stand_mk (d := db_law) X G (fun a k => ⟨a, k⟩) a14 l14 c14 k14 (bind_all rfl (fun us hl => match us, hl with | [_], _ => rfl))) stands_nil
  have S13 : ∀ e ∈ [db_law_between_right, db_law], Stands K mg e := stands_cons (stand_mk (d := db_law_between_right) X G (fun a k => ⟨a, k⟩) a13 l13 c13 k13 (bind_all rfl (fun us hl => match us, hl with | [_, _], _ => rfl))) S14
  have S12 : ∀ e ∈ [db_law_kths_right, db_law_between_right, db_law], Stands K mg e := stands_cons (stand_mk (d := db_law_kths_right) X G (fun a k => ⟨a, k⟩) a12 l12 c12 k12 (bind_all rfl (fun us hl => match us, hl with | [_, _], _ => rfl))) S13
  have S11 : ∀ e ∈ [db_law_far, db_law_kths_right, db_law_between_right, db_law], Stands K mg e := stands_cons (stand_mk (d := db_law_far) X G (fun a k => ⟨a, k⟩) a11 l11 c11 k11 (bind_all rfl (fun us hl => match us, hl with | [_, _], _ => rfl))) S12
  have S10 : ∀ e ∈ [db_law_great, db_law_far, db_law_kths_right, db_law_between_right, db_law], Stands K mg e := stands_cons (stand_mk (d := db_law_great) X G (fun a k => ⟨a, k⟩) a10 l10 c10 k10 (bind_all rfl (fun us hl => match us, hl with | [_], _ => rfl))) S11
  have S9 : ∀ e ∈ [db_law_some, db_law_great, db_law_far, db_law_kths_right, db_law_between_right, db_law], Stands K mg e := stands_cons (stand_mk (d := db_law_some) X G (fun a k => ⟨a, k⟩) a9 l9 c9 k9 (bind_all rfl (fun us hl => match us, hl with | [_], _ => rfl))) S10
  have S8 : ∀ e ∈ [db_law_truths, db_law_some, db_law_great, db_law_far, db_law_kths_right, db_law_between_right, db_law], Stands K mg e := stands_cons (stand_mk (d := db_law_truths) X G (fun a k => ⟨a, k⟩) a8 l8 c8 k8 (bind_all rfl (fun us hl => match us, hl with | [_, _], _ => rfl))) S9
  have S7 : ∀ e ∈ [db_law_form, db_law_truths, db_law_some, db_law_great, db_law_far, db_law_kths_right, db_law_between_right, db_law], Stands K mg e := stands_cons (stand_mk (d := db_law_form) X G (fun a k => ⟨a, k⟩) a7 l7 c7 k7 (bind_all rfl (fun us hl => match us, hl with | [_, _], _ => rfl))) S8
  have S6 : ∀ e ∈ [db_law_dip, db_law_form, db_law_truths, db_law_some, db_law_great, db_law_far, db_law_kths_right, db_law_between_right, db_law], Stands K mg e := stands_cons (stand_mk (d := db_law_dip) X G (fun a k => ⟨a, k⟩) a6 l6 c6 k6 (bind_all rfl (fun us hl => match us, hl with | [_, _], _ => rfl))) S7
  have S5 : ∀ e ∈ [db_law_jar, db_law_dip, db_law_form, db_law_truths, db_law_some, db_law_great, db_law_far, db_law_kths_right, db_law_between_right, db_law], Stands K mg e := stands_cons (stand_mk (d := db_law_jar) X G (fun a k => ⟨a, k⟩) a5 l5 c5 k5 (bind_all rfl (fun us hl => match us, hl with | [_], _ => rfl))) S6
  have S4 : ∀ e ∈ [db_kth, db_law_jar, db_law_dip, db_law_form, db_law_truths, db_law_some, db_law_great, db_law_far, db_law_kths_right, db_law_between_right, db_law], Stands K mg e := stands_cons (stand_mk (d := db_kth) X G (fun a k => ⟨a, k⟩) a4 l4 c4 k4 (bind_all rfl (fun us hl => match us, hl with | [_, _], _ => rfl))) S5
  have S3 : ∀ e ∈ [db_count_below, db_kth, db_law_jar, db_law_dip, db_law_form, db_law_truths, db_law_some, db_law_great, db_law_far, db_law_kths_right, db_law_between_right, db_law], Stands K mg e := stands_cons (stand_mk (d := db_count_below) X G (fun a k => ⟨a, k⟩) a3 l3 c3 k3 (bind_all rfl (fun us hl => match us, hl with | [_, _], _ => rfl))) S4
  have S2 : ∀ e ∈ [db_is_meant, db_count_below, db_kth, db_law_jar, db_law_dip, db_law_form, db_law_truths, db_law_some, db_law_great, db_law_far, db_law_kths_right, db_law_between_right, db_law], Stands K mg e := stands_cons (stand_mk (d := db_is_meant) X G (fun a k => ⟨a, k⟩) a2 l2 c2 k2 (bind_all rfl (fun us hl => match us, hl with | [_, _], _ => rfl))) S3
  have S1 : ∀ e ∈ [db_count_by_rests, db_is_meant, db_count_below, db_kth, db_law_jar, db_law_dip, db_law_form, db_law_truths, db_law_some, db_law_great, db_law_far, db_law_kths_right, db_law_between_right, db_law], Stands K mg e := stands_cons (stand_mk (d := db_count_by_rests) X G (fun a k => ⟨a, k⟩) a1 l1 c1 k1 (bind_all rfl (fun us hl => match us, hl with | [_, _], _ => rfl))) S2
  have S0 : ∀ e ∈ [db_count, db_count_by_rests, db_is_meant, db_count_below, db_kth, db_law_jar, db_law_dip, db_law_form, db_law_truths, db_law_some, db_law_great, db_law_far, db_law_kths_right, db_law_between_right, db_law], Stands K mg e := stands_cons (stand_mk (d := db_count) X G (fun a k => ⟨a, k⟩) a0 l0 c0 k0 (bind_all rfl (fun us hl => match us, hl with | [_, _], _ => rfl))) S1
  exact end_of (ds := defs) (bs := bodies) (bts := bts) (cs := cs) (fls := fls) (xt := xt) (dl := db_law) rfl looks (by simp [defs]) rfl rfl rfl rfl S0 (none_cons X G z0 (none_cons X G z1 (none_cons X G z2 (none_cons X G z3 (none_cons X G z4 (none_cons X G z5 none_nil)))))) cons_nil fls_nil ⟨all_nil, all_nil, all_nil, all_nil, all_nil⟩ gt_nil hfa
end AGL
namespace AGL
open PySem AG
/-! ### the program's words of times -/
def nD (l : List Nat) : List D := l.map fun t => D.int (t : Nat)
def dTi (T : Ti) : D := .tup [.int (T.F : Nat), .int (T.R : Nat), .tup (nD T.A), .tup (nD T.W)]
def CntW (F : List D → M D) : Prop := ∀ (S : Sto) (l : List Nat) (b : Nat), l.Pairwise (· < ·) → l.length ≤ 100000 → Ok (F [.tup (nD l), .int (b : Nat)]) S fun d S' => d = .int (cntL l b : Nat) ∧ S' = S
def CbrW (F : List D → M D) : Prop := ∀ (S : Sto) (T : Ti) (b : Nat), TiOk T → b ≤ 10 ^ 30 → Ok (F [dTi T, .int (b : Nat)]) S fun d S' => d = .int (cbr T b : Nat) ∧ S' = S
def MeaW (F : List D → M D) : Prop := ∀ (S : Sto) (T : Ti) (b : Nat), TiOk T → b ≤ 10 ^ 30 → Ok (F [dTi T, .int (b : Nat)]) S fun d S' => d = .bl (mea T b) ∧ S' = S
def CblW (F : List D → M D) : Prop := ∀ (S : Sto) (T : Ti) (b : Nat), TiOk T → b ≤ 10 ^ 30 → Ok (F [dTi T, .int (b : Nat)]) S fun d S' => d = .int (cbl T b : Nat) ∧ S' = S
def oD : Option Nat → D
  | none => .non
  | some x => .int (x : Nat)
def KthW (F : List D → M D) : Prop := ∀ (S : Sto) (T : Ti) (k : Nat), TiOk T → k ≤ 10 ^ 30 → Ok (F [dTi T, .int (k : Nat)]) S fun d S' => d = oD (kthT T k) ∧ S' = S
theorem cntL_le {l : List Nat} (h : l.Pairwise (· < ·)) : ∀ n : Nat, cntL l n ≤ n
  | 0 => by rw [cntL_zero]; exact Nat.le_refl _
  | n + 1 => by
    have := cntL_le h n
    rw [cntL_succ h]
    split <;> omega
theorem pair_len {l : List Nat} {n : Nat} (h : l.Pairwise (· < ·)) (hx : ∀ x ∈ l, x < n) : l.length ≤ n := by
  rw [← cntL_all hx]
  exact cntL_le h n
theorem TiOk.la {T : Ti} (h : TiOk T) : T.A.length ≤ T.F := pair_len h.au h.al
theorem TiOk.lw {T : Ti} (h : TiOk T) : T.W.length ≤ T.R := pair_len h.wu h.wl
/-- the count stands between those below and those not -/
theorem cntL_by {l : List Nat} {b k : Nat} (h : l.Pairwise (· < ·)) (hk : k ≤ l.length) (h1 : ∀ i x, i < k → l[i]? = some x → x < b) (h2 : ∀ i x, k ≤ i → l[i]? = some x → b ≤ x) : cntL l b = k := by
  have e : l = l.take k ++ l.drop k := (List.take_append_drop k l).symm
  unfold cntL
  rw [e, List.filter_append, List.filter_eq_self.mpr, List.filter_eq_nil_iff.mpr, List.append_nil, List.length_take, Nat.min_eq_left hk]
  · intro x hx
    obtain ⟨i, hi, rfl⟩ := List.getElem_of_mem hx
    rw [List.length_drop] at hi
    rw [List.getElem_drop]
    have := h2 (k + i) _ (by omega) (List.getElem?_eq_getElem (by omega))
    simp
    omega
  · intro x hx
    obtain ⟨i, hi, rfl⟩ := List.getElem_of_mem hx
    rw [List.length_take] at hi
    rw [List.getElem_take]
    exact decide_eq_true (h1 i _ (by omega) (List.getElem?_eq_getElem (by omega)))
section
variable {Φ : String → List D → M D} {fu : Nat}
theorem cnt_run (hfu : 200000 ≤ fu) : CntW (runF Φ fu 5 b_count) := by
  intro S l b hl hn
  simp only [b_count, runF, exs, ex, ev, evs, evt, evo, evi, evc, ok_bnd, ok_ret', ok_getV, ok_getC, ok_setC, ok_opt, ok_need, ok_ite, ok_mkLf, ok_mkLt, ok_notB, List.map_cons, List.map_nil, List.replicate_zero, List.replicate_succ, List.length_cons, List.length_nil, List.cons_append, List.nil_append, Nat.reduceSub, Nat.reduceAdd, List.getElem?_cons_zero, List.getElem?_cons_succ, Option.some.injEq, exists_eq_left', ixD_i, setIx_ri, appD_r, isC_r, items_tup, items_lst, items_fro, items_ref, tru_b, tru_i, b_add, b_sub, b_mul, b_div, b_mod, b_pow, b_band, addD_ii, subD_ii, mulD_ii, modD_ii, divD_ii, powD_ii, bandD_ii, addD_tt, addD_ll, addD_fl, c_eq, c_ne, c_lt, c_le, c_gt, c_ge, c_is, c_isn, isD_bb, eqD_ii, eqD_ss, eqD_bb, ltD_ii, leD_ii, bi_len, bi_max, bi_min, bi_tup, bi_lst, bi_repr, bi_all, maxB_ii, minB_ii, lenB_1, tupB_1, lstB_1, reprB_1, allB_1, slD_t, slD_l, slD_f, slD_r, ints2_ii, popD_ri, dgetF_2, lset_t, lset_l, lset_r, AG.wipeD, asg_n, asg_t, asg_p, AG.setAll, atI_0, atI_1, atI_2, atI_3, ixN_30, ixN_31, ixN_32, List.set_cons_zero, List.set_cons_succ, List.getElem?_set_self, List.length_set, Bool.and_eq_true, decide_eq_true_eq, decide_eq_false_iff_not, bne_iff_ne, bne_eq_false_iff_eq, Int.toNat_natCast, nD, List.length_map]
  refine ok_wh (fun n ρ S' => S' = S ∧ ∃ lo hi x4, ρ = [some (.tup (nD l)), some (.int (b : Nat)), some (.int (lo : Nat)), some (.int (hi : Nat)), x4] ∧ lo ≤ hi ∧ hi ≤ l.length ∧ n = hi - lo ∧ (∀ i x, i < lo → l[i]? = some x → x < b) ∧ (∀ i x, hi ≤ i → l[i]? = some x → b ≤ x)) fu l.length _ _ (by omega)
    ⟨rfl, 0, l.length, _, rfl, Nat.zero_le _, Nat.le_refl _, rfl, fun i x hi => absurd hi (Nat.not_lt_zero _), fun i x hi hx => by rw [List.getElem?_eq_none hi] at hx; cases hx⟩ ?_
  rintro n ρ S' ⟨rfl, lo, hi, x4, rfl, h1, h2, rfl, h3, h4⟩
  simp only [runF, exs, ex, ev, evs, evt, evo, evi, evc, ok_bnd, ok_ret', ok_getV, ok_getC, ok_setC, ok_opt, ok_need, ok_ite, ok_mkLf, ok_mkLt, ok_notB, List.map_cons, List.map_nil, List.replicate_zero, List.replicate_succ, List.length_cons, List.length_nil, List.cons_append, List.nil_append, Nat.reduceSub, Nat.reduceAdd, List.getElem?_cons_zero, List.getElem?_cons_succ, Option.some.injEq, exists_eq_left', ixD_i, setIx_ri, appD_r, isC_r, items_tup, items_lst, items_fro, items_ref, tru_b, tru_i, b_add, b_sub, b_mul, b_div, b_mod, b_pow, b_band, addD_ii, subD_ii, mulD_ii, modD_ii, divD_ii, powD_ii, bandD_ii, addD_tt, addD_ll, addD_fl, c_eq, c_ne, c_lt, c_le, c_gt, c_ge, c_is, c_isn, isD_bb, eqD_ii, eqD_ss, eqD_bb, ltD_ii, leD_ii, bi_len, bi_max, bi_min, bi_tup, bi_lst, bi_repr, bi_all, maxB_ii, minB_ii, lenB_1, tupB_1, lstB_1, reprB_1, allB_1, slD_t, slD_l, slD_f, slD_r, ints2_ii, popD_ri, dgetF_2, lset_t, lset_l, lset_r, AG.wipeD, asg_n, asg_t, asg_p, AG.setAll, atI_0, atI_1, atI_2, atI_3, ixN_30, ixN_31, ixN_32, List.set_cons_zero, List.set_cons_succ, List.getElem?_set_self, List.length_set, Bool.and_eq_true, decide_eq_true_eq, decide_eq_false_iff_not, bne_iff_ne, bne_eq_false_iff_eq, Int.toNat_natCast]
  by_cases hlt : lo < hi
  · rw [if_pos (by omega)]
    have em : ((lo : Nat) : Int) + (hi : Nat) = ((lo + hi : Nat) : Int) := by omega
    have e2 : ((lo + hi : Nat) : Int) / 2 = (((lo + hi) / 2 : Nat) : Int) := by omega
    rw [em, e2, atI_of]
    obtain ⟨mid, hmid⟩ : ∃ mid, (lo + hi) / 2 = mid := ⟨_, rfl⟩
    rw [hmid]
    have hm1 : lo ≤ mid := by omega
    have hm2 : mid < hi := by omega
    have hx : l[mid]? = some l[mid] := List.getElem?_eq_getElem (by omega)
    obtain ⟨x, ex⟩ : ∃ x, l[mid] = x := ⟨_, rfl⟩
    rw [ex] at hx
    refine ⟨⟨by decide, by decide⟩, .int (x : Nat), by unfold nD; rw [List.getElem?_map, hx]; rfl, ?_⟩
    simp only [runF, exs, ex, ev, evs, evt, evo, evi, evc, ok_bnd, ok_ret', ok_getV, ok_getC, ok_setC, ok_opt, ok_need, ok_ite, ok_mkLf, ok_mkLt, ok_notB, List.map_cons, List.map_nil, List.replicate_zero, List.replicate_succ, List.length_cons, List.length_nil, List.cons_append, List.nil_append, Nat.reduceSub, Nat.reduceAdd, List.getElem?_cons_zero, List.getElem?_cons_succ, Option.some.injEq, exists_eq_left', ixD_i, setIx_ri, appD_r, isC_r, items_tup, items_lst, items_fro, items_ref, tru_b, tru_i, b_add, b_sub, b_mul, b_div, b_mod, b_pow, b_band, addD_ii, subD_ii, mulD_ii, modD_ii, divD_ii, powD_ii, bandD_ii, addD_tt, addD_ll, addD_fl, c_eq, c_ne, c_lt, c_le, c_gt, c_ge, c_is, c_isn, isD_bb, eqD_ii, eqD_ss, eqD_bb, ltD_ii, leD_ii, bi_len, bi_max, bi_min, bi_tup, bi_lst, bi_repr, bi_all, maxB_ii, minB_ii, lenB_1, tupB_1, lstB_1, reprB_1, allB_1, slD_t, slD_l, slD_f, slD_r, ints2_ii, popD_ri, dgetF_2, lset_t, lset_l, lset_r, AG.wipeD, asg_n, asg_t, asg_p, AG.setAll, atI_0, atI_1, atI_2, atI_3, ixN_30, ixN_31, ixN_32, List.set_cons_zero, List.set_cons_succ, List.getElem?_set_self, List.length_set, Bool.and_eq_true, decide_eq_true_eq, decide_eq_false_iff_not, bne_iff_ne, bne_eq_false_iff_eq, Int.toNat_natCast]
    refine ⟨fun hl2 => ⟨hi - (mid + 1), by omega, trivial, mid + 1, hi, _, rfl, by omega, h2, rfl, fun i y hi2 hy => ?_, h4⟩, fun hl2 => ⟨mid - lo, by omega, trivial, lo, mid, _, rfl, hm1, by omega, rfl, h3, fun i y hi2 hy => ?_⟩⟩
    · rcases Nat.lt_or_ge i mid with z | z
      · obtain ⟨q1, q2⟩ := List.getElem?_eq_some_iff.mp hy
        have := List.pairwise_iff_getElem.mp hl i mid q1 (by omega) z
        omega
      · have e3 : i = mid := by omega
        subst e3
        rw [hx] at hy
        cases hy
        omega
    · rcases Nat.lt_or_ge mid i with z | z
      · obtain ⟨q1, q2⟩ := List.getElem?_eq_some_iff.mp hy
        have := List.pairwise_iff_getElem.mp hl mid i (by omega) q1 z
        omega
      · have e3 : i = mid := by omega
        subst e3
        rw [hx] at hy
        cases hy
        omega
  · rw [if_neg (by omega)]
    have e : lo = hi := by omega
    subst e
    exact ⟨by rw [cntL_by hl h2 h3 h4], trivial⟩
theorem dec_nn {x b : Nat} : decide (((x : Nat) : Int) = (b : Nat)) = decide (x = b) := by
  rw [Bool.eq_iff_iff, decide_eq_true_eq, decide_eq_true_eq]
  omega
theorem pcast {a b : Nat} : ((a : Nat) : Int) / (b : Nat) = ((a / b : Nat) : Int) := (Int.natCast_ediv _ _).symm
theorem mcast {a b : Nat} : ((a : Nat) : Int) % (b : Nat) = ((a % b : Nat) : Int) := (Int.natCast_emod _ _).symm
theorem cbr_run (hc : CntW (Φ "_count")) : CbrW (runF Φ fu 5 b_count_by_rests) := by
  intro S T b h hb
  have r1 := h.r1
  have rb := h.rb
  have lw := h.lw
  simp only [b_count_by_rests, dTi, runF, exs, ex, ev, evs, evt, evo, evi, evc, ok_bnd, ok_ret', ok_getV, ok_getC, ok_setC, ok_opt, ok_need, ok_ite, ok_mkLf, ok_mkLt, ok_notB, List.map_cons, List.map_nil, List.replicate_zero, List.replicate_succ, List.length_cons, List.length_nil, List.cons_append, List.nil_append, Nat.reduceSub, Nat.reduceAdd, List.getElem?_cons_zero, List.getElem?_cons_succ, Option.some.injEq, exists_eq_left', ixD_i, setIx_ri, appD_r, isC_r, items_tup, items_lst, items_fro, items_ref, tru_b, tru_i, b_add, b_sub, b_mul, b_div, b_mod, b_pow, b_band, addD_ii, subD_ii, mulD_ii, modD_ii, divD_ii, powD_ii, bandD_ii, addD_tt, addD_ll, addD_fl, c_eq, c_ne, c_lt, c_le, c_gt, c_ge, c_is, c_isn, isD_bb, eqD_ii, eqD_ss, eqD_bb, ltD_ii, leD_ii, bi_len, bi_max, bi_min, bi_tup, bi_lst, bi_repr, bi_all, maxB_ii, minB_ii, lenB_1, tupB_1, lstB_1, reprB_1, allB_1, slD_t, slD_l, slD_f, slD_r, ints2_ii, popD_ri, dgetF_2, lset_t, lset_l, lset_r, AG.wipeD, asg_n, asg_t, asg_p, AG.setAll, atI_0, atI_1, atI_2, atI_3, ixN_30, ixN_31, ixN_32, List.set_cons_zero, List.set_cons_succ, List.getElem?_set_self, List.length_set, Bool.and_eq_true, decide_eq_true_eq, decide_eq_false_iff_not, bne_iff_ne, bne_eq_false_iff_eq, Int.toNat_natCast]
  try simp only [runF, exs, ex, ev, evs, evt, evo, evi, evc, ok_bnd, ok_ret', ok_getV, ok_getC, ok_setC, ok_opt, ok_need, ok_ite, ok_mkLf, ok_mkLt, ok_notB, List.map_cons, List.map_nil, List.replicate_zero, List.replicate_succ, List.length_cons, List.length_nil, List.cons_append, List.nil_append, Nat.reduceSub, Nat.reduceAdd, List.getElem?_cons_zero, List.getElem?_cons_succ, Option.some.injEq, exists_eq_left', ixD_i, setIx_ri, appD_r, isC_r, items_tup, items_lst, items_fro, items_ref, tru_b, tru_i, b_add, b_sub, b_mul, b_div, b_mod, b_pow, b_band, addD_ii, subD_ii, mulD_ii, modD_ii, divD_ii, powD_ii, bandD_ii, addD_tt, addD_ll, addD_fl, c_eq, c_ne, c_lt, c_le, c_gt, c_ge, c_is, c_isn, isD_bb, eqD_ii, eqD_ss, eqD_bb, ltD_ii, leD_ii, bi_len, bi_max, bi_min, bi_tup, bi_lst, bi_repr, bi_all, maxB_ii, minB_ii, lenB_1, tupB_1, lstB_1, reprB_1, allB_1, slD_t, slD_l, slD_f, slD_r, ints2_ii, popD_ri, dgetF_2, lset_t, lset_l, lset_r, AG.wipeD, asg_n, asg_t, asg_p, AG.setAll, atI_0, atI_1, atI_2, atI_3, ixN_30, ixN_31, ixN_32, List.set_cons_zero, List.set_cons_succ, List.getElem?_set_self, List.length_set, Bool.and_eq_true, decide_eq_true_eq, decide_eq_false_iff_not, bne_iff_ne, bne_eq_false_iff_eq, Int.toNat_natCast, nD, List.length_map]
  have e30 : (10 : Nat) ^ 30 = 1000000000000000000000000000000 := by decide
  obtain ⟨q, hq⟩ : ∃ q, b / T.R = q := ⟨_, rfl⟩
  have hqb : q ≤ b := by rw [← hq]; exact Nat.div_le_self _ _
  rw [pcast, mcast, hq]
  refine ⟨⟨by omega, big_of (by omega) (by omega)⟩, ⟨big_of (by omega) (by omega), big_of (by omega) (by omega)⟩, by omega, ?_⟩
  refine (hc S T.W (b % T.R) h.wu (by omega)).mono fun d S1 ⟨e1, e2⟩ => ?_
  subst e1 e2
  try simp only [runF, exs, ex, ev, evs, evt, evo, evi, evc, ok_bnd, ok_ret', ok_getV, ok_getC, ok_setC, ok_opt, ok_need, ok_ite, ok_mkLf, ok_mkLt, ok_notB, List.map_cons, List.map_nil, List.replicate_zero, List.replicate_succ, List.length_cons, List.length_nil, List.cons_append, List.nil_append, Nat.reduceSub, Nat.reduceAdd, List.getElem?_cons_zero, List.getElem?_cons_succ, Option.some.injEq, exists_eq_left', ixD_i, setIx_ri, appD_r, isC_r, items_tup, items_lst, items_fro, items_ref, tru_b, tru_i, b_add, b_sub, b_mul, b_div, b_mod, b_pow, b_band, addD_ii, subD_ii, mulD_ii, modD_ii, divD_ii, powD_ii, bandD_ii, addD_tt, addD_ll, addD_fl, c_eq, c_ne, c_lt, c_le, c_gt, c_ge, c_is, c_isn, isD_bb, eqD_ii, eqD_ss, eqD_bb, ltD_ii, leD_ii, bi_len, bi_max, bi_min, bi_tup, bi_lst, bi_repr, bi_all, maxB_ii, minB_ii, lenB_1, tupB_1, lstB_1, reprB_1, allB_1, slD_t, slD_l, slD_f, slD_r, ints2_ii, popD_ri, dgetF_2, lset_t, lset_l, lset_r, AG.wipeD, asg_n, asg_t, asg_p, AG.setAll, atI_0, atI_1, atI_2, atI_3, ixN_30, ixN_31, ixN_32, List.set_cons_zero, List.set_cons_succ, List.getElem?_set_self, List.length_set, Bool.and_eq_true, decide_eq_true_eq, decide_eq_false_iff_not, bne_iff_ne, bne_eq_false_iff_eq, Int.toNat_natCast]
  refine ⟨?_, trivial⟩
  unfold cbr
  rw [hq, ← Int.natCast_mul, ← Int.natCast_add]
theorem mem_cnt {l : List Nat} {b : Nat} (h : l.Pairwise (· < ·)) : (∃ x, l[cntL l b]? = some x ∧ (decide (x = b) = decide (b ∈ l))) ∨ (l[cntL l b]? = none ∧ decide (b ∈ l) = false) := by
  have key : b ∈ l → l[cntL l b]? = some b := fun hb => by
    obtain ⟨i, hi, e⟩ := List.getElem_of_mem hb
    have hx : l[i]? = some b := by rw [List.getElem?_eq_getElem hi, e]
    rw [cntL_at h hx]
    exact hx
  cases q : l[cntL l b]? with
  | none =>
    refine .inr ⟨rfl, decide_eq_false fun hb => ?_⟩
    rw [key hb] at q
    cases q
  | some x =>
    refine .inl ⟨x, rfl, ?_⟩
    by_cases e : x = b
    · subst e
      rw [decide_eq_true rfl, decide_eq_true (List.mem_of_getElem? q)]
    · rw [decide_eq_false e, decide_eq_false fun hb => ?_]
      rw [key hb] at q
      cases q
      exact e rfl
theorem mea_run (hc : CntW (Φ "_count")) : MeaW (runF Φ fu 9 b_is_meant) := by
  intro S T b h hb
  have r1 := h.r1
  have rb := h.rb
  have lw := h.lw
  have la := h.la
  have fb := h.fb
  simp only [b_is_meant, dTi, runF, exs, ex, ev, evs, evt, evo, evi, evc, ok_bnd, ok_ret', ok_getV, ok_getC, ok_setC, ok_opt, ok_need, ok_ite, ok_mkLf, ok_mkLt, ok_notB, List.map_cons, List.map_nil, List.replicate_zero, List.replicate_succ, List.length_cons, List.length_nil, List.cons_append, List.nil_append, Nat.reduceSub, Nat.reduceAdd, List.getElem?_cons_zero, List.getElem?_cons_succ, Option.some.injEq, exists_eq_left', ixD_i, setIx_ri, appD_r, isC_r, items_tup, items_lst, items_fro, items_ref, tru_b, tru_i, b_add, b_sub, b_mul, b_div, b_mod, b_pow, b_band, addD_ii, subD_ii, mulD_ii, modD_ii, divD_ii, powD_ii, bandD_ii, addD_tt, addD_ll, addD_fl, c_eq, c_ne, c_lt, c_le, c_gt, c_ge, c_is, c_isn, isD_bb, eqD_ii, eqD_ss, eqD_bb, ltD_ii, leD_ii, bi_len, bi_max, bi_min, bi_tup, bi_lst, bi_repr, bi_all, maxB_ii, minB_ii, lenB_1, tupB_1, lstB_1, reprB_1, allB_1, slD_t, slD_l, slD_f, slD_r, ints2_ii, popD_ri, dgetF_2, lset_t, lset_l, lset_r, AG.wipeD, asg_n, asg_t, asg_p, AG.setAll, atI_0, atI_1, atI_2, atI_3, ixN_30, ixN_31, ixN_32, List.set_cons_zero, List.set_cons_succ, List.getElem?_set_self, List.length_set, Bool.and_eq_true, decide_eq_true_eq, decide_eq_false_iff_not, bne_iff_ne, bne_eq_false_iff_eq, Int.toNat_natCast]
  refine ⟨fun hlt => ?_, fun hge => ⟨by omega, ?_⟩⟩
  · refine (hc S T.A b h.au (by omega)).mono fun d S1 ⟨e1, e2⟩ => ?_
    subst e1 e2
    have em : mea T b = decide (b ∈ T.A) := by unfold mea; rw [if_pos (by omega)]
    rw [em]
    simp only [runF, exs, ex, ev, evs, evt, evo, evi, evc, ok_bnd, ok_ret', ok_getV, ok_getC, ok_setC, ok_opt, ok_need, ok_ite, ok_mkLf, ok_mkLt, ok_notB, List.map_cons, List.map_nil, List.replicate_zero, List.replicate_succ, List.length_cons, List.length_nil, List.cons_append, List.nil_append, Nat.reduceSub, Nat.reduceAdd, List.getElem?_cons_zero, List.getElem?_cons_succ, Option.some.injEq, exists_eq_left', ixD_i, setIx_ri, appD_r, isC_r, items_tup, items_lst, items_fro, items_ref, tru_b, tru_i, b_add, b_sub, b_mul, b_div, b_mod, b_pow, b_band, addD_ii, subD_ii, mulD_ii, modD_ii, divD_ii, powD_ii, bandD_ii, addD_tt, addD_ll, addD_fl, c_eq, c_ne, c_lt, c_le, c_gt, c_ge, c_is, c_isn, isD_bb, eqD_ii, eqD_ss, eqD_bb, ltD_ii, leD_ii, bi_len, bi_max, bi_min, bi_tup, bi_lst, bi_repr, bi_all, maxB_ii, minB_ii, lenB_1, tupB_1, lstB_1, reprB_1, allB_1, slD_t, slD_l, slD_f, slD_r, ints2_ii, popD_ri, dgetF_2, lset_t, lset_l, lset_r, AG.wipeD, asg_n, asg_t, asg_p, AG.setAll, atI_0, atI_1, atI_2, atI_3, ixN_30, ixN_31, ixN_32, List.set_cons_zero, List.set_cons_succ, List.getElem?_set_self, List.length_set, Bool.and_eq_true, decide_eq_true_eq, decide_eq_false_iff_not, bne_iff_ne, bne_eq_false_iff_eq, Int.toNat_natCast, nD, List.length_map]
    rcases mem_cnt (b := b) h.au with ⟨x, hx, e⟩ | ⟨hx, e⟩
    · have hl := (List.getElem?_eq_some_iff.mp hx).1
      rw [decide_eq_true (show ((cntL T.A b : Nat) : Int) < (T.A.length : Nat) by omega)]
      simp only [runF, exs, ex, ev, evs, evt, evo, evi, evc, ok_bnd, ok_ret', ok_getV, ok_getC, ok_setC, ok_opt, ok_need, ok_ite, ok_mkLf, ok_mkLt, ok_notB, List.map_cons, List.map_nil, List.replicate_zero, List.replicate_succ, List.length_cons, List.length_nil, List.cons_append, List.nil_append, Nat.reduceSub, Nat.reduceAdd, List.getElem?_cons_zero, List.getElem?_cons_succ, Option.some.injEq, exists_eq_left', ixD_i, setIx_ri, appD_r, isC_r, items_tup, items_lst, items_fro, items_ref, tru_b, tru_i, b_add, b_sub, b_mul, b_div, b_mod, b_pow, b_band, addD_ii, subD_ii, mulD_ii, modD_ii, divD_ii, powD_ii, bandD_ii, addD_tt, addD_ll, addD_fl, c_eq, c_ne, c_lt, c_le, c_gt, c_ge, c_is, c_isn, isD_bb, eqD_ii, eqD_ss, eqD_bb, ltD_ii, leD_ii, bi_len, bi_max, bi_min, bi_tup, bi_lst, bi_repr, bi_all, maxB_ii, minB_ii, lenB_1, tupB_1, lstB_1, reprB_1, allB_1, slD_t, slD_l, slD_f, slD_r, ints2_ii, popD_ri, dgetF_2, lset_t, lset_l, lset_r, AG.wipeD, asg_n, asg_t, asg_p, AG.setAll, atI_0, atI_1, atI_2, atI_3, ixN_30, ixN_31, ixN_32, List.set_cons_zero, List.set_cons_succ, List.getElem?_set_self, List.length_set, Bool.and_eq_true, decide_eq_true_eq, decide_eq_false_iff_not, bne_iff_ne, bne_eq_false_iff_eq, Int.toNat_natCast]
      rw [atI_of, List.getElem?_map, hx]
      refine ⟨_, rfl, ?_⟩
      simp only [runF, exs, ex, ev, evs, evt, evo, evi, evc, ok_bnd, ok_ret', ok_getV, ok_getC, ok_setC, ok_opt, ok_need, ok_ite, ok_mkLf, ok_mkLt, ok_notB, List.map_cons, List.map_nil, List.replicate_zero, List.replicate_succ, List.length_cons, List.length_nil, List.cons_append, List.nil_append, Nat.reduceSub, Nat.reduceAdd, List.getElem?_cons_zero, List.getElem?_cons_succ, Option.some.injEq, exists_eq_left', ixD_i, setIx_ri, appD_r, isC_r, items_tup, items_lst, items_fro, items_ref, tru_b, tru_i, b_add, b_sub, b_mul, b_div, b_mod, b_pow, b_band, addD_ii, subD_ii, mulD_ii, modD_ii, divD_ii, powD_ii, bandD_ii, addD_tt, addD_ll, addD_fl, c_eq, c_ne, c_lt, c_le, c_gt, c_ge, c_is, c_isn, isD_bb, eqD_ii, eqD_ss, eqD_bb, ltD_ii, leD_ii, bi_len, bi_max, bi_min, bi_tup, bi_lst, bi_repr, bi_all, maxB_ii, minB_ii, lenB_1, tupB_1, lstB_1, reprB_1, allB_1, slD_t, slD_l, slD_f, slD_r, ints2_ii, popD_ri, dgetF_2, lset_t, lset_l, lset_r, AG.wipeD, asg_n, asg_t, asg_p, AG.setAll, atI_0, atI_1, atI_2, atI_3, ixN_30, ixN_31, ixN_32, List.set_cons_zero, List.set_cons_succ, List.getElem?_set_self, List.length_set, Bool.and_eq_true, decide_eq_true_eq, decide_eq_false_iff_not, bne_iff_ne, bne_eq_false_iff_eq, Int.toNat_natCast]
      rw [← e]
      exact ⟨by rw [dec_nn], trivial⟩
    · have hl := List.getElem?_eq_none_iff.mp hx
      rw [decide_eq_false (show ¬ ((cntL T.A b : Nat) : Int) < (T.A.length : Nat) by omega), e]
      try simp only [runF, exs, ex, ev, evs, evt, evo, evi, evc, ok_bnd, ok_ret', ok_getV, ok_getC, ok_setC, ok_opt, ok_need, ok_ite, ok_mkLf, ok_mkLt, ok_notB, List.map_cons, List.map_nil, List.replicate_zero, List.replicate_succ, List.length_cons, List.length_nil, List.cons_append, List.nil_append, Nat.reduceSub, Nat.reduceAdd, List.getElem?_cons_zero, List.getElem?_cons_succ, Option.some.injEq, exists_eq_left', ixD_i, setIx_ri, appD_r, isC_r, items_tup, items_lst, items_fro, items_ref, tru_b, tru_i, b_add, b_sub, b_mul, b_div, b_mod, b_pow, b_band, addD_ii, subD_ii, mulD_ii, modD_ii, divD_ii, powD_ii, bandD_ii, addD_tt, addD_ll, addD_fl, c_eq, c_ne, c_lt, c_le, c_gt, c_ge, c_is, c_isn, isD_bb, eqD_ii, eqD_ss, eqD_bb, ltD_ii, leD_ii, bi_len, bi_max, bi_min, bi_tup, bi_lst, bi_repr, bi_all, maxB_ii, minB_ii, lenB_1, tupB_1, lstB_1, reprB_1, allB_1, slD_t, slD_l, slD_f, slD_r, ints2_ii, popD_ri, dgetF_2, lset_t, lset_l, lset_r, AG.wipeD, asg_n, asg_t, asg_p, AG.setAll, atI_0, atI_1, atI_2, atI_3, ixN_30, ixN_31, ixN_32, List.set_cons_zero, List.set_cons_succ, List.getElem?_set_self, List.length_set, Bool.and_eq_true, decide_eq_true_eq, decide_eq_false_iff_not, bne_iff_ne, bne_eq_false_iff_eq, Int.toNat_natCast]
      exact ⟨trivial, trivial⟩
  · rw [mcast]
    refine (hc S T.W (b % T.R) h.wu (by omega)).mono fun d S1 ⟨e1, e2⟩ => ?_
    subst e1 e2
    have em : mea T b = decide (b % T.R ∈ T.W) := by unfold mea; rw [if_neg (by omega)]
    rw [em]
    simp only [runF, exs, ex, ev, evs, evt, evo, evi, evc, ok_bnd, ok_ret', ok_getV, ok_getC, ok_setC, ok_opt, ok_need, ok_ite, ok_mkLf, ok_mkLt, ok_notB, List.map_cons, List.map_nil, List.replicate_zero, List.replicate_succ, List.length_cons, List.length_nil, List.cons_append, List.nil_append, Nat.reduceSub, Nat.reduceAdd, List.getElem?_cons_zero, List.getElem?_cons_succ, Option.some.injEq, exists_eq_left', ixD_i, setIx_ri, appD_r, isC_r, items_tup, items_lst, items_fro, items_ref, tru_b, tru_i, b_add, b_sub, b_mul, b_div, b_mod, b_pow, b_band, addD_ii, subD_ii, mulD_ii, modD_ii, divD_ii, powD_ii, bandD_ii, addD_tt, addD_ll, addD_fl, c_eq, c_ne, c_lt, c_le, c_gt, c_ge, c_is, c_isn, isD_bb, eqD_ii, eqD_ss, eqD_bb, ltD_ii, leD_ii, bi_len, bi_max, bi_min, bi_tup, bi_lst, bi_repr, bi_all, maxB_ii, minB_ii, lenB_1, tupB_1, lstB_1, reprB_1, allB_1, slD_t, slD_l, slD_f, slD_r, ints2_ii, popD_ri, dgetF_2, lset_t, lset_l, lset_r, AG.wipeD, asg_n, asg_t, asg_p, AG.setAll, atI_0, atI_1, atI_2, atI_3, ixN_30, ixN_31, ixN_32, List.set_cons_zero, List.set_cons_succ, List.getElem?_set_self, List.length_set, Bool.and_eq_true, decide_eq_true_eq, decide_eq_false_iff_not, bne_iff_ne, bne_eq_false_iff_eq, Int.toNat_natCast, nD, List.length_map]
    rcases mem_cnt (b := b % T.R) h.wu with ⟨x, hx, e⟩ | ⟨hx, e⟩
    · have hl := (List.getElem?_eq_some_iff.mp hx).1
      rw [decide_eq_true (show ((cntL T.W (b % T.R) : Nat) : Int) < (T.W.length : Nat) by omega)]
      simp only [runF, exs, ex, ev, evs, evt, evo, evi, evc, ok_bnd, ok_ret', ok_getV, ok_getC, ok_setC, ok_opt, ok_need, ok_ite, ok_mkLf, ok_mkLt, ok_notB, List.map_cons, List.map_nil, List.replicate_zero, List.replicate_succ, List.length_cons, List.length_nil, List.cons_append, List.nil_append, Nat.reduceSub, Nat.reduceAdd, List.getElem?_cons_zero, List.getElem?_cons_succ, Option.some.injEq, exists_eq_left', ixD_i, setIx_ri, appD_r, isC_r, items_tup, items_lst, items_fro, items_ref, tru_b, tru_i, b_add, b_sub, b_mul, b_div, b_mod, b_pow, b_band, addD_ii, subD_ii, mulD_ii, modD_ii, divD_ii, powD_ii, bandD_ii, addD_tt, addD_ll, addD_fl, c_eq, c_ne, c_lt, c_le, c_gt, c_ge, c_is, c_isn, isD_bb, eqD_ii, eqD_ss, eqD_bb, ltD_ii, leD_ii, bi_len, bi_max, bi_min, bi_tup, bi_lst, bi_repr, bi_all, maxB_ii, minB_ii, lenB_1, tupB_1, lstB_1, reprB_1, allB_1, slD_t, slD_l, slD_f, slD_r, ints2_ii, popD_ri, dgetF_2, lset_t, lset_l, lset_r, AG.wipeD, asg_n, asg_t, asg_p, AG.setAll, atI_0, atI_1, atI_2, atI_3, ixN_30, ixN_31, ixN_32, List.set_cons_zero, List.set_cons_succ, List.getElem?_set_self, List.length_set, Bool.and_eq_true, decide_eq_true_eq, decide_eq_false_iff_not, bne_iff_ne, bne_eq_false_iff_eq, Int.toNat_natCast]
      rw [atI_of, List.getElem?_map, hx]
      refine ⟨_, rfl, ?_⟩
      simp only [runF, exs, ex, ev, evs, evt, evo, evi, evc, ok_bnd, ok_ret', ok_getV, ok_getC, ok_setC, ok_opt, ok_need, ok_ite, ok_mkLf, ok_mkLt, ok_notB, List.map_cons, List.map_nil, List.replicate_zero, List.replicate_succ, List.length_cons, List.length_nil, List.cons_append, List.nil_append, Nat.reduceSub, Nat.reduceAdd, List.getElem?_cons_zero, List.getElem?_cons_succ, Option.some.injEq, exists_eq_left', ixD_i, setIx_ri, appD_r, isC_r, items_tup, items_lst, items_fro, items_ref, tru_b, tru_i, b_add, b_sub, b_mul, b_div, b_mod, b_pow, b_band, addD_ii, subD_ii, mulD_ii, modD_ii, divD_ii, powD_ii, bandD_ii, addD_tt, addD_ll, addD_fl, c_eq, c_ne, c_lt, c_le, c_gt, c_ge, c_is, c_isn, isD_bb, eqD_ii, eqD_ss, eqD_bb, ltD_ii, leD_ii, bi_len, bi_max, bi_min, bi_tup, bi_lst, bi_repr, bi_all, maxB_ii, minB_ii, lenB_1, tupB_1, lstB_1, reprB_1, allB_1, slD_t, slD_l, slD_f, slD_r, ints2_ii, popD_ri, dgetF_2, lset_t, lset_l, lset_r, AG.wipeD, asg_n, asg_t, asg_p, AG.setAll, atI_0, atI_1, atI_2, atI_3, ixN_30, ixN_31, ixN_32, List.set_cons_zero, List.set_cons_succ, List.getElem?_set_self, List.length_set, Bool.and_eq_true, decide_eq_true_eq, decide_eq_false_iff_not, bne_iff_ne, bne_eq_false_iff_eq, Int.toNat_natCast]
      rw [← e]
      exact ⟨by rw [dec_nn], trivial⟩
    · have hl := List.getElem?_eq_none_iff.mp hx
      rw [decide_eq_false (show ¬ ((cntL T.W (b % T.R) : Nat) : Int) < (T.W.length : Nat) by omega), e]
      try simp only [runF, exs, ex, ev, evs, evt, evo, evi, evc, ok_bnd, ok_ret', ok_getV, ok_getC, ok_setC, ok_opt, ok_need, ok_ite, ok_mkLf, ok_mkLt, ok_notB, List.map_cons, List.map_nil, List.replicate_zero, List.replicate_succ, List.length_cons, List.length_nil, List.cons_append, List.nil_append, Nat.reduceSub, Nat.reduceAdd, List.getElem?_cons_zero, List.getElem?_cons_succ, Option.some.injEq, exists_eq_left', ixD_i, setIx_ri, appD_r, isC_r, items_tup, items_lst, items_fro, items_ref, tru_b, tru_i, b_add, b_sub, b_mul, b_div, b_mod, b_pow, b_band, addD_ii, subD_ii, mulD_ii, modD_ii, divD_ii, powD_ii, bandD_ii, addD_tt, addD_ll, addD_fl, c_eq, c_ne, c_lt, c_le, c_gt, c_ge, c_is, c_isn, isD_bb, eqD_ii, eqD_ss, eqD_bb, ltD_ii, leD_ii, bi_len, bi_max, bi_min, bi_tup, bi_lst, bi_repr, bi_all, maxB_ii, minB_ii, lenB_1, tupB_1, lstB_1, reprB_1, allB_1, slD_t, slD_l, slD_f, slD_r, ints2_ii, popD_ri, dgetF_2, lset_t, lset_l, lset_r, AG.wipeD, asg_n, asg_t, asg_p, AG.setAll, atI_0, atI_1, atI_2, atI_3, ixN_30, ixN_31, ixN_32, List.set_cons_zero, List.set_cons_succ, List.getElem?_set_self, List.length_set, Bool.and_eq_true, decide_eq_true_eq, decide_eq_false_iff_not, bne_iff_ne, bne_eq_false_iff_eq, Int.toNat_natCast]
      exact ⟨trivial, trivial⟩
theorem cbl_run (hc : CntW (Φ "_count")) (hr : CbrW (Φ "_count_by_rests")) : CblW (runF Φ fu 5 b_count_below) := by
  intro S T b h hb
  have la := h.la
  have fb := h.fb
  have e30 : (10 : Nat) ^ 30 = 1000000000000000000000000000000 := by decide
  simp only [b_count_below, runF, exs, ex, ev, evs, evt, evo, evi, evc, ok_bnd, ok_ret', ok_getV, ok_getC, ok_setC, ok_opt, ok_need, ok_ite, ok_mkLf, ok_mkLt, ok_notB, List.map_cons, List.map_nil, List.replicate_zero, List.replicate_succ, List.length_cons, List.length_nil, List.cons_append, List.nil_append, Nat.reduceSub, Nat.reduceAdd, List.getElem?_cons_zero, List.getElem?_cons_succ, Option.some.injEq, exists_eq_left', ixD_i, setIx_ri, appD_r, isC_r, items_tup, items_lst, items_fro, items_ref, tru_b, tru_i, b_add, b_sub, b_mul, b_div, b_mod, b_pow, b_band, addD_ii, subD_ii, mulD_ii, modD_ii, divD_ii, powD_ii, bandD_ii, addD_tt, addD_ll, addD_fl, c_eq, c_ne, c_lt, c_le, c_gt, c_ge, c_is, c_isn, isD_bb, eqD_ii, eqD_ss, eqD_bb, ltD_ii, leD_ii, bi_len, bi_max, bi_min, bi_tup, bi_lst, bi_repr, bi_all, maxB_ii, minB_ii, lenB_1, tupB_1, lstB_1, reprB_1, allB_1, slD_t, slD_l, slD_f, slD_r, ints2_ii, popD_ri, dgetF_2, lset_t, lset_l, lset_r, AG.wipeD, asg_n, asg_t, asg_p, AG.setAll, atI_0, atI_1, atI_2, atI_3, ixN_30, ixN_31, ixN_32, List.set_cons_zero, List.set_cons_succ, List.getElem?_set_self, List.length_set, Bool.and_eq_true, decide_eq_true_eq, decide_eq_false_iff_not, bne_iff_ne, bne_eq_false_iff_eq, Int.toNat_natCast]
  refine ⟨_, rfl, ?_⟩
  try simp only [runF, exs, ex, ev, evs, evt, evo, evi, evc, ok_bnd, ok_ret', ok_getV, ok_getC, ok_setC, ok_opt, ok_need, ok_ite, ok_mkLf, ok_mkLt, ok_notB, List.map_cons, List.map_nil, List.replicate_zero, List.replicate_succ, List.length_cons, List.length_nil, List.cons_append, List.nil_append, Nat.reduceSub, Nat.reduceAdd, List.getElem?_cons_zero, List.getElem?_cons_succ, Option.some.injEq, exists_eq_left', ixD_i, setIx_ri, appD_r, isC_r, items_tup, items_lst, items_fro, items_ref, tru_b, tru_i, b_add, b_sub, b_mul, b_div, b_mod, b_pow, b_band, addD_ii, subD_ii, mulD_ii, modD_ii, divD_ii, powD_ii, bandD_ii, addD_tt, addD_ll, addD_fl, c_eq, c_ne, c_lt, c_le, c_gt, c_ge, c_is, c_isn, isD_bb, eqD_ii, eqD_ss, eqD_bb, ltD_ii, leD_ii, bi_len, bi_max, bi_min, bi_tup, bi_lst, bi_repr, bi_all, maxB_ii, minB_ii, lenB_1, tupB_1, lstB_1, reprB_1, allB_1, slD_t, slD_l, slD_f, slD_r, ints2_ii, popD_ri, dgetF_2, lset_t, lset_l, lset_r, AG.wipeD, asg_n, asg_t, asg_p, AG.setAll, atI_0, atI_1, atI_2, atI_3, ixN_30, ixN_31, ixN_32, List.set_cons_zero, List.set_cons_succ, List.getElem?_set_self, List.length_set, Bool.and_eq_true, decide_eq_true_eq, decide_eq_false_iff_not, bne_iff_ne, bne_eq_false_iff_eq, Int.toNat_natCast]
  refine ⟨fun hle => ?_, fun hgt => ?_⟩
  · refine (hc S T.A b h.au (by omega)).mono fun d S1 ⟨e1, e2⟩ => ?_
    subst e1 e2
    refine ⟨?_, rfl⟩
    unfold cbl
    rw [if_pos (by omega)]
  · refine (hr S T b h hb).mono fun d S1 ⟨e1, e2⟩ => ?_
    subst e1 e2
    try simp only [runF, exs, ex, ev, evs, evt, evo, evi, evc, ok_bnd, ok_ret', ok_getV, ok_getC, ok_setC, ok_opt, ok_need, ok_ite, ok_mkLf, ok_mkLt, ok_notB, List.map_cons, List.map_nil, List.replicate_zero, List.replicate_succ, List.length_cons, List.length_nil, List.cons_append, List.nil_append, Nat.reduceSub, Nat.reduceAdd, List.getElem?_cons_zero, List.getElem?_cons_succ, Option.some.injEq, exists_eq_left', ixD_i, setIx_ri, appD_r, isC_r, items_tup, items_lst, items_fro, items_ref, tru_b, tru_i, b_add, b_sub, b_mul, b_div, b_mod, b_pow, b_band, addD_ii, subD_ii, mulD_ii, modD_ii, divD_ii, powD_ii, bandD_ii, addD_tt, addD_ll, addD_fl, c_eq, c_ne, c_lt, c_le, c_gt, c_ge, c_is, c_isn, isD_bb, eqD_ii, eqD_ss, eqD_bb, ltD_ii, leD_ii, bi_len, bi_max, bi_min, bi_tup, bi_lst, bi_repr, bi_all, maxB_ii, minB_ii, lenB_1, tupB_1, lstB_1, reprB_1, allB_1, slD_t, slD_l, slD_f, slD_r, ints2_ii, popD_ri, dgetF_2, lset_t, lset_l, lset_r, AG.wipeD, asg_n, asg_t, asg_p, AG.setAll, atI_0, atI_1, atI_2, atI_3, ixN_30, ixN_31, ixN_32, List.set_cons_zero, List.set_cons_succ, List.getElem?_set_self, List.length_set, Bool.and_eq_true, decide_eq_true_eq, decide_eq_false_iff_not, bne_iff_ne, bne_eq_false_iff_eq, Int.toNat_natCast]
    refine (hr S1 T T.F h (by omega)).mono fun d S1 ⟨e1, e2⟩ => ?_
    subst e1 e2
    have := cbr_mono h (show T.F ≤ b by omega)
    try simp only [runF, exs, ex, ev, evs, evt, evo, evi, evc, ok_bnd, ok_ret', ok_getV, ok_getC, ok_setC, ok_opt, ok_need, ok_ite, ok_mkLf, ok_mkLt, ok_notB, List.map_cons, List.map_nil, List.replicate_zero, List.replicate_succ, List.length_cons, List.length_nil, List.cons_append, List.nil_append, Nat.reduceSub, Nat.reduceAdd, List.getElem?_cons_zero, List.getElem?_cons_succ, Option.some.injEq, exists_eq_left', ixD_i, setIx_ri, appD_r, isC_r, items_tup, items_lst, items_fro, items_ref, tru_b, tru_i, b_add, b_sub, b_mul, b_div, b_mod, b_pow, b_band, addD_ii, subD_ii, mulD_ii, modD_ii, divD_ii, powD_ii, bandD_ii, addD_tt, addD_ll, addD_fl, c_eq, c_ne, c_lt, c_le, c_gt, c_ge, c_is, c_isn, isD_bb, eqD_ii, eqD_ss, eqD_bb, ltD_ii, leD_ii, bi_len, bi_max, bi_min, bi_tup, bi_lst, bi_repr, bi_all, maxB_ii, minB_ii, lenB_1, tupB_1, lstB_1, reprB_1, allB_1, slD_t, slD_l, slD_f, slD_r, ints2_ii, popD_ri, dgetF_2, lset_t, lset_l, lset_r, AG.wipeD, asg_n, asg_t, asg_p, AG.setAll, atI_0, atI_1, atI_2, atI_3, ixN_30, ixN_31, ixN_32, List.set_cons_zero, List.set_cons_succ, List.getElem?_set_self, List.length_set, Bool.and_eq_true, decide_eq_true_eq, decide_eq_false_iff_not, bne_iff_ne, bne_eq_false_iff_eq, Int.toNat_natCast, nD, List.length_map]
    refine ⟨?_, trivial⟩
    unfold cbl
    rw [if_neg (by omega)]
    congr 1
    omega
theorem kth_run (hr : CbrW (Φ "_count_by_rests")) : KthW (runF Φ fu 7 b_kth) := by
  intro S T k h hk
  have r1 := h.r1
  have la := h.la
  have lw := h.lw
  have fb := h.fb
  have rb := h.rb
  have e30 : (10 : Nat) ^ 30 = 1000000000000000000000000000000 := by decide
  simp only [b_kth, runF, exs, ex, ev, evs, evt, evo, evi, evc, ok_bnd, ok_ret', ok_getV, ok_getC, ok_setC, ok_opt, ok_need, ok_ite, ok_mkLf, ok_mkLt, ok_notB, List.map_cons, List.map_nil, List.replicate_zero, List.replicate_succ, List.length_cons, List.length_nil, List.cons_append, List.nil_append, Nat.reduceSub, Nat.reduceAdd, List.getElem?_cons_zero, List.getElem?_cons_succ, Option.some.injEq, exists_eq_left', ixD_i, setIx_ri, appD_r, isC_r, items_tup, items_lst, items_fro, items_ref, tru_b, tru_i, b_add, b_sub, b_mul, b_div, b_mod, b_pow, b_band, addD_ii, subD_ii, mulD_ii, modD_ii, divD_ii, powD_ii, bandD_ii, addD_tt, addD_ll, addD_fl, c_eq, c_ne, c_lt, c_le, c_gt, c_ge, c_is, c_isn, isD_bb, eqD_ii, eqD_ss, eqD_bb, ltD_ii, leD_ii, bi_len, bi_max, bi_min, bi_tup, bi_lst, bi_repr, bi_all, maxB_ii, minB_ii, lenB_1, tupB_1, lstB_1, reprB_1, allB_1, slD_t, slD_l, slD_f, slD_r, ints2_ii, popD_ri, dgetF_2, lset_t, lset_l, lset_r, AG.wipeD, asg_n, asg_t, asg_p, AG.setAll, atI_0, atI_1, atI_2, atI_3, ixN_30, ixN_31, ixN_32, List.set_cons_zero, List.set_cons_succ, List.getElem?_set_self, List.length_set, Bool.and_eq_true, decide_eq_true_eq, decide_eq_false_iff_not, bne_iff_ne, bne_eq_false_iff_eq, Int.toNat_natCast]
  refine ⟨_, rfl, ?_⟩
  try simp only [runF, exs, ex, ev, evs, evt, evo, evi, evc, ok_bnd, ok_ret', ok_getV, ok_getC, ok_setC, ok_opt, ok_need, ok_ite, ok_mkLf, ok_mkLt, ok_notB, List.map_cons, List.map_nil, List.replicate_zero, List.replicate_succ, List.length_cons, List.length_nil, List.cons_append, List.nil_append, Nat.reduceSub, Nat.reduceAdd, List.getElem?_cons_zero, List.getElem?_cons_succ, Option.some.injEq, exists_eq_left', ixD_i, setIx_ri, appD_r, isC_r, items_tup, items_lst, items_fro, items_ref, tru_b, tru_i, b_add, b_sub, b_mul, b_div, b_mod, b_pow, b_band, addD_ii, subD_ii, mulD_ii, modD_ii, divD_ii, powD_ii, bandD_ii, addD_tt, addD_ll, addD_fl, c_eq, c_ne, c_lt, c_le, c_gt, c_ge, c_is, c_isn, isD_bb, eqD_ii, eqD_ss, eqD_bb, ltD_ii, leD_ii, bi_len, bi_max, bi_min, bi_tup, bi_lst, bi_repr, bi_all, maxB_ii, minB_ii, lenB_1, tupB_1, lstB_1, reprB_1, allB_1, slD_t, slD_l, slD_f, slD_r, ints2_ii, popD_ri, dgetF_2, lset_t, lset_l, lset_r, AG.wipeD, asg_n, asg_t, asg_p, AG.setAll, atI_0, atI_1, atI_2, atI_3, ixN_30, ixN_31, ixN_32, List.set_cons_zero, List.set_cons_succ, List.getElem?_set_self, List.length_set, Bool.and_eq_true, decide_eq_true_eq, decide_eq_false_iff_not, bne_iff_ne, bne_eq_false_iff_eq, Int.toNat_natCast, nD, List.length_map]
  refine ⟨fun hlt => ?_, fun hge => ?_⟩
  · have hl : k < T.A.length := by omega
    refine ⟨.int (T.A[k] : Nat), by rw [atI_of, List.getElem?_map, List.getElem?_eq_getElem hl]; rfl, ?_, trivial⟩
    unfold kthT
    rw [if_pos hl, List.getElem?_eq_getElem hl]
    rfl
  · have hl : ¬ k < T.A.length := by omega
    by_cases hw : T.W = []
    · have e : kthT T k = none := by unfold kthT; rw [if_neg hl, if_pos hw]
      rw [e, hw]
      show Ok (AG.ret false) S _
      rw [ok_ret']
      exact ⟨fun _ => ⟨rfl, rfl⟩, fun z => by simp at z⟩
    · have wp : 0 < T.W.length := List.length_pos_iff.mpr hw
      have e : kthT T k = some ((k - T.A.length + cbr T T.F) / T.W.length * T.R + T.W.getD ((k - T.A.length + cbr T T.F) % T.W.length) 0) := by unfold kthT; rw [if_neg hl, if_neg hw]
      rw [e]
      have ht : truD (D.tup (List.map (fun t => D.int ((t : Nat) : Int)) T.W)) S = .ok true S := by
        show AG.ret (!(List.map (fun t => D.int ((t : Nat) : Int)) T.W).isEmpty) S = _
        have : (List.map (fun t => D.int ((t : Nat) : Int)) T.W).isEmpty = false := by
          rw [List.isEmpty_eq_false_iff]
          intro z
          have := congrArg List.length z
          rw [List.length_map, List.length_nil] at this
          omega
        rw [this]
        rfl
      rw [ok_of_run ht]
      refine ⟨fun z => by simp at z, fun _ => ?_⟩
      refine (hr S T T.F h (by omega)).mono fun d S1 ⟨e1, e2⟩ => ?_
      subst e1 e2
      have hcb : cbr T T.F ≤ 100000 * 100000 + 100000 := by
        unfold cbr
        have h1 : T.F / T.R ≤ 100000 := Nat.le_trans (Nat.div_le_self _ _) fb
        have h2 : T.F / T.R * T.W.length ≤ 100000 * 100000 := Nat.mul_le_mul h1 (by omega)
        have h3 : cntL T.W (T.F % T.R) ≤ T.F % T.R := cntL_le h.wu _
        have h4 := Nat.mod_lt T.F (show 0 < T.R by omega)
        exact Nat.add_le_add h2 (Nat.le_trans h3 (Nat.le_of_lt (Nat.lt_of_lt_of_le h4 rb)))
      obtain ⟨n, hn⟩ : ∃ n, k - T.A.length + cbr T T.F = n := ⟨_, rfl⟩
      have en : ((k : Nat) : Int) - (T.A.length : Nat) + (cbr T T.F : Nat) = (n : Nat) := by omega
      rw [hn]
      try simp only [runF, exs, ex, ev, evs, evt, evo, evi, evc, ok_bnd, ok_ret', ok_getV, ok_getC, ok_setC, ok_opt, ok_need, ok_ite, ok_mkLf, ok_mkLt, ok_notB, List.map_cons, List.map_nil, List.replicate_zero, List.replicate_succ, List.length_cons, List.length_nil, List.cons_append, List.nil_append, Nat.reduceSub, Nat.reduceAdd, List.getElem?_cons_zero, List.getElem?_cons_succ, Option.some.injEq, exists_eq_left', ixD_i, setIx_ri, appD_r, isC_r, items_tup, items_lst, items_fro, items_ref, tru_b, tru_i, b_add, b_sub, b_mul, b_div, b_mod, b_pow, b_band, addD_ii, subD_ii, mulD_ii, modD_ii, divD_ii, powD_ii, bandD_ii, addD_tt, addD_ll, addD_fl, c_eq, c_ne, c_lt, c_le, c_gt, c_ge, c_is, c_isn, isD_bb, eqD_ii, eqD_ss, eqD_bb, ltD_ii, leD_ii, bi_len, bi_max, bi_min, bi_tup, bi_lst, bi_repr, bi_all, maxB_ii, minB_ii, lenB_1, tupB_1, lstB_1, reprB_1, allB_1, slD_t, slD_l, slD_f, slD_r, ints2_ii, popD_ri, dgetF_2, lset_t, lset_l, lset_r, AG.wipeD, asg_n, asg_t, asg_p, AG.setAll, atI_0, atI_1, atI_2, atI_3, ixN_30, ixN_31, ixN_32, List.set_cons_zero, List.set_cons_succ, List.getElem?_set_self, List.length_set, Bool.and_eq_true, decide_eq_true_eq, decide_eq_false_iff_not, bne_iff_ne, bne_eq_false_iff_eq, Int.toNat_natCast]
      rw [en]
      have hm := Nat.mod_lt n wp
      obtain ⟨q, hq⟩ : ∃ q, n / T.W.length = q := ⟨_, rfl⟩
      have hqb : q ≤ n := by rw [← hq]; exact Nat.div_le_self _ _
      rw [pcast, mcast, hq, atI_of, List.getElem?_map, List.getElem?_eq_getElem hm]
      refine ⟨⟨by omega, big_of (by omega) (by omega)⟩, ⟨big_of (by omega) (by omega), big_of (by omega) (by omega)⟩, by omega, _, rfl, ?_⟩
      try simp only [runF, exs, ex, ev, evs, evt, evo, evi, evc, ok_bnd, ok_ret', ok_getV, ok_getC, ok_setC, ok_opt, ok_need, ok_ite, ok_mkLf, ok_mkLt, ok_notB, List.map_cons, List.map_nil, List.replicate_zero, List.replicate_succ, List.length_cons, List.length_nil, List.cons_append, List.nil_append, Nat.reduceSub, Nat.reduceAdd, List.getElem?_cons_zero, List.getElem?_cons_succ, Option.some.injEq, exists_eq_left', ixD_i, setIx_ri, appD_r, isC_r, items_tup, items_lst, items_fro, items_ref, tru_b, tru_i, b_add, b_sub, b_mul, b_div, b_mod, b_pow, b_band, addD_ii, subD_ii, mulD_ii, modD_ii, divD_ii, powD_ii, bandD_ii, addD_tt, addD_ll, addD_fl, c_eq, c_ne, c_lt, c_le, c_gt, c_ge, c_is, c_isn, isD_bb, eqD_ii, eqD_ss, eqD_bb, ltD_ii, leD_ii, bi_len, bi_max, bi_min, bi_tup, bi_lst, bi_repr, bi_all, maxB_ii, minB_ii, lenB_1, tupB_1, lstB_1, reprB_1, allB_1, slD_t, slD_l, slD_f, slD_r, ints2_ii, popD_ri, dgetF_2, lset_t, lset_l, lset_r, AG.wipeD, asg_n, asg_t, asg_p, AG.setAll, atI_0, atI_1, atI_2, atI_3, ixN_30, ixN_31, ixN_32, List.set_cons_zero, List.set_cons_succ, List.getElem?_set_self, List.length_set, Bool.and_eq_true, decide_eq_true_eq, decide_eq_false_iff_not, bne_iff_ne, bne_eq_false_iff_eq, Int.toNat_natCast]
      refine ⟨?_, trivial⟩
      rw [getD_at hm]
      show D.int _ = D.int _
      rw [Int.natCast_add, Int.natCast_mul]
end
end AGL
namespace AGL
open PySem AG
/-! ### draws of great bounds; truths -/
def Dip2W (F : List D → M D) : Prop := ∀ (S : Sto) (k n m : Nat), Jar S k n → n ≤ 1000000000 → 1 ≤ m → m ≤ 10 ^ 20 → Ok (F [.ref k, .int (m : Nat)]) S fun d S' => ∃ t : Nat, d = .int (t : Nat) ∧ t < m ∧ Jar S' k (n + 1) ∧ S'.length = S.length ∧ Fr k S S'
def bN (l : List Bool) : List D := l.map D.bl
def TruW (F : List D → M D) : Prop := ∀ (S : Sto) (k n m : Nat), Jar S k n → n ≤ 100000000 → m ≤ 1000 → Ok (F [.ref k, .int (m : Nat)]) S fun d S' => ∃ bs, d = .lst (bN bs) ∧ bs.length = m ∧ Jar S' k (n + 1 + m) ∧ Fr k S S'
/-- two lists of truths -/
def PrOk2 (e m : List Bool) : Prop := e.length ≤ 20001 ∧ 1 ≤ m.length ∧ m.length ≤ 50001
def dPr2 (e m : List Bool) : D := .lst [.lst (bN e), .lst (bN m)]
def SomW (F : List D → M D) : Prop := ∀ (S : Sto) (k n : Nat), Jar S k n → n ≤ 10000000 → Ok (F [.ref k]) S fun d S' => ∃ e m, d = dPr2 e m ∧ PrOk2 e m ∧ Jar S' k (n + 1000) ∧ Fr k S S'
def GreW (F : List D → M D) : Prop := ∀ (S : Sto) (k n : Nat), Jar S k n → n ≤ 10000000 → Ok (F [.ref k]) S fun d S' => ∃ e m, d = dPr2 e m ∧ PrOk2 e m ∧ Jar S' k (n + 1000)
def FarJW (F : List D → M D) : Prop := ∀ (S : Sto) (k n m : Nat), Jar S k n → n ≤ 10000000 → 1000 ≤ m → m ≤ 10 ^ 18 → Ok (F [.ref k, .int (m : Nat)]) S fun d S' => ∃ b : Nat, d = .int (b : Nat) ∧ b ≤ 10 ^ 18 ∧ Jar S' k (n + 10)
section
variable {Φ : String → List D → M D} {fu : Nat}
theorem dip2_run : Dip2W (runF Φ fu 4 b_law_dip_j) := by
  intro S k n m h hn h1 h2
  obtain ⟨a, b, c, hS, b0, b1, c0, cn⟩ := h.ex
  have hk : k < S.length := h.lt
  have h20 : (10 : Nat) ^ 20 = 100000000000000000000 := by decide
  have h37 : (10 : Int) ^ 37 = 10000000000000000000000000000000000000 := by decide
  have h200 : (2 : Nat) ^ 200 = 1606938044258990275541962092341162602522202993782792835301376 := by decide
  have tn : ∀ x : Int, ∃ t : Nat, D.int (x % (m : Nat)) = .int t ∧ t < m := fun x =>
    ⟨(x % (m : Nat)).toNat, by rw [Int.toNat_of_nonneg (Int.emod_nonneg _ (by omega))], by
      have := Int.emod_lt_of_pos x (show (0 : Int) < (m : Nat) by omega)
      have := Int.emod_nonneg x (show ((m : Nat) : Int) ≠ 0 by omega)
      omega⟩
  simp only [b_law_dip_j, hS, hk, runF, exs, ex, ev, evs, evt, evo, evi, evc, ok_bnd, ok_ret', ok_getV, ok_getC, ok_setC, ok_opt, ok_need, ok_ite, ok_mkLf, ok_mkLt, ok_notB, List.map_cons, List.map_nil, List.replicate_zero, List.replicate_succ, List.length_cons, List.length_nil, List.cons_append, List.nil_append, Nat.reduceSub, Nat.reduceAdd, List.getElem?_cons_zero, List.getElem?_cons_succ, Option.some.injEq, exists_eq_left', ixD_i, setIx_ri, appD_r, isC_r, items_tup, items_lst, items_fro, items_ref, tru_b, tru_i, b_add, b_sub, b_mul, b_div, b_mod, b_pow, b_band, addD_ii, subD_ii, mulD_ii, modD_ii, divD_ii, powD_ii, bandD_ii, addD_tt, addD_ll, addD_fl, c_eq, c_ne, c_lt, c_le, c_gt, c_ge, c_is, c_isn, isD_bb, eqD_ii, eqD_ss, eqD_bb, ltD_ii, leD_ii, bi_len, bi_max, bi_min, bi_tup, bi_lst, bi_repr, bi_all, maxB_ii, minB_ii, lenB_1, tupB_1, lstB_1, reprB_1, allB_1, slD_t, slD_l, slD_f, slD_r, ints2_ii, popD_ri, dgetF_2, lset_t, lset_l, lset_r, AG.wipeD, asg_n, asg_t, asg_p, AG.setAll, atI_0, atI_1, atI_2, atI_3, ixN_30, ixN_31, ixN_32, List.set_cons_zero, List.set_cons_succ, List.getElem?_set_self, List.length_set, Bool.and_eq_true, decide_eq_true_eq, decide_eq_false_iff_not, bne_iff_ne, bne_eq_false_iff_eq, Int.toNat_natCast]
  rw [h37] at b1
  refine ⟨fun ha => ⟨by omega, ⟨by omega, big_of (by omega) (by omega)⟩, ?_⟩, fun _ => ?_⟩
  · obtain ⟨t, e1, e2⟩ := tn a
    exact ⟨t, e1, e2, ⟨_, _, _, set_at hS _, b0, by rw [h37]; exact b1, by omega, by omega⟩, trivial, Fr.set _ _ _⟩
  · refine ⟨⟨by decide, big_of (by omega) (by omega)⟩, ?_⟩
    rw [ok_powW (by decide) (by decide) (by rw [h200]; omega), ok_powW (by decide) (by decide) (by rw [h200]; decide)]
    try simp only [runF, exs, ex, ev, evs, evt, evo, evi, evc, ok_bnd, ok_ret', ok_getV, ok_getC, ok_setC, ok_opt, ok_need, ok_ite, ok_mkLf, ok_mkLt, ok_notB, List.map_cons, List.map_nil, List.replicate_zero, List.replicate_succ, List.length_cons, List.length_nil, List.cons_append, List.nil_append, Nat.reduceSub, Nat.reduceAdd, List.getElem?_cons_zero, List.getElem?_cons_succ, Option.some.injEq, exists_eq_left', ixD_i, setIx_ri, appD_r, isC_r, items_tup, items_lst, items_fro, items_ref, tru_b, tru_i, b_add, b_sub, b_mul, b_div, b_mod, b_pow, b_band, addD_ii, subD_ii, mulD_ii, modD_ii, divD_ii, powD_ii, bandD_ii, addD_tt, addD_ll, addD_fl, c_eq, c_ne, c_lt, c_le, c_gt, c_ge, c_is, c_isn, isD_bb, eqD_ii, eqD_ss, eqD_bb, ltD_ii, leD_ii, bi_len, bi_max, bi_min, bi_tup, bi_lst, bi_repr, bi_all, maxB_ii, minB_ii, lenB_1, tupB_1, lstB_1, reprB_1, allB_1, slD_t, slD_l, slD_f, slD_r, ints2_ii, popD_ri, dgetF_2, lset_t, lset_l, lset_r, AG.wipeD, asg_n, asg_t, asg_p, AG.setAll, atI_0, atI_1, atI_2, atI_3, ixN_30, ixN_31, ixN_32, List.set_cons_zero, List.set_cons_succ, List.getElem?_set_self, List.length_set, Bool.and_eq_true, decide_eq_true_eq, decide_eq_false_iff_not, bne_iff_ne, bne_eq_false_iff_eq, Int.toNat_natCast]
    refine ⟨by decide, ?_⟩
    have hS2 := set_at hS (some [D.int a, D.int b, D.int (c + 1)])
    refine ⟨_, hS2, ?_⟩
    try simp only [runF, exs, ex, ev, evs, evt, evo, evi, evc, ok_bnd, ok_ret', ok_getV, ok_getC, ok_setC, ok_opt, ok_need, ok_ite, ok_mkLf, ok_mkLt, ok_notB, List.map_cons, List.map_nil, List.replicate_zero, List.replicate_succ, List.length_cons, List.length_nil, List.cons_append, List.nil_append, Nat.reduceSub, Nat.reduceAdd, List.getElem?_cons_zero, List.getElem?_cons_succ, Option.some.injEq, exists_eq_left', ixD_i, setIx_ri, appD_r, isC_r, items_tup, items_lst, items_fro, items_ref, tru_b, tru_i, b_add, b_sub, b_mul, b_div, b_mod, b_pow, b_band, addD_ii, subD_ii, mulD_ii, modD_ii, divD_ii, powD_ii, bandD_ii, addD_tt, addD_ll, addD_fl, c_eq, c_ne, c_lt, c_le, c_gt, c_ge, c_is, c_isn, isD_bb, eqD_ii, eqD_ss, eqD_bb, ltD_ii, leD_ii, bi_len, bi_max, bi_min, bi_tup, bi_lst, bi_repr, bi_all, maxB_ii, minB_ii, lenB_1, tupB_1, lstB_1, reprB_1, allB_1, slD_t, slD_l, slD_f, slD_r, ints2_ii, popD_ri, dgetF_2, lset_t, lset_l, lset_r, AG.wipeD, asg_n, asg_t, asg_p, AG.setAll, atI_0, atI_1, atI_2, atI_3, ixN_30, ixN_31, ixN_32, List.set_cons_zero, List.set_cons_succ, List.getElem?_set_self, List.length_set, Bool.and_eq_true, decide_eq_true_eq, decide_eq_false_iff_not, bne_iff_ne, bne_eq_false_iff_eq, Int.toNat_natCast]
    have h39 : (10 : Int) ^ Int.toNat 39 = 1000000000000000000000000000000000000000 := by decide
    have hu0 := Int.emod_nonneg ((b + 15485863 * (c + 1)) ^ Int.toNat 3) (show (10 : Int) ^ Int.toNat 39 + 3 ≠ 0 by decide)
    have hu1 := Int.emod_lt_of_pos ((b + 15485863 * (c + 1)) ^ Int.toNat 3) (show (0 : Int) < (10 : Int) ^ Int.toNat 39 + 3 by decide)
    generalize (b + 15485863 * (c + 1)) ^ Int.toNat 3 % ((10 : Int) ^ Int.toNat 39 + 3) = u at hu0 hu1 ⊢
    rw [h39] at hu1
    refine ⟨⟨by decide, big_of (by omega) (by omega)⟩, ?_⟩
    rw [ok_powW (by decide) (by decide) (by rw [h200]; omega), ok_powW (by decide) (by decide) (by rw [h200]; decide)]
    try simp only [runF, exs, ex, ev, evs, evt, evo, evi, evc, ok_bnd, ok_ret', ok_getV, ok_getC, ok_setC, ok_opt, ok_need, ok_ite, ok_mkLf, ok_mkLt, ok_notB, List.map_cons, List.map_nil, List.replicate_zero, List.replicate_succ, List.length_cons, List.length_nil, List.cons_append, List.nil_append, Nat.reduceSub, Nat.reduceAdd, List.getElem?_cons_zero, List.getElem?_cons_succ, Option.some.injEq, exists_eq_left', ixD_i, setIx_ri, appD_r, isC_r, items_tup, items_lst, items_fro, items_ref, tru_b, tru_i, b_add, b_sub, b_mul, b_div, b_mod, b_pow, b_band, addD_ii, subD_ii, mulD_ii, modD_ii, divD_ii, powD_ii, bandD_ii, addD_tt, addD_ll, addD_fl, c_eq, c_ne, c_lt, c_le, c_gt, c_ge, c_is, c_isn, isD_bb, eqD_ii, eqD_ss, eqD_bb, ltD_ii, leD_ii, bi_len, bi_max, bi_min, bi_tup, bi_lst, bi_repr, bi_all, maxB_ii, minB_ii, lenB_1, tupB_1, lstB_1, reprB_1, allB_1, slD_t, slD_l, slD_f, slD_r, ints2_ii, popD_ri, dgetF_2, lset_t, lset_l, lset_r, AG.wipeD, asg_n, asg_t, asg_p, AG.setAll, atI_0, atI_1, atI_2, atI_3, ixN_30, ixN_31, ixN_32, List.set_cons_zero, List.set_cons_succ, List.getElem?_set_self, List.length_set, Bool.and_eq_true, decide_eq_true_eq, decide_eq_false_iff_not, bne_iff_ne, bne_eq_false_iff_eq, Int.toNat_natCast]
    obtain ⟨t, e1, e2⟩ := tn ((u + 982451653 * (c + 1)) ^ Int.toNat 3 % ((10 : Int) ^ Int.toNat 37 + 43) / 1048576)
    refine ⟨by decide, ⟨by decide, by decide⟩, by omega, t, e1, e2, ⟨_, _, _, hS2, b0, by rw [h37]; exact b1, by omega, by omega⟩, by simp, Fr.set _ _ _⟩
theorem tru_run (hp : Dip2W (Φ "_law_dip")) : TruW (runF Φ fu 4 b_law_truths) := by
  intro S k n m h hn hm
  simp only [b_law_truths, runF, exs, ex, ev, evs, evt, evo, evi, evc, ok_bnd, ok_ret', ok_getV, ok_getC, ok_setC, ok_opt, ok_need, ok_ite, ok_mkLf, ok_mkLt, ok_notB, List.map_cons, List.map_nil, List.replicate_zero, List.replicate_succ, List.length_cons, List.length_nil, List.cons_append, List.nil_append, Nat.reduceSub, Nat.reduceAdd, List.getElem?_cons_zero, List.getElem?_cons_succ, Option.some.injEq, exists_eq_left', ixD_i, setIx_ri, appD_r, isC_r, items_tup, items_lst, items_fro, items_ref, tru_b, tru_i, b_add, b_sub, b_mul, b_div, b_mod, b_pow, b_band, addD_ii, subD_ii, mulD_ii, modD_ii, divD_ii, powD_ii, bandD_ii, addD_tt, addD_ll, addD_fl, c_eq, c_ne, c_lt, c_le, c_gt, c_ge, c_is, c_isn, isD_bb, eqD_ii, eqD_ss, eqD_bb, ltD_ii, leD_ii, bi_len, bi_max, bi_min, bi_tup, bi_lst, bi_repr, bi_all, maxB_ii, minB_ii, lenB_1, tupB_1, lstB_1, reprB_1, allB_1, slD_t, slD_l, slD_f, slD_r, ints2_ii, popD_ri, dgetF_2, lset_t, lset_l, lset_r, AG.wipeD, asg_n, asg_t, asg_p, AG.setAll, atI_0, atI_1, atI_2, atI_3, ixN_30, ixN_31, ixN_32, List.set_cons_zero, List.set_cons_succ, List.getElem?_set_self, List.length_set, Bool.and_eq_true, decide_eq_true_eq, decide_eq_false_iff_not, bne_iff_ne, bne_eq_false_iff_eq, Int.toNat_natCast]
  refine ⟨by decide, ?_⟩
  refine (hp S k n 5 h (by omega) (by decide) (by decide)).mono fun d S1 ⟨t, hd, ht, b1, l1, f1⟩ => ?_
  subst hd
  try simp only [runF, exs, ex, ev, evs, evt, evo, evi, evc, ok_bnd, ok_ret', ok_getV, ok_getC, ok_setC, ok_opt, ok_need, ok_ite, ok_mkLf, ok_mkLt, ok_notB, List.map_cons, List.map_nil, List.replicate_zero, List.replicate_succ, List.length_cons, List.length_nil, List.cons_append, List.nil_append, Nat.reduceSub, Nat.reduceAdd, List.getElem?_cons_zero, List.getElem?_cons_succ, Option.some.injEq, exists_eq_left', ixD_i, setIx_ri, appD_r, isC_r, items_tup, items_lst, items_fro, items_ref, tru_b, tru_i, b_add, b_sub, b_mul, b_div, b_mod, b_pow, b_band, addD_ii, subD_ii, mulD_ii, modD_ii, divD_ii, powD_ii, bandD_ii, addD_tt, addD_ll, addD_fl, c_eq, c_ne, c_lt, c_le, c_gt, c_ge, c_is, c_isn, isD_bb, eqD_ii, eqD_ss, eqD_bb, ltD_ii, leD_ii, bi_len, bi_max, bi_min, bi_tup, bi_lst, bi_repr, bi_all, maxB_ii, minB_ii, lenB_1, tupB_1, lstB_1, reprB_1, allB_1, slD_t, slD_l, slD_f, slD_r, ints2_ii, popD_ri, dgetF_2, lset_t, lset_l, lset_r, AG.wipeD, asg_n, asg_t, asg_p, AG.setAll, atI_0, atI_1, atI_2, atI_3, ixN_30, ixN_31, ixN_32, List.set_cons_zero, List.set_cons_succ, List.getElem?_set_self, List.length_set, Bool.and_eq_true, decide_eq_true_eq, decide_eq_false_iff_not, bne_iff_ne, bne_eq_false_iff_eq, Int.toNat_natCast]
  rw [atI_of]
  obtain ⟨o, ho⟩ : ∃ o : Nat, ([D.int 0, D.int 4, D.int 1, D.int 2, D.int 3] : List D)[t]? = some (D.int (o : Nat)) := by
    have : t = 0 ∨ t = 1 ∨ t = 2 ∨ t = 3 ∨ t = 4 := by omega
    rcases this with z | z | z | z | z <;> subst z
    · exact ⟨0, rfl⟩
    · exact ⟨4, rfl⟩
    · exact ⟨1, rfl⟩
    · exact ⟨2, rfl⟩
    · exact ⟨3, rfl⟩
  refine ⟨_, ho, ?_⟩
  try simp only [runF, exs, ex, ev, evs, evt, evo, evi, evc, ok_bnd, ok_ret', ok_getV, ok_getC, ok_setC, ok_opt, ok_need, ok_ite, ok_mkLf, ok_mkLt, ok_notB, List.map_cons, List.map_nil, List.replicate_zero, List.replicate_succ, List.length_cons, List.length_nil, List.cons_append, List.nil_append, Nat.reduceSub, Nat.reduceAdd, List.getElem?_cons_zero, List.getElem?_cons_succ, Option.some.injEq, exists_eq_left', ixD_i, setIx_ri, appD_r, isC_r, items_tup, items_lst, items_fro, items_ref, tru_b, tru_i, b_add, b_sub, b_mul, b_div, b_mod, b_pow, b_band, addD_ii, subD_ii, mulD_ii, modD_ii, divD_ii, powD_ii, bandD_ii, addD_tt, addD_ll, addD_fl, c_eq, c_ne, c_lt, c_le, c_gt, c_ge, c_is, c_isn, isD_bb, eqD_ii, eqD_ss, eqD_bb, ltD_ii, leD_ii, bi_len, bi_max, bi_min, bi_tup, bi_lst, bi_repr, bi_all, maxB_ii, minB_ii, lenB_1, tupB_1, lstB_1, reprB_1, allB_1, slD_t, slD_l, slD_f, slD_r, ints2_ii, popD_ri, dgetF_2, lset_t, lset_l, lset_r, AG.wipeD, asg_n, asg_t, asg_p, AG.setAll, atI_0, atI_1, atI_2, atI_3, ixN_30, ixN_31, ixN_32, List.set_cons_zero, List.set_cons_succ, List.getElem?_set_self, List.length_set, Bool.and_eq_true, decide_eq_true_eq, decide_eq_false_iff_not, bne_iff_ne, bne_eq_false_iff_eq, Int.toNat_natCast]
  refine ⟨okR_nat (by omega), ?_⟩
  refine ok_lc (fun i acc S' => ∃ bs, acc = bN bs ∧ bs.length = i ∧ Jar S' k (n + 1 + i) ∧ Fr k S S') ⟨[], rfl, rfl, b1, f1⟩ (by rw [rng_len]; omega) ?_ ?_
  · rintro i x acc S2 hx hacc ⟨bs, e1, e2, e3, e4⟩
    have hi : i < m := by
      have := (List.getElem?_eq_some_iff.mp hx).1
      rw [rng_len] at this
      exact this
    refine ⟨_, rfl, ?_⟩
    simp only [runF, exs, ex, ev, evs, evt, evo, evi, evc, ok_bnd, ok_ret', ok_getV, ok_getC, ok_setC, ok_opt, ok_need, ok_ite, ok_mkLf, ok_mkLt, ok_notB, List.map_cons, List.map_nil, List.replicate_zero, List.replicate_succ, List.length_cons, List.length_nil, List.cons_append, List.nil_append, Nat.reduceSub, Nat.reduceAdd, List.getElem?_cons_zero, List.getElem?_cons_succ, Option.some.injEq, exists_eq_left', ixD_i, setIx_ri, appD_r, isC_r, items_tup, items_lst, items_fro, items_ref, tru_b, tru_i, b_add, b_sub, b_mul, b_div, b_mod, b_pow, b_band, addD_ii, subD_ii, mulD_ii, modD_ii, divD_ii, powD_ii, bandD_ii, addD_tt, addD_ll, addD_fl, c_eq, c_ne, c_lt, c_le, c_gt, c_ge, c_is, c_isn, isD_bb, eqD_ii, eqD_ss, eqD_bb, ltD_ii, leD_ii, bi_len, bi_max, bi_min, bi_tup, bi_lst, bi_repr, bi_all, maxB_ii, minB_ii, lenB_1, tupB_1, lstB_1, reprB_1, allB_1, slD_t, slD_l, slD_f, slD_r, ints2_ii, popD_ri, dgetF_2, lset_t, lset_l, lset_r, AG.wipeD, asg_n, asg_t, asg_p, AG.setAll, atI_0, atI_1, atI_2, atI_3, ixN_30, ixN_31, ixN_32, List.set_cons_zero, List.set_cons_succ, List.getElem?_set_self, List.length_set, Bool.and_eq_true, decide_eq_true_eq, decide_eq_false_iff_not, bne_iff_ne, bne_eq_false_iff_eq, Int.toNat_natCast]
    refine (hp S2 k _ 4 e3 (by omega) (by decide) (by decide)).mono fun d S3 ⟨u, hd, hu, b3, l3, f3⟩ => ?_
    subst hd
    simp only [runF, exs, ex, ev, evs, evt, evo, evi, evc, ok_bnd, ok_ret', ok_getV, ok_getC, ok_setC, ok_opt, ok_need, ok_ite, ok_mkLf, ok_mkLt, ok_notB, List.map_cons, List.map_nil, List.replicate_zero, List.replicate_succ, List.length_cons, List.length_nil, List.cons_append, List.nil_append, Nat.reduceSub, Nat.reduceAdd, List.getElem?_cons_zero, List.getElem?_cons_succ, Option.some.injEq, exists_eq_left', ixD_i, setIx_ri, appD_r, isC_r, items_tup, items_lst, items_fro, items_ref, tru_b, tru_i, b_add, b_sub, b_mul, b_div, b_mod, b_pow, b_band, addD_ii, subD_ii, mulD_ii, modD_ii, divD_ii, powD_ii, bandD_ii, addD_tt, addD_ll, addD_fl, c_eq, c_ne, c_lt, c_le, c_gt, c_ge, c_is, c_isn, isD_bb, eqD_ii, eqD_ss, eqD_bb, ltD_ii, leD_ii, bi_len, bi_max, bi_min, bi_tup, bi_lst, bi_repr, bi_all, maxB_ii, minB_ii, lenB_1, tupB_1, lstB_1, reprB_1, allB_1, slD_t, slD_l, slD_f, slD_r, ints2_ii, popD_ri, dgetF_2, lset_t, lset_l, lset_r, AG.wipeD, asg_n, asg_t, asg_p, AG.setAll, atI_0, atI_1, atI_2, atI_3, ixN_30, ixN_31, ixN_32, List.set_cons_zero, List.set_cons_succ, List.getElem?_set_self, List.length_set, Bool.and_eq_true, decide_eq_true_eq, decide_eq_false_iff_not, bne_iff_ne, bne_eq_false_iff_eq, Int.toNat_natCast]
    exact ⟨bs ++ [_], by rw [e1]; unfold bN; rw [List.map_append]; rfl, by rw [List.length_append, e2]; rfl, b3.up (by omega), e4.trans f3⟩
  · rintro acc S2 hacc ⟨bs, e1, e2, e3, e4⟩
    rw [rng_len] at e2 e3
    subst e1
    try simp only [runF, exs, ex, ev, evs, evt, evo, evi, evc, ok_bnd, ok_ret', ok_getV, ok_getC, ok_setC, ok_opt, ok_need, ok_ite, ok_mkLf, ok_mkLt, ok_notB, List.map_cons, List.map_nil, List.replicate_zero, List.replicate_succ, List.length_cons, List.length_nil, List.cons_append, List.nil_append, Nat.reduceSub, Nat.reduceAdd, List.getElem?_cons_zero, List.getElem?_cons_succ, Option.some.injEq, exists_eq_left', ixD_i, setIx_ri, appD_r, isC_r, items_tup, items_lst, items_fro, items_ref, tru_b, tru_i, b_add, b_sub, b_mul, b_div, b_mod, b_pow, b_band, addD_ii, subD_ii, mulD_ii, modD_ii, divD_ii, powD_ii, bandD_ii, addD_tt, addD_ll, addD_fl, c_eq, c_ne, c_lt, c_le, c_gt, c_ge, c_is, c_isn, isD_bb, eqD_ii, eqD_ss, eqD_bb, ltD_ii, leD_ii, bi_len, bi_max, bi_min, bi_tup, bi_lst, bi_repr, bi_all, maxB_ii, minB_ii, lenB_1, tupB_1, lstB_1, reprB_1, allB_1, slD_t, slD_l, slD_f, slD_r, ints2_ii, popD_ri, dgetF_2, lset_t, lset_l, lset_r, AG.wipeD, asg_n, asg_t, asg_p, AG.setAll, atI_0, atI_1, atI_2, atI_3, ixN_30, ixN_31, ixN_32, List.set_cons_zero, List.set_cons_succ, List.getElem?_set_self, List.length_set, Bool.and_eq_true, decide_eq_true_eq, decide_eq_false_iff_not, bne_iff_ne, bne_eq_false_iff_eq, Int.toNat_natCast]
    exact ⟨bs, rfl, e2, e3, e4⟩
theorem som_run (hp : Dip2W (Φ "_law_dip")) (ht : TruW (Φ "_law_truths")) : SomW (runF Φ fu 3 b_law_some) := by
  intro S k n h hn
  simp only [b_law_some, runF, exs, ex, ev, evs, evt, evo, evi, evc, ok_bnd, ok_ret', ok_getV, ok_getC, ok_setC, ok_opt, ok_need, ok_ite, ok_mkLf, ok_mkLt, ok_notB, List.map_cons, List.map_nil, List.replicate_zero, List.replicate_succ, List.length_cons, List.length_nil, List.cons_append, List.nil_append, Nat.reduceSub, Nat.reduceAdd, List.getElem?_cons_zero, List.getElem?_cons_succ, Option.some.injEq, exists_eq_left', ixD_i, setIx_ri, appD_r, isC_r, items_tup, items_lst, items_fro, items_ref, tru_b, tru_i, b_add, b_sub, b_mul, b_div, b_mod, b_pow, b_band, addD_ii, subD_ii, mulD_ii, modD_ii, divD_ii, powD_ii, bandD_ii, addD_tt, addD_ll, addD_fl, c_eq, c_ne, c_lt, c_le, c_gt, c_ge, c_is, c_isn, isD_bb, eqD_ii, eqD_ss, eqD_bb, ltD_ii, leD_ii, bi_len, bi_max, bi_min, bi_tup, bi_lst, bi_repr, bi_all, maxB_ii, minB_ii, lenB_1, tupB_1, lstB_1, reprB_1, allB_1, slD_t, slD_l, slD_f, slD_r, ints2_ii, popD_ri, dgetF_2, lset_t, lset_l, lset_r, AG.wipeD, asg_n, asg_t, asg_p, AG.setAll, atI_0, atI_1, atI_2, atI_3, ixN_30, ixN_31, ixN_32, List.set_cons_zero, List.set_cons_succ, List.getElem?_set_self, List.length_set, Bool.and_eq_true, decide_eq_true_eq, decide_eq_false_iff_not, bne_iff_ne, bne_eq_false_iff_eq, Int.toNat_natCast]
  refine (hp S k n 6 h (by omega) (by decide) (by decide)).mono fun d S1 ⟨t1, hd, ht1, b1, l1, f1⟩ => ?_
  subst hd
  try simp only [runF, exs, ex, ev, evs, evt, evo, evi, evc, ok_bnd, ok_ret', ok_getV, ok_getC, ok_setC, ok_opt, ok_need, ok_ite, ok_mkLf, ok_mkLt, ok_notB, List.map_cons, List.map_nil, List.replicate_zero, List.replicate_succ, List.length_cons, List.length_nil, List.cons_append, List.nil_append, Nat.reduceSub, Nat.reduceAdd, List.getElem?_cons_zero, List.getElem?_cons_succ, Option.some.injEq, exists_eq_left', ixD_i, setIx_ri, appD_r, isC_r, items_tup, items_lst, items_fro, items_ref, tru_b, tru_i, b_add, b_sub, b_mul, b_div, b_mod, b_pow, b_band, addD_ii, subD_ii, mulD_ii, modD_ii, divD_ii, powD_ii, bandD_ii, addD_tt, addD_ll, addD_fl, c_eq, c_ne, c_lt, c_le, c_gt, c_ge, c_is, c_isn, isD_bb, eqD_ii, eqD_ss, eqD_bb, ltD_ii, leD_ii, bi_len, bi_max, bi_min, bi_tup, bi_lst, bi_repr, bi_all, maxB_ii, minB_ii, lenB_1, tupB_1, lstB_1, reprB_1, allB_1, slD_t, slD_l, slD_f, slD_r, ints2_ii, popD_ri, dgetF_2, lset_t, lset_l, lset_r, AG.wipeD, asg_n, asg_t, asg_p, AG.setAll, atI_0, atI_1, atI_2, atI_3, ixN_30, ixN_31, ixN_32, List.set_cons_zero, List.set_cons_succ, List.getElem?_set_self, List.length_set, Bool.and_eq_true, decide_eq_true_eq, decide_eq_false_iff_not, bne_iff_ne, bne_eq_false_iff_eq, Int.toNat_natCast]
  refine (hp S1 k _ 40 b1 (by omega) (by decide) (by decide)).mono fun d S2 ⟨t2, hd, ht2, b2, l2, f2⟩ => ?_
  subst hd
  try simp only [runF, exs, ex, ev, evs, evt, evo, evi, evc, ok_bnd, ok_ret', ok_getV, ok_getC, ok_setC, ok_opt, ok_need, ok_ite, ok_mkLf, ok_mkLt, ok_notB, List.map_cons, List.map_nil, List.replicate_zero, List.replicate_succ, List.length_cons, List.length_nil, List.cons_append, List.nil_append, Nat.reduceSub, Nat.reduceAdd, List.getElem?_cons_zero, List.getElem?_cons_succ, Option.some.injEq, exists_eq_left', ixD_i, setIx_ri, appD_r, isC_r, items_tup, items_lst, items_fro, items_ref, tru_b, tru_i, b_add, b_sub, b_mul, b_div, b_mod, b_pow, b_band, addD_ii, subD_ii, mulD_ii, modD_ii, divD_ii, powD_ii, bandD_ii, addD_tt, addD_ll, addD_fl, c_eq, c_ne, c_lt, c_le, c_gt, c_ge, c_is, c_isn, isD_bb, eqD_ii, eqD_ss, eqD_bb, ltD_ii, leD_ii, bi_len, bi_max, bi_min, bi_tup, bi_lst, bi_repr, bi_all, maxB_ii, minB_ii, lenB_1, tupB_1, lstB_1, reprB_1, allB_1, slD_t, slD_l, slD_f, slD_r, ints2_ii, popD_ri, dgetF_2, lset_t, lset_l, lset_r, AG.wipeD, asg_n, asg_t, asg_p, AG.setAll, atI_0, atI_1, atI_2, atI_3, ixN_30, ixN_31, ixN_32, List.set_cons_zero, List.set_cons_succ, List.getElem?_set_self, List.length_set, Bool.and_eq_true, decide_eq_true_eq, decide_eq_false_iff_not, bne_iff_ne, bne_eq_false_iff_eq, Int.toNat_natCast]
  refine (hp S2 k _ 300 b2 (by omega) (by decide) (by decide)).mono fun d S3 ⟨t3, hd, ht3, b3, l3, f3⟩ => ?_
  subst hd
  try simp only [runF, exs, ex, ev, evs, evt, evo, evi, evc, ok_bnd, ok_ret', ok_getV, ok_getC, ok_setC, ok_opt, ok_need, ok_ite, ok_mkLf, ok_mkLt, ok_notB, List.map_cons, List.map_nil, List.replicate_zero, List.replicate_succ, List.length_cons, List.length_nil, List.cons_append, List.nil_append, Nat.reduceSub, Nat.reduceAdd, List.getElem?_cons_zero, List.getElem?_cons_succ, Option.some.injEq, exists_eq_left', ixD_i, setIx_ri, appD_r, isC_r, items_tup, items_lst, items_fro, items_ref, tru_b, tru_i, b_add, b_sub, b_mul, b_div, b_mod, b_pow, b_band, addD_ii, subD_ii, mulD_ii, modD_ii, divD_ii, powD_ii, bandD_ii, addD_tt, addD_ll, addD_fl, c_eq, c_ne, c_lt, c_le, c_gt, c_ge, c_is, c_isn, isD_bb, eqD_ii, eqD_ss, eqD_bb, ltD_ii, leD_ii, bi_len, bi_max, bi_min, bi_tup, bi_lst, bi_repr, bi_all, maxB_ii, minB_ii, lenB_1, tupB_1, lstB_1, reprB_1, allB_1, slD_t, slD_l, slD_f, slD_r, ints2_ii, popD_ri, dgetF_2, lset_t, lset_l, lset_r, AG.wipeD, asg_n, asg_t, asg_p, AG.setAll, atI_0, atI_1, atI_2, atI_3, ixN_30, ixN_31, ixN_32, List.set_cons_zero, List.set_cons_succ, List.getElem?_set_self, List.length_set, Bool.and_eq_true, decide_eq_true_eq, decide_eq_false_iff_not, bne_iff_ne, bne_eq_false_iff_eq, Int.toNat_natCast]
  refine ⟨by decide, ?_⟩
  refine (hp S3 k _ 4 b3 (by omega) (by decide) (by decide)).mono fun d S4 ⟨t4, hd, ht4, b4, l4, f4⟩ => ?_
  subst hd
  try simp only [runF, exs, ex, ev, evs, evt, evo, evi, evc, ok_bnd, ok_ret', ok_getV, ok_getC, ok_setC, ok_opt, ok_need, ok_ite, ok_mkLf, ok_mkLt, ok_notB, List.map_cons, List.map_nil, List.replicate_zero, List.replicate_succ, List.length_cons, List.length_nil, List.cons_append, List.nil_append, Nat.reduceSub, Nat.reduceAdd, List.getElem?_cons_zero, List.getElem?_cons_succ, Option.some.injEq, exists_eq_left', ixD_i, setIx_ri, appD_r, isC_r, items_tup, items_lst, items_fro, items_ref, tru_b, tru_i, b_add, b_sub, b_mul, b_div, b_mod, b_pow, b_band, addD_ii, subD_ii, mulD_ii, modD_ii, divD_ii, powD_ii, bandD_ii, addD_tt, addD_ll, addD_fl, c_eq, c_ne, c_lt, c_le, c_gt, c_ge, c_is, c_isn, isD_bb, eqD_ii, eqD_ss, eqD_bb, ltD_ii, leD_ii, bi_len, bi_max, bi_min, bi_tup, bi_lst, bi_repr, bi_all, maxB_ii, minB_ii, lenB_1, tupB_1, lstB_1, reprB_1, allB_1, slD_t, slD_l, slD_f, slD_r, ints2_ii, popD_ri, dgetF_2, lset_t, lset_l, lset_r, AG.wipeD, asg_n, asg_t, asg_p, AG.setAll, atI_0, atI_1, atI_2, atI_3, ixN_30, ixN_31, ixN_32, List.set_cons_zero, List.set_cons_succ, List.getElem?_set_self, List.length_set, Bool.and_eq_true, decide_eq_true_eq, decide_eq_false_iff_not, bne_iff_ne, bne_eq_false_iff_eq, Int.toNat_natCast]
  rw [atI_of]
  obtain ⟨fi, hfi, hf3⟩ : ∃ o : Nat, ([D.int 0, D.int (t1 : Nat), D.int (t2 : Nat), D.int (t3 : Nat)] : List D)[t4]? = some (D.int (o : Nat)) ∧ o < 300 := by
    have : t4 = 0 ∨ t4 = 1 ∨ t4 = 2 ∨ t4 = 3 := by omega
    rcases this with z | z | z | z <;> subst z
    · exact ⟨0, rfl, by omega⟩
    · exact ⟨t1, rfl, by omega⟩
    · exact ⟨t2, rfl, by omega⟩
    · exact ⟨t3, rfl, by omega⟩
  refine ⟨_, hfi, ?_⟩
  try simp only [runF, exs, ex, ev, evs, evt, evo, evi, evc, ok_bnd, ok_ret', ok_getV, ok_getC, ok_setC, ok_opt, ok_need, ok_ite, ok_mkLf, ok_mkLt, ok_notB, List.map_cons, List.map_nil, List.replicate_zero, List.replicate_succ, List.length_cons, List.length_nil, List.cons_append, List.nil_append, Nat.reduceSub, Nat.reduceAdd, List.getElem?_cons_zero, List.getElem?_cons_succ, Option.some.injEq, exists_eq_left', ixD_i, setIx_ri, appD_r, isC_r, items_tup, items_lst, items_fro, items_ref, tru_b, tru_i, b_add, b_sub, b_mul, b_div, b_mod, b_pow, b_band, addD_ii, subD_ii, mulD_ii, modD_ii, divD_ii, powD_ii, bandD_ii, addD_tt, addD_ll, addD_fl, c_eq, c_ne, c_lt, c_le, c_gt, c_ge, c_is, c_isn, isD_bb, eqD_ii, eqD_ss, eqD_bb, ltD_ii, leD_ii, bi_len, bi_max, bi_min, bi_tup, bi_lst, bi_repr, bi_all, maxB_ii, minB_ii, lenB_1, tupB_1, lstB_1, reprB_1, allB_1, slD_t, slD_l, slD_f, slD_r, ints2_ii, popD_ri, dgetF_2, lset_t, lset_l, lset_r, AG.wipeD, asg_n, asg_t, asg_p, AG.setAll, atI_0, atI_1, atI_2, atI_3, ixN_30, ixN_31, ixN_32, List.set_cons_zero, List.set_cons_succ, List.getElem?_set_self, List.length_set, Bool.and_eq_true, decide_eq_true_eq, decide_eq_false_iff_not, bne_iff_ne, bne_eq_false_iff_eq, Int.toNat_natCast]
  refine ⟨by decide, ?_⟩
  refine (hp S4 k _ 4 b4 (by omega) (by decide) (by decide)).mono fun d S5 ⟨t5, hd, ht5, b5, l5, f5⟩ => ?_
  subst hd
  try simp only [runF, exs, ex, ev, evs, evt, evo, evi, evc, ok_bnd, ok_ret', ok_getV, ok_getC, ok_setC, ok_opt, ok_need, ok_ite, ok_mkLf, ok_mkLt, ok_notB, List.map_cons, List.map_nil, List.replicate_zero, List.replicate_succ, List.length_cons, List.length_nil, List.cons_append, List.nil_append, Nat.reduceSub, Nat.reduceAdd, List.getElem?_cons_zero, List.getElem?_cons_succ, Option.some.injEq, exists_eq_left', ixD_i, setIx_ri, appD_r, isC_r, items_tup, items_lst, items_fro, items_ref, tru_b, tru_i, b_add, b_sub, b_mul, b_div, b_mod, b_pow, b_band, addD_ii, subD_ii, mulD_ii, modD_ii, divD_ii, powD_ii, bandD_ii, addD_tt, addD_ll, addD_fl, c_eq, c_ne, c_lt, c_le, c_gt, c_ge, c_is, c_isn, isD_bb, eqD_ii, eqD_ss, eqD_bb, ltD_ii, leD_ii, bi_len, bi_max, bi_min, bi_tup, bi_lst, bi_repr, bi_all, maxB_ii, minB_ii, lenB_1, tupB_1, lstB_1, reprB_1, allB_1, slD_t, slD_l, slD_f, slD_r, ints2_ii, popD_ri, dgetF_2, lset_t, lset_l, lset_r, AG.wipeD, asg_n, asg_t, asg_p, AG.setAll, atI_0, atI_1, atI_2, atI_3, ixN_30, ixN_31, ixN_32, List.set_cons_zero, List.set_cons_succ, List.getElem?_set_self, List.length_set, Bool.and_eq_true, decide_eq_true_eq, decide_eq_false_iff_not, bne_iff_ne, bne_eq_false_iff_eq, Int.toNat_natCast]
  rw [atI_of]
  obtain ⟨wi, hwi, hw1, hw2⟩ : ∃ o : Nat, ([D.int 1, D.int 6, D.int 30, D.int 240] : List D)[t5]? = some (D.int (o : Nat)) ∧ 1 ≤ o ∧ o ≤ 240 := by
    have : t5 = 0 ∨ t5 = 1 ∨ t5 = 2 ∨ t5 = 3 := by omega
    rcases this with z | z | z | z <;> subst z
    · exact ⟨1, rfl, by omega, by omega⟩
    · exact ⟨6, rfl, by omega, by omega⟩
    · exact ⟨30, rfl, by omega, by omega⟩
    · exact ⟨240, rfl, by omega, by omega⟩
  refine ⟨_, hwi, ?_⟩
  have e240 : (240 : Nat) ≤ 10 ^ 20 := by decide
  refine (hp S5 k _ wi b5 (by omega) hw1 (by omega)).mono fun d S6 ⟨t6, hd, ht6, b6, l6, f6⟩ => ?_
  subst hd
  try simp only [runF, exs, ex, ev, evs, evt, evo, evi, evc, ok_bnd, ok_ret', ok_getV, ok_getC, ok_setC, ok_opt, ok_need, ok_ite, ok_mkLf, ok_mkLt, ok_notB, List.map_cons, List.map_nil, List.replicate_zero, List.replicate_succ, List.length_cons, List.length_nil, List.cons_append, List.nil_append, Nat.reduceSub, Nat.reduceAdd, List.getElem?_cons_zero, List.getElem?_cons_succ, Option.some.injEq, exists_eq_left', ixD_i, setIx_ri, appD_r, isC_r, items_tup, items_lst, items_fro, items_ref, tru_b, tru_i, b_add, b_sub, b_mul, b_div, b_mod, b_pow, b_band, addD_ii, subD_ii, mulD_ii, modD_ii, divD_ii, powD_ii, bandD_ii, addD_tt, addD_ll, addD_fl, c_eq, c_ne, c_lt, c_le, c_gt, c_ge, c_is, c_isn, isD_bb, eqD_ii, eqD_ss, eqD_bb, ltD_ii, leD_ii, bi_len, bi_max, bi_min, bi_tup, bi_lst, bi_repr, bi_all, maxB_ii, minB_ii, lenB_1, tupB_1, lstB_1, reprB_1, allB_1, slD_t, slD_l, slD_f, slD_r, ints2_ii, popD_ri, dgetF_2, lset_t, lset_l, lset_r, AG.wipeD, asg_n, asg_t, asg_p, AG.setAll, atI_0, atI_1, atI_2, atI_3, ixN_30, ixN_31, ixN_32, List.set_cons_zero, List.set_cons_succ, List.getElem?_set_self, List.length_set, Bool.and_eq_true, decide_eq_true_eq, decide_eq_false_iff_not, bne_iff_ne, bne_eq_false_iff_eq, Int.toNat_natCast]
  have e1 : (1 : Int) + (t6 : Nat) = ((1 + t6 : Nat) : Int) := by omega
  rw [e1]
  refine (ht S6 k _ fi b6 (by omega) (by omega)).mono fun d S7 ⟨x1, hd, hx1, b7, f7⟩ => ?_
  subst hd
  try simp only [runF, exs, ex, ev, evs, evt, evo, evi, evc, ok_bnd, ok_ret', ok_getV, ok_getC, ok_setC, ok_opt, ok_need, ok_ite, ok_mkLf, ok_mkLt, ok_notB, List.map_cons, List.map_nil, List.replicate_zero, List.replicate_succ, List.length_cons, List.length_nil, List.cons_append, List.nil_append, Nat.reduceSub, Nat.reduceAdd, List.getElem?_cons_zero, List.getElem?_cons_succ, Option.some.injEq, exists_eq_left', ixD_i, setIx_ri, appD_r, isC_r, items_tup, items_lst, items_fro, items_ref, tru_b, tru_i, b_add, b_sub, b_mul, b_div, b_mod, b_pow, b_band, addD_ii, subD_ii, mulD_ii, modD_ii, divD_ii, powD_ii, bandD_ii, addD_tt, addD_ll, addD_fl, c_eq, c_ne, c_lt, c_le, c_gt, c_ge, c_is, c_isn, isD_bb, eqD_ii, eqD_ss, eqD_bb, ltD_ii, leD_ii, bi_len, bi_max, bi_min, bi_tup, bi_lst, bi_repr, bi_all, maxB_ii, minB_ii, lenB_1, tupB_1, lstB_1, reprB_1, allB_1, slD_t, slD_l, slD_f, slD_r, ints2_ii, popD_ri, dgetF_2, lset_t, lset_l, lset_r, AG.wipeD, asg_n, asg_t, asg_p, AG.setAll, atI_0, atI_1, atI_2, atI_3, ixN_30, ixN_31, ixN_32, List.set_cons_zero, List.set_cons_succ, List.getElem?_set_self, List.length_set, Bool.and_eq_true, decide_eq_true_eq, decide_eq_false_iff_not, bne_iff_ne, bne_eq_false_iff_eq, Int.toNat_natCast]
  refine (ht S7 k _ (1 + t6) b7 (by omega) (by omega)).mono fun d S8 ⟨x2, hd, hx2, b8, f8⟩ => ?_
  subst hd
  try simp only [runF, exs, ex, ev, evs, evt, evo, evi, evc, ok_bnd, ok_ret', ok_getV, ok_getC, ok_setC, ok_opt, ok_need, ok_ite, ok_mkLf, ok_mkLt, ok_notB, List.map_cons, List.map_nil, List.replicate_zero, List.replicate_succ, List.length_cons, List.length_nil, List.cons_append, List.nil_append, Nat.reduceSub, Nat.reduceAdd, List.getElem?_cons_zero, List.getElem?_cons_succ, Option.some.injEq, exists_eq_left', ixD_i, setIx_ri, appD_r, isC_r, items_tup, items_lst, items_fro, items_ref, tru_b, tru_i, b_add, b_sub, b_mul, b_div, b_mod, b_pow, b_band, addD_ii, subD_ii, mulD_ii, modD_ii, divD_ii, powD_ii, bandD_ii, addD_tt, addD_ll, addD_fl, c_eq, c_ne, c_lt, c_le, c_gt, c_ge, c_is, c_isn, isD_bb, eqD_ii, eqD_ss, eqD_bb, ltD_ii, leD_ii, bi_len, bi_max, bi_min, bi_tup, bi_lst, bi_repr, bi_all, maxB_ii, minB_ii, lenB_1, tupB_1, lstB_1, reprB_1, allB_1, slD_t, slD_l, slD_f, slD_r, ints2_ii, popD_ri, dgetF_2, lset_t, lset_l, lset_r, AG.wipeD, asg_n, asg_t, asg_p, AG.setAll, atI_0, atI_1, atI_2, atI_3, ixN_30, ixN_31, ixN_32, List.set_cons_zero, List.set_cons_succ, List.getElem?_set_self, List.length_set, Bool.and_eq_true, decide_eq_true_eq, decide_eq_false_iff_not, bne_iff_ne, bne_eq_false_iff_eq, Int.toNat_natCast]
  exact ⟨by decide, x1, x2, rfl, ⟨by omega, by omega, by omega⟩, b8.up (by omega), ((((((f1.trans f2).trans f3).trans f4).trans f5).trans f6).trans f7).trans f8⟩
theorem ok_mulLt {x : D} {m : Nat} {S : Sto} {P : D → Sto → Prop} (h9 : m ≤ 1000000) : Ok (mulLD true (.lst [x]) (.int (m : Nat))) S P = P (.ref S.length) (S ++ [some (List.replicate m x)]) := by
  have e : mulD (.lst [x]) (.int (m : Nat)) S = .ok (.lst (List.replicate m x)) S := by
    simp only [mulD]
    have e : (decide (-1000000 ≤ (m : Int)) && decide ((m : Int) ≤ 1000000) && decide (([x] : List D).length * (m : Int).toNat ≤ 1000000)) = true := by
      simp
      omega
    rw [e, Int.toNat_natCast]
    have : (List.replicate m [x]).flatten = List.replicate m x := by
      clear e h9
      induction m with
      | zero => rfl
      | succ m ih => rw [List.replicate_succ, List.flatten_cons, ih, List.replicate_succ]; rfl
    rw [this]
    rfl
  apply ok_of_run
  exact bnd_mk e rfl
theorem bN_rep (b : Bool) (n : Nat) : List.replicate n (D.bl b) = bN (List.replicate n b) := by
  unfold bN
  rw [List.map_replicate]
theorem bN_set (l : List Bool) (i : Nat) (b : Bool) : (bN l).set i (D.bl b) = bN (l.set i b) := by
  unfold bN
  rw [List.map_set]
theorem bN_len (l : List Bool) : (bN l).length = l.length := List.length_map ..
theorem ok_setixR {k j : Nat} {xs : List D} {v : D} {S : Sto} {P : Unit → Sto → Prop} (h : S[k]? = some (some xs)) (hj : j < xs.length) : Ok (setIx (.ref k) (.int (j : Nat)) v) S P = P () (S.set k (some (xs.set j v))) := by
  apply ok_of_run
  rw [setIx_ri]
  refine bnd_mk (getC_at h) ?_
  rw [ixN_of hj]
  show setC k _ S = _
  unfold setC
  rw [h]
theorem ok_eqRe {k : Nat} {xs : List D} {S : Sto} {P : Bool → Sto → Prop} (h : S[k]? = some (some xs)) : Ok (eqD (.ref k) (.lst [])) S P = P xs.isEmpty S := by
  apply ok_of_run
  exact bnd_mk (getC_at h) rfl
theorem farj_run (hp : Dip2W (Φ "_law_dip")) : FarJW (runF Φ fu 4 b_law_far_j) := by
  intro S k n m h hn h1 hm
  simp only [b_law_far_j, runF, exs, ex, ev, evs, evt, evo, evi, evc, ok_bnd, ok_ret', ok_getV, ok_getC, ok_setC, ok_opt, ok_need, ok_ite, ok_mkLf, ok_mkLt, ok_notB, List.map_cons, List.map_nil, List.replicate_zero, List.replicate_succ, List.length_cons, List.length_nil, List.cons_append, List.nil_append, Nat.reduceSub, Nat.reduceAdd, List.getElem?_cons_zero, List.getElem?_cons_succ, Option.some.injEq, exists_eq_left', ixD_i, setIx_ri, appD_r, isC_r, items_tup, items_lst, items_fro, items_ref, tru_b, tru_i, b_add, b_sub, b_mul, b_div, b_mod, b_pow, b_band, addD_ii, subD_ii, mulD_ii, modD_ii, divD_ii, powD_ii, bandD_ii, addD_tt, addD_ll, addD_fl, c_eq, c_ne, c_lt, c_le, c_gt, c_ge, c_is, c_isn, isD_bb, eqD_ii, eqD_ss, eqD_bb, ltD_ii, leD_ii, bi_len, bi_max, bi_min, bi_tup, bi_lst, bi_repr, bi_all, maxB_ii, minB_ii, lenB_1, tupB_1, lstB_1, reprB_1, allB_1, slD_t, slD_l, slD_f, slD_r, ints2_ii, popD_ri, dgetF_2, lset_t, lset_l, lset_r, AG.wipeD, asg_n, asg_t, asg_p, AG.setAll, atI_0, atI_1, atI_2, atI_3, ixN_30, ixN_31, ixN_32, List.set_cons_zero, List.set_cons_succ, List.getElem?_set_self, List.length_set, Bool.and_eq_true, decide_eq_true_eq, decide_eq_false_iff_not, bne_iff_ne, bne_eq_false_iff_eq, Int.toNat_natCast]
  refine (hp S k n 14 h (by omega) (by decide) (by decide)).mono fun d S1 ⟨t, hd, ht, b1, l1, f1⟩ => ?_
  subst hd
  simp only [runF, exs, ex, ev, evs, evt, evo, evi, evc, ok_bnd, ok_ret', ok_getV, ok_getC, ok_setC, ok_opt, ok_need, ok_ite, ok_mkLf, ok_mkLt, ok_notB, List.map_cons, List.map_nil, List.replicate_zero, List.replicate_succ, List.length_cons, List.length_nil, List.cons_append, List.nil_append, Nat.reduceSub, Nat.reduceAdd, List.getElem?_cons_zero, List.getElem?_cons_succ, Option.some.injEq, exists_eq_left', ixD_i, setIx_ri, appD_r, isC_r, items_tup, items_lst, items_fro, items_ref, tru_b, tru_i, b_add, b_sub, b_mul, b_div, b_mod, b_pow, b_band, addD_ii, subD_ii, mulD_ii, modD_ii, divD_ii, powD_ii, bandD_ii, addD_tt, addD_ll, addD_fl, c_eq, c_ne, c_lt, c_le, c_gt, c_ge, c_is, c_isn, isD_bb, eqD_ii, eqD_ss, eqD_bb, ltD_ii, leD_ii, bi_len, bi_max, bi_min, bi_tup, bi_lst, bi_repr, bi_all, maxB_ii, minB_ii, lenB_1, tupB_1, lstB_1, reprB_1, allB_1, slD_t, slD_l, slD_f, slD_r, ints2_ii, popD_ri, dgetF_2, lset_t, lset_l, lset_r, AG.wipeD, asg_n, asg_t, asg_p, AG.setAll, atI_0, atI_1, atI_2, atI_3, ixN_30, ixN_31, ixN_32, List.set_cons_zero, List.set_cons_succ, List.getElem?_set_self, List.length_set, Bool.and_eq_true, decide_eq_true_eq, decide_eq_false_iff_not, bne_iff_ne, bne_eq_false_iff_eq, Int.toNat_natCast]
  have e4 : (4 : Int) + (t : Nat) = ((4 + t : Nat) : Int) := by omega
  rw [e4]
  have tn : tenD (.int ((4 + t : Nat) : Int)) = AG.ret (.int ((10 ^ (4 + t) : Nat) : Int)) := by
    unfold tenD
    simp only []
    rw [decide_eq_true (by omega), decide_eq_true (by omega), Int.toNat_natCast]
    show AG.ret _ = _
    rw [Int.natCast_pow]
    rfl
  rw [tn]
  simp only [runF, exs, ex, ev, evs, evt, evo, evi, evc, ok_bnd, ok_ret', ok_getV, ok_getC, ok_setC, ok_opt, ok_need, ok_ite, ok_mkLf, ok_mkLt, ok_notB, List.map_cons, List.map_nil, List.replicate_zero, List.replicate_succ, List.length_cons, List.length_nil, List.cons_append, List.nil_append, Nat.reduceSub, Nat.reduceAdd, List.getElem?_cons_zero, List.getElem?_cons_succ, Option.some.injEq, exists_eq_left', ixD_i, setIx_ri, appD_r, isC_r, items_tup, items_lst, items_fro, items_ref, tru_b, tru_i, b_add, b_sub, b_mul, b_div, b_mod, b_pow, b_band, addD_ii, subD_ii, mulD_ii, modD_ii, divD_ii, powD_ii, bandD_ii, addD_tt, addD_ll, addD_fl, c_eq, c_ne, c_lt, c_le, c_gt, c_ge, c_is, c_isn, isD_bb, eqD_ii, eqD_ss, eqD_bb, ltD_ii, leD_ii, bi_len, bi_max, bi_min, bi_tup, bi_lst, bi_repr, bi_all, maxB_ii, minB_ii, lenB_1, tupB_1, lstB_1, reprB_1, allB_1, slD_t, slD_l, slD_f, slD_r, ints2_ii, popD_ri, dgetF_2, lset_t, lset_l, lset_r, AG.wipeD, asg_n, asg_t, asg_p, AG.setAll, atI_0, atI_1, atI_2, atI_3, ixN_30, ixN_31, ixN_32, List.set_cons_zero, List.set_cons_succ, List.getElem?_set_self, List.length_set, Bool.and_eq_true, decide_eq_true_eq, decide_eq_false_iff_not, bne_iff_ne, bne_eq_false_iff_eq, Int.toNat_natCast]
  have hw1 : 1 ≤ 10 ^ (4 + t) := Nat.one_le_pow _ _ (by decide)
  have hw2 : 10 ^ (4 + t) ≤ 10 ^ 17 := Nat.pow_le_pow_right (by decide) (by omega)
  have e17 : (10 : Nat) ^ 17 = 100000000000000000 := by decide
  have e18 : (10 : Nat) ^ 18 = 1000000000000000000 := by decide
  have e20 : (10 : Nat) ^ 20 = 100000000000000000000 := by decide
  generalize 10 ^ (4 + t) = wd at *
  refine (hp S1 k _ 30 b1 (by omega) (by decide) (by decide)).mono fun d S2 ⟨a, hd, ha, b2, l2, f2⟩ => ?_
  subst hd
  refine (hp S2 k _ 6000 b2 (by omega) (by decide) (by decide)).mono fun d S3 ⟨b, hd, hb', b3, l3, f3⟩ => ?_
  subst hd
  refine (hp S3 k _ wd b3 (by omega) (by omega) (by omega)).mono fun d S4 ⟨c, hd, hc, b4, l4, f4⟩ => ?_
  subst hd
  refine (show Ok (Φ "_law_dip" [.ref k, .int ((m : Nat) + 1 : Int)]) S4 _ from hp S4 k _ (m + 1) b4 (by omega) (by omega) (by omega)).mono fun d S5 ⟨e, hd, he, b5, l5, f5⟩ => ?_
  subst hd
  refine ⟨by decide, ?_⟩
  refine (hp S5 k _ 400 b5 (by omega) (by decide) (by decide)).mono fun d S6 ⟨g, hd, hg, b6, l6, f6⟩ => ?_
  subst hd
  simp only [runF, exs, ex, ev, evs, evt, evo, evi, evc, ok_bnd, ok_ret', ok_getV, ok_getC, ok_setC, ok_opt, ok_need, ok_ite, ok_mkLf, ok_mkLt, ok_notB, List.map_cons, List.map_nil, List.replicate_zero, List.replicate_succ, List.length_cons, List.length_nil, List.cons_append, List.nil_append, Nat.reduceSub, Nat.reduceAdd, List.getElem?_cons_zero, List.getElem?_cons_succ, Option.some.injEq, exists_eq_left', ixD_i, setIx_ri, appD_r, isC_r, items_tup, items_lst, items_fro, items_ref, tru_b, tru_i, b_add, b_sub, b_mul, b_div, b_mod, b_pow, b_band, addD_ii, subD_ii, mulD_ii, modD_ii, divD_ii, powD_ii, bandD_ii, addD_tt, addD_ll, addD_fl, c_eq, c_ne, c_lt, c_le, c_gt, c_ge, c_is, c_isn, isD_bb, eqD_ii, eqD_ss, eqD_bb, ltD_ii, leD_ii, bi_len, bi_max, bi_min, bi_tup, bi_lst, bi_repr, bi_all, maxB_ii, minB_ii, lenB_1, tupB_1, lstB_1, reprB_1, allB_1, slD_t, slD_l, slD_f, slD_r, ints2_ii, popD_ri, dgetF_2, lset_t, lset_l, lset_r, AG.wipeD, asg_n, asg_t, asg_p, AG.setAll, atI_0, atI_1, atI_2, atI_3, ixN_30, ixN_31, ixN_32, List.set_cons_zero, List.set_cons_succ, List.getElem?_set_self, List.length_set, Bool.and_eq_true, decide_eq_true_eq, decide_eq_false_iff_not, bne_iff_ne, bne_eq_false_iff_eq, Int.toNat_natCast]
  refine ⟨by decide, ⟨by decide, by decide⟩, ?_⟩
  refine (hp S6 k _ 5 b6 (by omega) (by decide) (by decide)).mono fun d S7 ⟨o, hd, ho, b7, l7, f7⟩ => ?_
  subst hd
  simp only [runF, exs, ex, ev, evs, evt, evo, evi, evc, ok_bnd, ok_ret', ok_getV, ok_getC, ok_setC, ok_opt, ok_need, ok_ite, ok_mkLf, ok_mkLt, ok_notB, List.map_cons, List.map_nil, List.replicate_zero, List.replicate_succ, List.length_cons, List.length_nil, List.cons_append, List.nil_append, Nat.reduceSub, Nat.reduceAdd, List.getElem?_cons_zero, List.getElem?_cons_succ, Option.some.injEq, exists_eq_left', ixD_i, setIx_ri, appD_r, isC_r, items_tup, items_lst, items_fro, items_ref, tru_b, tru_i, b_add, b_sub, b_mul, b_div, b_mod, b_pow, b_band, addD_ii, subD_ii, mulD_ii, modD_ii, divD_ii, powD_ii, bandD_ii, addD_tt, addD_ll, addD_fl, c_eq, c_ne, c_lt, c_le, c_gt, c_ge, c_is, c_isn, isD_bb, eqD_ii, eqD_ss, eqD_bb, ltD_ii, leD_ii, bi_len, bi_max, bi_min, bi_tup, bi_lst, bi_repr, bi_all, maxB_ii, minB_ii, lenB_1, tupB_1, lstB_1, reprB_1, allB_1, slD_t, slD_l, slD_f, slD_r, ints2_ii, popD_ri, dgetF_2, lset_t, lset_l, lset_r, AG.wipeD, asg_n, asg_t, asg_p, AG.setAll, atI_0, atI_1, atI_2, atI_3, ixN_30, ixN_31, ixN_32, List.set_cons_zero, List.set_cons_succ, List.getElem?_set_self, List.length_set, Bool.and_eq_true, decide_eq_true_eq, decide_eq_false_iff_not, bne_iff_ne, bne_eq_false_iff_eq, Int.toNat_natCast]
  rw [atI_of]
  have eg : ((m : Nat) : Int) - (g : Nat) = ((m - g : Nat) : Int) := by omega
  rw [eg]
  have : o = 0 ∨ o = 1 ∨ o = 2 ∨ o = 3 ∨ o = 4 := by omega
  rcases this with h | h | h | h | h <;> subst h
  · exact ⟨_, rfl, a, rfl, by omega, b7.up (by omega)⟩
  · exact ⟨_, rfl, b, rfl, by omega, b7.up (by omega)⟩
  · exact ⟨_, rfl, c, rfl, by omega, b7.up (by omega)⟩
  · exact ⟨_, rfl, e, rfl, by omega, b7.up (by omega)⟩
  · exact ⟨_, rfl, m - g, rfl, by omega, b7.up (by omega)⟩
end
end AGL
namespace AGL
open PySem AG
/-! ### the told form of truths -/
def meB (e m : List Bool) (b : Nat) : Bool := if b < e.length then e.getD b false else m.getD (b % m.length) false
def FrmW (F : List D → M D) : Prop := ∀ (S : Sto) (e m : List Bool), PrOk2 e m → Ok (F [.lst (bN e), .lst (bN m)]) S fun d S' => ∃ T, d = dTi T ∧ TiOk T ∧ (∀ b, mea T b = meB e m b) ∧ S' = S
theorem ok_lcfB {α : Type} {elt : AG.Env → M D} {tg : Tg} {cd : AG.Env → M Bool} {ρ : AG.Env} {P : List D → Sto → Prop} {S : Sto} (g f : α → D) (c : α → Bool) : ∀ (xs : List α) (acc : List D), acc.length + xs.length ≤ 1000000 →
    (∀ x ∈ xs, ∃ ρ2, asg tg (g x) ρ = some ρ2 ∧ Ok (cd ρ2) S fun k S' => k = c x ∧ S' = S ∧ (c x = true → Ok (elt ρ2) S fun y S' => y = f x ∧ S' = S)) → P (acc ++ (xs.filter c).map f) S → Ok (lcL elt tg cd ρ (xs.map g) acc) S P
  | [], acc, _, _, hd => by
    simp only [List.map_nil, lcL, ok_ret']
    simpa using hd
  | x :: xs, acc, hb, ht, hd => by
    obtain ⟨ρ2, e2, h2⟩ := ht x (List.mem_cons_self ..)
    simp only [List.map_cons, lcL]
    rw [ok_bnd, ok_opt]
    refine ⟨ρ2, e2, ?_⟩
    rw [ok_bnd]
    refine h2.mono fun k S' ⟨hk, hS, h3⟩ => ?_
    subst hk hS
    rw [List.length_cons] at hb
    by_cases hc : c x = true
    · rw [if_pos hc, ok_bnd]
      refine (h3 hc).mono fun y S' ⟨hy, hS⟩ => ?_
      subst hy hS
      rw [ok_need]
      refine ⟨by unfold small; exact decide_eq_true (by omega), ?_⟩
      refine ok_lcfB g f c xs (acc ++ [f x]) (by rw [List.length_append, List.length_singleton]; omega) (fun z hz => ht z (List.mem_cons_of_mem _ hz)) ?_
      rw [List.filter_cons_of_pos hc] at hd
      simpa using hd
    · rw [if_neg hc]
      refine ok_lcfB g f c xs acc (by omega) (fun z hz => ht z (List.mem_cons_of_mem _ hz)) ?_
      rw [List.filter_cons_of_neg hc] at hd
      exact hd
theorem bN_py : ∀ l : List Bool, toPys (bN l) = some (l.map PyData.bool)
  | [] => by simp [bN, toPys]
  | x :: l => by
    have := bN_py l
    unfold bN at this ⊢
    simp only [List.map_cons, toPys, toPy, this]
theorem bN_lay : ∀ l : List Bool, PyData.canLayAll0 (l.map PyData.bool) = true ∧ PyData.depthAll (l.map PyData.bool) ≤ 1
  | [] => by simp [PyData.canLayAll0, PyData.depthAll]
  | x :: l => by
    obtain ⟨h1, h2⟩ := bN_lay l
    simp only [List.map_cons, PyData.canLayAll0, PyData.depthAll, h1, PyData.canLay0, PyData.depth, Bool.and_self, true_and]
    omega
theorem bN_eqv : ∀ a b : List Bool, PyData.eqvAll (a.map PyData.bool) (b.map PyData.bool) = decide (a = b)
  | [], [] => by simp [PyData.eqvAll]
  | [], y :: b => by simp [PyData.eqvAll]
  | x :: a, [] => by simp [PyData.eqvAll]
  | x :: a, y :: b => by
    simp only [List.map_cons, PyData.eqvAll, bN_eqv a b, PyData.eqv]
    by_cases h : x = y <;> by_cases h2 : a = b <;> simp [h, h2] <;> (cases x <;> cases y <;> simp_all)
theorem ok_eqBn {a b : List Bool} {S : Sto} {P : Bool → Sto → Prop} (hb : b ≠ []) : Ok (eqD (.lst (bN a)) (.lst (bN b))) S P = P (decide (a = b)) S := by
  obtain ⟨y, b, rfl⟩ : ∃ y r, b = y :: r := by
    cases b with
    | nil => exact absurd rfl hb
    | cons y r => exact ⟨y, r, rfl⟩
  have e : eqD (.lst (bN a)) (.lst (bN (y :: b))) = eqG (.lst (bN a)) (.lst (bN (y :: b))) := by
    cases a with
    | nil => rfl
    | cons x a => rfl
  rw [e]
  have sh : ∀ l : List Bool, SeqAt.shaped (.list (l.map PyData.bool)) = true := fun l => by
    obtain ⟨h1, h2⟩ := bN_lay l
    have h3 : (PyData.list (l.map PyData.bool)).depth ≤ 64 := by
      simp only [PyData.depth]
      omega
    unfold SeqAt.shaped
    rw [decide_eq_true h3]
    simp only [PyData.canLay0, h1, Bool.and_self]
  apply ok_of_run
  unfold eqG
  simp only [toPy, bN_py, Option.map_some]
  rw [sh, sh]
  show AG.ret (PyData.eqvAll _ _) S = _
  rw [bN_eqv]
  rfl
theorem repB_at (l : List Bool) : ∀ (n i : Nat), i < n * l.length → ((List.replicate n l).flatten)[i]? = l[i % l.length]?
  | 0, i, h => by omega
  | n + 1, i, h => by
    rw [List.replicate_succ, List.flatten_cons]
    rw [Nat.add_mul, Nat.one_mul] at h
    rcases Nat.lt_or_ge i l.length with z | z
    · rw [List.getElem?_append_left z, Nat.mod_eq_of_lt z]
    · rw [List.getElem?_append_right z, repB_at l n (i - l.length) (by omega)]
      congr 1
      have := Nat.add_mod_right (i - l.length) l.length
      rw [show i - l.length + l.length = i by omega] at this
      exact this.symm
theorem bN_flat (l : List Bool) (n : Nat) : (List.replicate n (bN l)).flatten = bN (List.replicate n l).flatten := by
  unfold bN
  rw [List.map_flatten, List.map_replicate]
theorem bN_at (l : List Bool) (i : Nat) : (bN l)[i]? = (l[i]?).map D.bl := by unfold bN; rw [List.getElem?_map]
theorem getB_at {l : List Bool} {i : Nat} (h : i < l.length) : l[i]? = some (l.getD i false) := by
  rw [List.getD_eq_getElem?_getD, List.getElem?_eq_getElem h]
  rfl
theorem filt_pw (p : Nat → Bool) (n : Nat) : ((List.range n).filter p).Pairwise (· < ·) := List.Pairwise.filter _ List.pairwise_lt_range
theorem frm_me {e m : List Bool} {F R : Nat} (hF : F ≤ e.length) (hR : 1 ≤ R) (hm : 1 ≤ m.length) (hd : R ∣ m.length) (hper : ∀ i, i < m.length → m.getD i false = m.getD (i % R) false) (hw : ∀ i, F ≤ i → i < e.length → e.getD i false = m.getD (i % R) false) (b : Nat) : mea ⟨F, R, (List.range F).filter fun i => e.getD i false, (List.range R).filter fun i => m.getD i false⟩ b = meB e m b := by
  unfold mea meB
  show (if b < F then _ else _) = _
  by_cases h1 : b < F
  · rw [if_pos h1, if_pos (show b < e.length by omega)]
    rw [Bool.eq_iff_iff, decide_eq_true_eq, List.mem_filter, List.mem_range]
    exact ⟨fun h => h.2, fun h => ⟨h1, h⟩⟩
  · rw [if_neg h1]
    have e1 : decide (b % R ∈ (List.range R).filter fun i => m.getD i false) = m.getD (b % R) false := by
      rw [Bool.eq_iff_iff, decide_eq_true_eq, List.mem_filter, List.mem_range]
      exact ⟨fun h => h.2, fun h => ⟨Nat.mod_lt _ (by omega), h⟩⟩
    rw [e1]
    by_cases h2 : b < e.length
    · rw [if_pos h2, hw b (by omega) h2]
    · rw [if_neg h2, hper (b % m.length) (Nat.mod_lt _ (by omega)), Nat.mod_mod_of_dvd _ hd]
theorem frm_fin {e m : List Bool} {q R N : Nat} {x3 x5 : Option D} {S : Sto} (he : e.length ≤ 20001) (hmN : m.length ≤ 50001) (hq : q ≤ e.length) (hR : 1 ≤ R) (hm : 1 ≤ m.length) (hd : R ∣ m.length) (hper : ∀ i, i < m.length → m.getD i false = m.getD (i % R) false) (hw : ∀ i, q ≤ i → i < e.length → e.getD i false = m.getD (i % R) false) : okR ((q : Nat) : Int) = true ∧
          Ok
            (lcL (fun ρ => getV ρ 8) (Tg.name 8)
              (fun ρ => bnd (bnd (getV ρ 0) fun x => bnd (getV ρ 8) fun y => ixD x y) truD)
              [some (D.lst (bN e)), some (D.lst (bN m)), some (D.int (N : Nat)), x3, some (D.int (R : Nat)), x5, some (D.int (q : Nat)),
                none, none, none]
              (rngL 0 q) [])
            S fun a S' =>
            okR ((R : Nat) : Int) = true ∧
              Ok
                (lcL (fun ρ => getV ρ 9) (Tg.name 9)
                  (fun ρ => bnd (bnd (getV ρ 1) fun x => bnd (getV ρ 9) fun y => ixD x y) truD)
                  [some (D.lst (bN e)), some (D.lst (bN m)), some (D.int (N : Nat)), x3, some (D.int (R : Nat)), x5, some (D.int (q : Nat)),
                    some (D.tup a), none, none]
                  (rngL 0 R) [])
                S' fun a_1 S' =>
                small 4 = true ∧
                  ∃ T,
                    D.tup [D.int (q : Nat), D.int (R : Nat), D.tup a, D.tup a_1] = dTi T ∧
                      TiOk T ∧ (∀ (b : Nat), mea T b = meB e m b) ∧ S' = S := by
  have RN : R ≤ m.length := Nat.le_of_dvd hm hd
  have ok : ∀ n : Nat, n ≤ 60000 → okR (n : Int) = true := fun n hn => by unfold okR; simp only [Bool.and_eq_true, decide_eq_true_eq]; omega
  refine ⟨ok q (by omega), ?_⟩
  rw [rngL_0, rngL_0]
  refine ok_lcfB (fun i : Nat => D.int (i : Nat)) (fun i : Nat => D.int (i : Nat)) (fun i => e.getD i false) _ [] (by rw [List.length_nil, List.length_range]; omega) (fun i hi => ?_) ?_
  · have hi := List.mem_range.mp hi
    refine ⟨_, rfl, ?_⟩
    simp only [runF, exs, ex, ev, evs, evt, evo, evi, evc, ok_bnd, ok_ret', ok_getV, ok_getC, ok_setC, ok_opt, ok_need, ok_ite, ok_mkLf, ok_mkLt, ok_notB, List.map_cons, List.map_nil, List.replicate_zero, List.replicate_succ, List.length_cons, List.length_nil, List.cons_append, List.nil_append, Nat.reduceSub, Nat.reduceAdd, List.getElem?_cons_zero, List.getElem?_cons_succ, Option.some.injEq, exists_eq_left', ixD_i, setIx_ri, appD_r, isC_r, items_tup, items_lst, items_fro, items_ref, tru_b, tru_i, b_add, b_sub, b_mul, b_div, b_mod, b_pow, b_band, addD_ii, subD_ii, mulD_ii, modD_ii, divD_ii, powD_ii, bandD_ii, addD_tt, addD_ll, addD_fl, c_eq, c_ne, c_lt, c_le, c_gt, c_ge, c_is, c_isn, isD_bb, eqD_ii, eqD_ss, eqD_bb, ltD_ii, leD_ii, bi_len, bi_max, bi_min, bi_tup, bi_lst, bi_repr, bi_all, maxB_ii, minB_ii, lenB_1, tupB_1, lstB_1, reprB_1, allB_1, slD_t, slD_l, slD_f, slD_r, ints2_ii, popD_ri, dgetF_2, lset_t, lset_l, lset_r, AG.wipeD, asg_n, asg_t, asg_p, AG.setAll, atI_0, atI_1, atI_2, atI_3, ixN_30, ixN_31, ixN_32, List.set_cons_zero, List.set_cons_succ, List.getElem?_set_self, List.length_set, Bool.and_eq_true, decide_eq_true_eq, decide_eq_false_iff_not, bne_iff_ne, bne_eq_false_iff_eq, Int.toNat_natCast]
    rw [atI_of, bN_at, getB_at (show i < e.length by omega)]
    refine ⟨_, rfl, ?_⟩
    simp only [runF, exs, ex, ev, evs, evt, evo, evi, evc, ok_bnd, ok_ret', ok_getV, ok_getC, ok_setC, ok_opt, ok_need, ok_ite, ok_mkLf, ok_mkLt, ok_notB, List.map_cons, List.map_nil, List.replicate_zero, List.replicate_succ, List.length_cons, List.length_nil, List.cons_append, List.nil_append, Nat.reduceSub, Nat.reduceAdd, List.getElem?_cons_zero, List.getElem?_cons_succ, Option.some.injEq, exists_eq_left', ixD_i, setIx_ri, appD_r, isC_r, items_tup, items_lst, items_fro, items_ref, tru_b, tru_i, b_add, b_sub, b_mul, b_div, b_mod, b_pow, b_band, addD_ii, subD_ii, mulD_ii, modD_ii, divD_ii, powD_ii, bandD_ii, addD_tt, addD_ll, addD_fl, c_eq, c_ne, c_lt, c_le, c_gt, c_ge, c_is, c_isn, isD_bb, eqD_ii, eqD_ss, eqD_bb, ltD_ii, leD_ii, bi_len, bi_max, bi_min, bi_tup, bi_lst, bi_repr, bi_all, maxB_ii, minB_ii, lenB_1, tupB_1, lstB_1, reprB_1, allB_1, slD_t, slD_l, slD_f, slD_r, ints2_ii, popD_ri, dgetF_2, lset_t, lset_l, lset_r, AG.wipeD, asg_n, asg_t, asg_p, AG.setAll, atI_0, atI_1, atI_2, atI_3, ixN_30, ixN_31, ixN_32, List.set_cons_zero, List.set_cons_succ, List.getElem?_set_self, List.length_set, Bool.and_eq_true, decide_eq_true_eq, decide_eq_false_iff_not, bne_iff_ne, bne_eq_false_iff_eq, Int.toNat_natCast]
    exact ⟨by first | trivial | rfl, by first | trivial | rfl, fun _ => ⟨by first | trivial | rfl, by first | trivial | rfl⟩⟩
  · rw [List.nil_append]
    refine ⟨ok R (by omega), ?_⟩
    refine ok_lcfB (fun i : Nat => D.int (i : Nat)) (fun i : Nat => D.int (i : Nat)) (fun i => m.getD i false) _ [] (by rw [List.length_nil, List.length_range]; omega) (fun i hi => ?_) ?_
    · have hi := List.mem_range.mp hi
      refine ⟨_, rfl, ?_⟩
      simp only [runF, exs, ex, ev, evs, evt, evo, evi, evc, ok_bnd, ok_ret', ok_getV, ok_getC, ok_setC, ok_opt, ok_need, ok_ite, ok_mkLf, ok_mkLt, ok_notB, List.map_cons, List.map_nil, List.replicate_zero, List.replicate_succ, List.length_cons, List.length_nil, List.cons_append, List.nil_append, Nat.reduceSub, Nat.reduceAdd, List.getElem?_cons_zero, List.getElem?_cons_succ, Option.some.injEq, exists_eq_left', ixD_i, setIx_ri, appD_r, isC_r, items_tup, items_lst, items_fro, items_ref, tru_b, tru_i, b_add, b_sub, b_mul, b_div, b_mod, b_pow, b_band, addD_ii, subD_ii, mulD_ii, modD_ii, divD_ii, powD_ii, bandD_ii, addD_tt, addD_ll, addD_fl, c_eq, c_ne, c_lt, c_le, c_gt, c_ge, c_is, c_isn, isD_bb, eqD_ii, eqD_ss, eqD_bb, ltD_ii, leD_ii, bi_len, bi_max, bi_min, bi_tup, bi_lst, bi_repr, bi_all, maxB_ii, minB_ii, lenB_1, tupB_1, lstB_1, reprB_1, allB_1, slD_t, slD_l, slD_f, slD_r, ints2_ii, popD_ri, dgetF_2, lset_t, lset_l, lset_r, AG.wipeD, asg_n, asg_t, asg_p, AG.setAll, atI_0, atI_1, atI_2, atI_3, ixN_30, ixN_31, ixN_32, List.set_cons_zero, List.set_cons_succ, List.getElem?_set_self, List.length_set, Bool.and_eq_true, decide_eq_true_eq, decide_eq_false_iff_not, bne_iff_ne, bne_eq_false_iff_eq, Int.toNat_natCast]
      rw [atI_of, bN_at, getB_at (show i < m.length by omega)]
      refine ⟨_, rfl, ?_⟩
      simp only [runF, exs, ex, ev, evs, evt, evo, evi, evc, ok_bnd, ok_ret', ok_getV, ok_getC, ok_setC, ok_opt, ok_need, ok_ite, ok_mkLf, ok_mkLt, ok_notB, List.map_cons, List.map_nil, List.replicate_zero, List.replicate_succ, List.length_cons, List.length_nil, List.cons_append, List.nil_append, Nat.reduceSub, Nat.reduceAdd, List.getElem?_cons_zero, List.getElem?_cons_succ, Option.some.injEq, exists_eq_left', ixD_i, setIx_ri, appD_r, isC_r, items_tup, items_lst, items_fro, items_ref, tru_b, tru_i, b_add, b_sub, b_mul, b_div, b_mod, b_pow, b_band, addD_ii, subD_ii, mulD_ii, modD_ii, divD_ii, powD_ii, bandD_ii, addD_tt, addD_ll, addD_fl, c_eq, c_ne, c_lt, c_le, c_gt, c_ge, c_is, c_isn, isD_bb, eqD_ii, eqD_ss, eqD_bb, ltD_ii, leD_ii, bi_len, bi_max, bi_min, bi_tup, bi_lst, bi_repr, bi_all, maxB_ii, minB_ii, lenB_1, tupB_1, lstB_1, reprB_1, allB_1, slD_t, slD_l, slD_f, slD_r, ints2_ii, popD_ri, dgetF_2, lset_t, lset_l, lset_r, AG.wipeD, asg_n, asg_t, asg_p, AG.setAll, atI_0, atI_1, atI_2, atI_3, ixN_30, ixN_31, ixN_32, List.set_cons_zero, List.set_cons_succ, List.getElem?_set_self, List.length_set, Bool.and_eq_true, decide_eq_true_eq, decide_eq_false_iff_not, bne_iff_ne, bne_eq_false_iff_eq, Int.toNat_natCast]
      exact ⟨by first | trivial | rfl, by first | trivial | rfl, fun _ => ⟨by first | trivial | rfl, by first | trivial | rfl⟩⟩
    · rw [List.nil_append]
      refine ⟨by decide, _, rfl, ⟨hR, by show q ≤ 100000; omega, by show R ≤ 100000; omega, filt_pw _ _, fun a ha => ?_, filt_pw _ _, fun a ha => ?_⟩, frm_me hq hR hm hd hper hw, rfl⟩
      · exact List.mem_range.mp (List.mem_filter.mp ha).1
      · exact List.mem_range.mp (List.mem_filter.mp ha).1
section
variable {Φ : String → List D → M D} {fu : Nat}
theorem frm_run (hfu : 200000 ≤ fu) : FrmW (runF Φ fu 10 b_law_form) := by
  intro S e m ⟨he, hm1, hm5⟩
  simp only [b_law_form, runF, exs, ex, ev, evs, evt, evo, evi, evc, ok_bnd, ok_ret', ok_getV, ok_getC, ok_setC, ok_opt, ok_need, ok_ite, ok_mkLf, ok_mkLt, ok_notB, List.map_cons, List.map_nil, List.replicate_zero, List.replicate_succ, List.length_cons, List.length_nil, List.cons_append, List.nil_append, Nat.reduceSub, Nat.reduceAdd, List.getElem?_cons_zero, List.getElem?_cons_succ, Option.some.injEq, exists_eq_left', ixD_i, setIx_ri, appD_r, isC_r, items_tup, items_lst, items_fro, items_ref, tru_b, tru_i, b_add, b_sub, b_mul, b_div, b_mod, b_pow, b_band, addD_ii, subD_ii, mulD_ii, modD_ii, divD_ii, powD_ii, bandD_ii, addD_tt, addD_ll, addD_fl, c_eq, c_ne, c_lt, c_le, c_gt, c_ge, c_is, c_isn, isD_bb, eqD_ii, eqD_ss, eqD_bb, ltD_ii, leD_ii, bi_len, bi_max, bi_min, bi_tup, bi_lst, bi_repr, bi_all, maxB_ii, minB_ii, lenB_1, tupB_1, lstB_1, reprB_1, allB_1, slD_t, slD_l, slD_f, slD_r, ints2_ii, popD_ri, dgetF_2, lset_t, lset_l, lset_r, AG.wipeD, asg_n, asg_t, asg_p, AG.setAll, atI_0, atI_1, atI_2, atI_3, ixN_30, ixN_31, ixN_32, List.set_cons_zero, List.set_cons_succ, List.getElem?_set_self, List.length_set, Bool.and_eq_true, decide_eq_true_eq, decide_eq_false_iff_not, bne_iff_ne, bne_eq_false_iff_eq, Int.toNat_natCast]
  rw [bN_len, bN_len]
  obtain ⟨N, hN⟩ : ∃ N, N = m.length := ⟨_, rfl⟩
  rw [← hN] at hm1 hm5 ⊢
  have mne : m ≠ [] := by
    rintro rfl
    simp at hN
    omega
  refine ⟨⟨by decide, by unfold okR; simp only [Bool.and_eq_true, decide_eq_true_eq]; omega⟩, ?_⟩
  rw [show ((N : Int) + 1 - 1).toNat = N by omega, show rngL 1 N = (List.range N).map fun k => D.int ((k + 1 : Nat) : Int) by unfold rngL; apply List.map_congr_left; intro k _; congr 1; omega]
  refine ok_lcfB (fun k : Nat => D.int ((k + 1 : Nat) : Int)) (fun k : Nat => D.int ((k + 1 : Nat) : Int)) (fun k => decide (N % (k + 1) = 0)) (List.range N) [] (by rw [List.length_nil, List.length_range]; omega) (fun k hk => ?_) ?_
  · have hk := List.mem_range.mp hk
    refine ⟨_, rfl, ?_⟩
    simp only [runF, exs, ex, ev, evs, evt, evo, evi, evc, ok_bnd, ok_ret', ok_getV, ok_getC, ok_setC, ok_opt, ok_need, ok_ite, ok_mkLf, ok_mkLt, ok_notB, List.map_cons, List.map_nil, List.replicate_zero, List.replicate_succ, List.length_cons, List.length_nil, List.cons_append, List.nil_append, Nat.reduceSub, Nat.reduceAdd, List.getElem?_cons_zero, List.getElem?_cons_succ, Option.some.injEq, exists_eq_left', ixD_i, setIx_ri, appD_r, isC_r, items_tup, items_lst, items_fro, items_ref, tru_b, tru_i, b_add, b_sub, b_mul, b_div, b_mod, b_pow, b_band, addD_ii, subD_ii, mulD_ii, modD_ii, divD_ii, powD_ii, bandD_ii, addD_tt, addD_ll, addD_fl, c_eq, c_ne, c_lt, c_le, c_gt, c_ge, c_is, c_isn, isD_bb, eqD_ii, eqD_ss, eqD_bb, ltD_ii, leD_ii, bi_len, bi_max, bi_min, bi_tup, bi_lst, bi_repr, bi_all, maxB_ii, minB_ii, lenB_1, tupB_1, lstB_1, reprB_1, allB_1, slD_t, slD_l, slD_f, slD_r, ints2_ii, popD_ri, dgetF_2, lset_t, lset_l, lset_r, AG.wipeD, asg_n, asg_t, asg_p, AG.setAll, atI_0, atI_1, atI_2, atI_3, ixN_30, ixN_31, ixN_32, List.set_cons_zero, List.set_cons_succ, List.getElem?_set_self, List.length_set, Bool.and_eq_true, decide_eq_true_eq, decide_eq_false_iff_not, bne_iff_ne, bne_eq_false_iff_eq, Int.toNat_natCast]
    rw [mcast, show ((0 : Int)) = ((0 : Nat) : Int) from rfl, dec_nn]
    exact ⟨by omega, rfl, trivial, fun _ => ⟨trivial, trivial⟩⟩
  · rw [List.nil_append]
    obtain ⟨L, hL⟩ : ∃ L, L = (List.range N).filter fun k => decide (N % (k + 1) = 0) := ⟨_, rfl⟩
    have Lin : ∀ k ∈ L, k < N ∧ k + 1 ∣ N := fun k hk => by
      rw [hL, List.mem_filter, List.mem_range, decide_eq_true_eq] at hk
      exact ⟨hk.1, Nat.dvd_of_mod_eq_zero hk.2⟩
    have Llen : L.length ≤ N := by
      rw [hL]
      have := List.length_filter_le (fun k => decide (N % (k + 1) = 0)) (List.range N)
      rw [List.length_range] at this
      exact this
    rw [← hL]
    refine ok_lcfB (fun k : Nat => D.int ((k + 1 : Nat) : Int)) (fun k : Nat => D.int ((k + 1 : Nat) : Int)) (fun k => decide ((List.replicate (N / (k + 1)) (m.take (k + 1))).flatten = m)) L [] (by rw [List.length_nil]; omega) (fun k hk => ?_) ?_
    · obtain ⟨k1, k2⟩ := Lin k hk
      refine ⟨_, rfl, ?_⟩
      simp only [runF, exs, ex, ev, evs, evt, evo, evi, evc, ok_bnd, ok_ret', ok_getV, ok_getC, ok_setC, ok_opt, ok_need, ok_ite, ok_mkLf, ok_mkLt, ok_notB, List.map_cons, List.map_nil, List.replicate_zero, List.replicate_succ, List.length_cons, List.length_nil, List.cons_append, List.nil_append, Nat.reduceSub, Nat.reduceAdd, List.getElem?_cons_zero, List.getElem?_cons_succ, Option.some.injEq, exists_eq_left', ixD_i, setIx_ri, appD_r, isC_r, items_tup, items_lst, items_fro, items_ref, tru_b, tru_i, b_add, b_sub, b_mul, b_div, b_mod, b_pow, b_band, addD_ii, subD_ii, mulD_ii, modD_ii, divD_ii, powD_ii, bandD_ii, addD_tt, addD_ll, addD_fl, c_eq, c_ne, c_lt, c_le, c_gt, c_ge, c_is, c_isn, isD_bb, eqD_ii, eqD_ss, eqD_bb, ltD_ii, leD_ii, bi_len, bi_max, bi_min, bi_tup, bi_lst, bi_repr, bi_all, maxB_ii, minB_ii, lenB_1, tupB_1, lstB_1, reprB_1, allB_1, slD_t, slD_l, slD_f, slD_r, ints2_ii, popD_ri, dgetF_2, lset_t, lset_l, lset_r, AG.wipeD, asg_n, asg_t, asg_p, AG.setAll, atI_0, atI_1, atI_2, atI_3, ixN_30, ixN_31, ixN_32, List.set_cons_zero, List.set_cons_succ, List.getElem?_set_self, List.length_set, Bool.and_eq_true, decide_eq_true_eq, decide_eq_false_iff_not, bne_iff_ne, bne_eq_false_iff_eq, Int.toNat_natCast]
      rw [cut_take, show (bN m).take (k + 1) = bN (m.take (k + 1)) by unfold bN; rw [List.map_take], pcast]
      have hdm : (k + 1) * (N / (k + 1)) = N := Nat.mul_div_cancel' k2
      have hdl : N / (k + 1) ≤ N := Nat.div_le_self _ _
      generalize N / (k + 1) = Dv at hdm hdl ⊢
      rw [show mulD (.lst (bN (m.take (k + 1)))) (.int ((Dv : Nat) : Int)) = need (decide (-1000000 ≤ ((Dv : Nat) : Int)) && decide (((Dv : Nat) : Int) ≤ 1000000) && decide ((bN (m.take (k + 1))).length * ((Dv : Nat) : Int).toNat ≤ 1000000)) (AG.ret (.lst (List.replicate ((Dv : Nat) : Int).toNat (bN (m.take (k + 1)))).flatten)) from rfl]
      simp only [runF, exs, ex, ev, evs, evt, evo, evi, evc, ok_bnd, ok_ret', ok_getV, ok_getC, ok_setC, ok_opt, ok_need, ok_ite, ok_mkLf, ok_mkLt, ok_notB, List.map_cons, List.map_nil, List.replicate_zero, List.replicate_succ, List.length_cons, List.length_nil, List.cons_append, List.nil_append, Nat.reduceSub, Nat.reduceAdd, List.getElem?_cons_zero, List.getElem?_cons_succ, Option.some.injEq, exists_eq_left', ixD_i, setIx_ri, appD_r, isC_r, items_tup, items_lst, items_fro, items_ref, tru_b, tru_i, b_add, b_sub, b_mul, b_div, b_mod, b_pow, b_band, addD_ii, subD_ii, mulD_ii, modD_ii, divD_ii, powD_ii, bandD_ii, addD_tt, addD_ll, addD_fl, c_eq, c_ne, c_lt, c_le, c_gt, c_ge, c_is, c_isn, isD_bb, eqD_ii, eqD_ss, eqD_bb, ltD_ii, leD_ii, bi_len, bi_max, bi_min, bi_tup, bi_lst, bi_repr, bi_all, maxB_ii, minB_ii, lenB_1, tupB_1, lstB_1, reprB_1, allB_1, slD_t, slD_l, slD_f, slD_r, ints2_ii, popD_ri, dgetF_2, lset_t, lset_l, lset_r, AG.wipeD, asg_n, asg_t, asg_p, AG.setAll, atI_0, atI_1, atI_2, atI_3, ixN_30, ixN_31, ixN_32, List.set_cons_zero, List.set_cons_succ, List.getElem?_set_self, List.length_set, Bool.and_eq_true, decide_eq_true_eq, decide_eq_false_iff_not, bne_iff_ne, bne_eq_false_iff_eq, Int.toNat_natCast]
      rw [bN_len, List.length_take, show min (k + 1) m.length = k + 1 by omega, hdm, bN_flat, ok_eqBn mne]
      refine ⟨⟨by omega, big_nat (by omega)⟩, ⟨⟨by omega, by omega⟩, by omega⟩, rfl, by first | trivial | rfl, fun _ => ⟨by first | trivial | rfl, by first | trivial | rfl⟩⟩
    · rw [List.nil_append]
      obtain ⟨L2, hL2⟩ : ∃ L2, L2 = L.filter fun k => decide ((List.replicate (N / (k + 1)) (m.take (k + 1))).flatten = m) := ⟨_, rfl⟩
      rw [← hL2]
      have L2in : ∀ k ∈ L2, k < N ∧ k + 1 ∣ N ∧ (List.replicate (N / (k + 1)) (m.take (k + 1))).flatten = m := fun k hk => by
        rw [hL2, List.mem_filter, decide_eq_true_eq] at hk
        obtain ⟨a, b⟩ := Lin k hk.1
        exact ⟨a, b, hk.2⟩
      have L2ne : L2 ≠ [] := by
        have hin : N - 1 ∈ L2 := by
          rw [hL2, List.mem_filter, decide_eq_true_eq, hL, List.mem_filter, List.mem_range, decide_eq_true_eq, show N - 1 + 1 = N by omega, Nat.mod_self, Nat.div_self (by omega), List.take_of_length_le (by omega)]
          exact ⟨⟨by omega, rfl⟩, by simp⟩
        intro h
        rw [h] at hin
        cases hin
      obtain ⟨k0, Lr, hk0⟩ : ∃ k0 r, L2 = k0 :: r := by
        cases L2 with
        | nil => exact absurd rfl L2ne
        | cons y r => exact ⟨y, r, rfl⟩
      obtain ⟨k1, k2, k3⟩ := L2in k0 (by rw [hk0]; exact List.mem_cons_self ..)
      rw [hk0, List.map_cons]
      refine ⟨_, rfl, ?_⟩
      obtain ⟨R, hR⟩ : ∃ R, R = k0 + 1 := ⟨_, rfl⟩
      rw [← hR] at k2 k3 ⊢
      have R1 : 1 ≤ R := by omega
      have RN : R ≤ N := by omega
      have hper : ∀ i, i < m.length → m.getD i false = m.getD (i % R) false := fun i hi => by
        have hml : (m.take R).length = R := by rw [List.length_take]; omega
        have hdm : N / R * R = N := Nat.div_mul_cancel k2
        have := repB_at (m.take R) (N / R) i (by rw [hml, hdm]; omega)
        rw [k3, hml, List.getElem?_take, if_pos (Nat.mod_lt _ (by omega)), getB_at hi, getB_at (show i % R < m.length by have := Nat.mod_lt i (show R > 0 by omega); omega)] at this
        exact Option.some.inj this
      refine ok_wh (fun q ρ S' => (∃ x3 x5, ρ = [some (D.lst (bN e)), some (D.lst (bN m)), some (D.int (N : Nat)), x3, some (.int (R : Nat)), x5, some (.int (q : Nat)), none, none, none]) ∧ S' = S ∧ q ≤ e.length ∧ ∀ i, q ≤ i → i < e.length → e.getD i false = m.getD (i % R) false) fu e.length _ _ (by omega) ⟨⟨_, _, rfl⟩, rfl, Nat.le_refl _, fun i h1 h2 => by omega⟩ ?_
      rintro q ρ S1 ⟨⟨x3, x5, rfl⟩, rfl, hq, hw⟩
      simp only [runF, exs, ex, ev, evs, evt, evo, evi, evc, ok_bnd, ok_ret', ok_getV, ok_getC, ok_setC, ok_opt, ok_need, ok_ite, ok_mkLf, ok_mkLt, ok_notB, List.map_cons, List.map_nil, List.replicate_zero, List.replicate_succ, List.length_cons, List.length_nil, List.cons_append, List.nil_append, Nat.reduceSub, Nat.reduceAdd, List.getElem?_cons_zero, List.getElem?_cons_succ, Option.some.injEq, exists_eq_left', ixD_i, setIx_ri, appD_r, isC_r, items_tup, items_lst, items_fro, items_ref, tru_b, tru_i, b_add, b_sub, b_mul, b_div, b_mod, b_pow, b_band, addD_ii, subD_ii, mulD_ii, modD_ii, divD_ii, powD_ii, bandD_ii, addD_tt, addD_ll, addD_fl, c_eq, c_ne, c_lt, c_le, c_gt, c_ge, c_is, c_isn, isD_bb, eqD_ii, eqD_ss, eqD_bb, ltD_ii, leD_ii, bi_len, bi_max, bi_min, bi_tup, bi_lst, bi_repr, bi_all, maxB_ii, minB_ii, lenB_1, tupB_1, lstB_1, reprB_1, allB_1, slD_t, slD_l, slD_f, slD_r, ints2_ii, popD_ri, dgetF_2, lset_t, lset_l, lset_r, AG.wipeD, asg_n, asg_t, asg_p, AG.setAll, atI_0, atI_1, atI_2, atI_3, ixN_30, ixN_31, ixN_32, List.set_cons_zero, List.set_cons_succ, List.getElem?_set_self, List.length_set, Bool.and_eq_true, decide_eq_true_eq, decide_eq_false_iff_not, bne_iff_ne, bne_eq_false_iff_eq, Int.toNat_natCast]
      have fin := frm_fin (N := N) (x3 := x3) (x5 := x5) (S := S1) he (by omega) hq R1 (by omega) (by rw [← hN]; exact k2) hper hw
      refine ⟨fun z => ?_, fun z => ?_⟩
      · rw [show (q : Int) - 1 = ((q - 1 : Nat) : Int) by omega, mcast, atI_of, atI_of, bN_at, bN_at, getB_at (show q - 1 < e.length by omega), getB_at (show (q - 1) % R < m.length by have := Nat.mod_lt (q - 1) (show R > 0 by omega); omega)]
        refine ⟨_, rfl, by omega, _, rfl, ?_⟩
        simp only [runF, exs, ex, ev, evs, evt, evo, evi, evc, ok_bnd, ok_ret', ok_getV, ok_getC, ok_setC, ok_opt, ok_need, ok_ite, ok_mkLf, ok_mkLt, ok_notB, List.map_cons, List.map_nil, List.replicate_zero, List.replicate_succ, List.length_cons, List.length_nil, List.cons_append, List.nil_append, Nat.reduceSub, Nat.reduceAdd, List.getElem?_cons_zero, List.getElem?_cons_succ, Option.some.injEq, exists_eq_left', ixD_i, setIx_ri, appD_r, isC_r, items_tup, items_lst, items_fro, items_ref, tru_b, tru_i, b_add, b_sub, b_mul, b_div, b_mod, b_pow, b_band, addD_ii, subD_ii, mulD_ii, modD_ii, divD_ii, powD_ii, bandD_ii, addD_tt, addD_ll, addD_fl, c_eq, c_ne, c_lt, c_le, c_gt, c_ge, c_is, c_isn, isD_bb, eqD_ii, eqD_ss, eqD_bb, ltD_ii, leD_ii, bi_len, bi_max, bi_min, bi_tup, bi_lst, bi_repr, bi_all, maxB_ii, minB_ii, lenB_1, tupB_1, lstB_1, reprB_1, allB_1, slD_t, slD_l, slD_f, slD_r, ints2_ii, popD_ri, dgetF_2, lset_t, lset_l, lset_r, AG.wipeD, asg_n, asg_t, asg_p, AG.setAll, atI_0, atI_1, atI_2, atI_3, ixN_30, ixN_31, ixN_32, List.set_cons_zero, List.set_cons_succ, List.getElem?_set_self, List.length_set, Bool.and_eq_true, decide_eq_true_eq, decide_eq_false_iff_not, bne_iff_ne, bne_eq_false_iff_eq, Int.toNat_natCast]
        by_cases hb : e.getD (q - 1) false = m.getD ((q - 1) % R) false
        · rw [if_pos hb]
          refine ⟨q - 1, by omega, ⟨_, _, rfl⟩, trivial, by omega, fun i h1 h2 => ?_⟩
          rcases Nat.lt_or_ge i q with v | v
          · have : i = q - 1 := by omega
            subst this
            exact hb
          · exact hw i v h2
        · rw [if_neg hb]
          exact fin
      · rw [if_neg (by decide)]
        exact fin
end
end AGL
namespace AGL
open PySem AG
/-! ### kths and counts, by the law -/
def KksW (F : List D → M D) : Prop := ∀ (S : Sto) (k n : Nat) (T : Ti), Jar S k n → n ≤ 1000000 → TiOk T → Ok (F [.ref k, dTi T]) S fun d S' => d = .bl true ∧ Jar S' k (n + 20)
def BtwW (F : List D → M D) : Prop := ∀ (S : Sto) (k n : Nat) (T : Ti), Jar S k n → n ≤ 1000000 → TiOk T → Ok (F [.ref k, dTi T]) S fun d S' => d = .bl true ∧ Jar S' k (n + 20)
theorem cbr_le {T : Ti} (h : TiOk T) : cbr T T.F ≤ 20000000000 := by
  have fb := h.fb
  have lw := h.lw
  have rb := h.rb
  have h1 : cntL T.W (T.F % T.R) ≤ T.W.length := List.length_filter_le _ _
  have h2 : T.F / T.R ≤ T.F := Nat.div_le_self _ _
  have h3 : T.F / T.R * T.W.length ≤ 100000 * 100000 := Nat.mul_le_mul (by omega) (by omega)
  unfold cbr
  omega
theorem kth_le {T : Ti} (h : TiOk T) {k x : Nat} (e : kthT T k = some x) (hk : k ≤ 10 ^ 19) : x ≤ 10 ^ 28 := by
  have e19 : (10 : Nat) ^ 19 = 10000000000000000000 := by decide
  have e28 : (10 : Nat) ^ 28 = 10000000000000000000000000000 := by decide
  have fb := h.fb
  have rb := h.rb
  have hc := cbr_le h
  unfold kthT at e
  by_cases h1 : k < T.A.length
  · rw [if_pos h1] at e
    have := h.al x (List.mem_of_getElem? e)
    omega
  · rw [if_neg h1] at e
    by_cases h2 : T.W = []
    · rw [if_pos h2] at e; cases e
    · rw [if_neg h2] at e
      have wp : 0 < T.W.length := List.length_pos_iff.mpr h2
      obtain ⟨n, hn⟩ : ∃ n, n = k - T.A.length + cbr T T.F := ⟨_, rfl⟩
      rw [← hn] at e
      cases e
      have hm := Nat.mod_lt n wp
      obtain ⟨r, hr⟩ : ∃ r, T.W[n % T.W.length]? = some r := ⟨_, List.getElem?_eq_getElem hm⟩
      have hg : T.W.getD (n % T.W.length) 0 = r := by
        rw [List.getD_eq_getElem?_getD, hr]
        rfl
      have hrl := h.wl r (List.mem_of_getElem? hr)
      have h3 : n / T.W.length ≤ n := Nat.div_le_self _ _
      have h4 : n / T.W.length * T.R ≤ 20000000000000000000 * 100000 := Nat.mul_le_mul (by omega) (by omega)
      rw [hg]
      omega
theorem kth_some {T : Ti} (h : TiOk T) {k : Nat} (hk : ¬ (T.W = [] ∧ T.A.length ≤ k)) : ∃ x, kthT T k = some x := by
  unfold kthT
  by_cases h1 : k < T.A.length
  · rw [if_pos h1]
    exact ⟨_, List.getElem?_eq_getElem h1⟩
  · rw [if_neg h1, if_neg fun z => hk ⟨z, by omega⟩]
    exact ⟨_, rfl⟩
theorem kth_none {T : Ti} {k : Nat} (h1 : T.W = []) (h2 : T.A.length ≤ k) : kthT T k = none := by
  unfold kthT
  rw [if_neg (by omega), if_pos h1]
theorem kth_cbl {T : Ti} (h : TiOk T) {x : Nat} (m : mea T x = true) : kthT T (cbl T x) = some x := by
  have ex : ∃ y, kthT T (cbl T x) = some y := kth_some h fun ⟨z1, z2⟩ => by
    have m2 := m
    unfold mea at m2
    by_cases hx : x < T.F
    · have h1 := cbl_succ h x
      rw [if_pos m] at h1
      have h2 : cbl T (x + 1) = cntL T.A (x + 1) := by unfold cbl; rw [if_pos (by omega)]
      have h3 : cntL T.A (x + 1) ≤ T.A.length := List.length_filter_le _ _
      omega
    · rw [if_neg hx, z1] at m2
      simp at m2
  obtain ⟨y, hy⟩ := ex
  obtain ⟨k1, k2⟩ := kth_ok h hy
  rw [hy, mea_inj h k1 m k2]
theorem kth_lt {T : Ti} (h : TiOk T) {k x y : Nat} (hx : kthT T k = some x) (hy : kthT T (k + 1) = some y) : x < y ∧ ∀ b, x < b → b < y → mea T b = false := by
  obtain ⟨x1, x2⟩ := kth_ok h hx
  obtain ⟨y1, y2⟩ := kth_ok h hy
  refine ⟨?_, fun b h1 h2 => ?_⟩
  · rcases Nat.lt_or_ge x y with z | z
    · exact z
    · have := cbl_mono h z
      omega
  · cases hb : mea T b with
    | false => rfl
    | true =>
      have := mea_up h x1 h1
      have := mea_up h hb h2
      omega
theorem okB {n : Nat} (h : n ≤ 10 ^ 29) : okR (n : Int) = true := by
  have e29 : (10 : Nat) ^ 29 = 100000000000000000000000000000 := by decide
  unfold okR
  simp only [Bool.and_eq_true, decide_eq_true_eq]
  omega
theorem mem_cutD {x : D} {xs : List D} {lo hi : Option Int} (h : x ∈ cutD xs lo hi) : x ∈ xs := List.mem_of_mem_drop (List.mem_of_mem_take h)
section
variable {Φ : String → List D → M D} {fu : Nat}
theorem btw_run (hd : Dip2W (Φ "_law_dip")) (hfa : FarJW (Φ "_law_far")) (him : MeaW (Φ "is_meant")) (hcb : CblW (Φ "count_below")) (hk : KthW (Φ "kth")) : BtwW (runF Φ fu 6 b_law_between_right) := by
  intro S k n T hJ hn hT
  have e18 : (10 : Nat) ^ 18 = 1000000000000000000 := by decide
  have e30 : (10 : Nat) ^ 30 = 1000000000000000000000000000000 := by decide
  have p18 : (10 : Int) ^ Int.toNat 18 = 1000000000000000000 := by decide
  simp only [b_law_between_right, runF, exs, ex, ev, evs, evt, evo, evi, evc, ok_bnd, ok_ret', ok_getV, ok_getC, ok_setC, ok_opt, ok_need, ok_ite, ok_mkLf, ok_mkLt, ok_notB, List.map_cons, List.map_nil, List.replicate_zero, List.replicate_succ, List.length_cons, List.length_nil, List.cons_append, List.nil_append, Nat.reduceSub, Nat.reduceAdd, List.getElem?_cons_zero, List.getElem?_cons_succ, Option.some.injEq, exists_eq_left', ixD_i, setIx_ri, appD_r, isC_r, items_tup, items_lst, items_fro, items_ref, tru_b, tru_i, b_add, b_sub, b_mul, b_div, b_mod, b_pow, b_band, addD_ii, subD_ii, mulD_ii, modD_ii, divD_ii, powD_ii, bandD_ii, addD_tt, addD_ll, addD_fl, c_eq, c_ne, c_lt, c_le, c_gt, c_ge, c_is, c_isn, isD_bb, eqD_ii, eqD_ss, eqD_bb, ltD_ii, leD_ii, bi_len, bi_max, bi_min, bi_tup, bi_lst, bi_repr, bi_all, maxB_ii, minB_ii, lenB_1, tupB_1, lstB_1, reprB_1, allB_1, slD_t, slD_l, slD_f, slD_r, ints2_ii, popD_ri, dgetF_2, lset_t, lset_l, lset_r, AG.wipeD, asg_n, asg_t, asg_p, AG.setAll, atI_0, atI_1, atI_2, atI_3, ixN_30, ixN_31, ixN_32, List.set_cons_zero, List.set_cons_succ, List.getElem?_set_self, List.length_set, Bool.and_eq_true, decide_eq_true_eq, decide_eq_false_iff_not, bne_iff_ne, bne_eq_false_iff_eq, Int.toNat_natCast]
  refine ⟨⟨⟨by decide, by decide⟩, by decide⟩, ?_⟩
  rw [show (10 : Int) ^ Int.toNat 18 - 400 = ((10 ^ 18 - 400 : Nat) : Int) by omega]
  refine (hfa S k n (10 ^ 18 - 400) hJ (by omega) (by omega) (by omega)).mono fun d S1 ⟨b, e1, hb, hJ1⟩ => ?_
  subst e1
  refine (hd S1 k _ 400 hJ1 (by omega) (by decide) (by decide)).mono fun d S2 ⟨g, e1, hg, hJ2, _, _⟩ => ?_
  subst e1
  simp only [runF, exs, ex, ev, evs, evt, evo, evi, evc, ok_bnd, ok_ret', ok_getV, ok_getC, ok_setC, ok_opt, ok_need, ok_ite, ok_mkLf, ok_mkLt, ok_notB, List.map_cons, List.map_nil, List.replicate_zero, List.replicate_succ, List.length_cons, List.length_nil, List.cons_append, List.nil_append, Nat.reduceSub, Nat.reduceAdd, List.getElem?_cons_zero, List.getElem?_cons_succ, Option.some.injEq, exists_eq_left', ixD_i, setIx_ri, appD_r, isC_r, items_tup, items_lst, items_fro, items_ref, tru_b, tru_i, b_add, b_sub, b_mul, b_div, b_mod, b_pow, b_band, addD_ii, subD_ii, mulD_ii, modD_ii, divD_ii, powD_ii, bandD_ii, addD_tt, addD_ll, addD_fl, c_eq, c_ne, c_lt, c_le, c_gt, c_ge, c_is, c_isn, isD_bb, eqD_ii, eqD_ss, eqD_bb, ltD_ii, leD_ii, bi_len, bi_max, bi_min, bi_tup, bi_lst, bi_repr, bi_all, maxB_ii, minB_ii, lenB_1, tupB_1, lstB_1, reprB_1, allB_1, slD_t, slD_l, slD_f, slD_r, ints2_ii, popD_ri, dgetF_2, lset_t, lset_l, lset_r, AG.wipeD, asg_n, asg_t, asg_p, AG.setAll, atI_0, atI_1, atI_2, atI_3, ixN_30, ixN_31, ixN_32, List.set_cons_zero, List.set_cons_succ, List.getElem?_set_self, List.length_set, Bool.and_eq_true, decide_eq_true_eq, decide_eq_false_iff_not, bne_iff_ne, bne_eq_false_iff_eq, Int.toNat_natCast]
  rw [show (b : Int) + (g : Nat) = ((b + g : Nat) : Int) by omega]
  refine ⟨⟨okB (by omega), okB (by omega)⟩, ?_⟩
  rw [show (((b + g : Nat) : Int) - (b : Nat)).toNat = g by omega, show rngL (b : Nat) g = (List.range g).map fun i => D.int ((b + i : Nat) : Int) by unfold rngL; apply List.map_congr_left; intro i _; congr 1]
  obtain ⟨met, hmet⟩ : ∃ met, met = (List.range g).filter fun i => mea T (b + i) := ⟨_, rfl⟩
  refine ok_lcfB (fun i : Nat => D.int ((b + i : Nat) : Int)) (fun i : Nat => D.int ((b + i : Nat) : Int)) (fun i => mea T (b + i)) (List.range g) [] (by rw [List.length_nil, List.length_range]; omega) (fun i hi => ?_) ?_
  · have hi := List.mem_range.mp hi
    refine ⟨_, rfl, ?_⟩
    simp only [runF, exs, ex, ev, evs, evt, evo, evi, evc, ok_bnd, ok_ret', ok_getV, ok_getC, ok_setC, ok_opt, ok_need, ok_ite, ok_mkLf, ok_mkLt, ok_notB, List.map_cons, List.map_nil, List.replicate_zero, List.replicate_succ, List.length_cons, List.length_nil, List.cons_append, List.nil_append, Nat.reduceSub, Nat.reduceAdd, List.getElem?_cons_zero, List.getElem?_cons_succ, Option.some.injEq, exists_eq_left', ixD_i, setIx_ri, appD_r, isC_r, items_tup, items_lst, items_fro, items_ref, tru_b, tru_i, b_add, b_sub, b_mul, b_div, b_mod, b_pow, b_band, addD_ii, subD_ii, mulD_ii, modD_ii, divD_ii, powD_ii, bandD_ii, addD_tt, addD_ll, addD_fl, c_eq, c_ne, c_lt, c_le, c_gt, c_ge, c_is, c_isn, isD_bb, eqD_ii, eqD_ss, eqD_bb, ltD_ii, leD_ii, bi_len, bi_max, bi_min, bi_tup, bi_lst, bi_repr, bi_all, maxB_ii, minB_ii, lenB_1, tupB_1, lstB_1, reprB_1, allB_1, slD_t, slD_l, slD_f, slD_r, ints2_ii, popD_ri, dgetF_2, lset_t, lset_l, lset_r, AG.wipeD, asg_n, asg_t, asg_p, AG.setAll, atI_0, atI_1, atI_2, atI_3, ixN_30, ixN_31, ixN_32, List.set_cons_zero, List.set_cons_succ, List.getElem?_set_self, List.length_set, Bool.and_eq_true, decide_eq_true_eq, decide_eq_false_iff_not, bne_iff_ne, bne_eq_false_iff_eq, Int.toNat_natCast]
    refine (him S2 T (b + i) hT (by omega)).mono fun d S3 ⟨e1, e2⟩ => ?_
    subst e1 e2
    simp only [runF, exs, ex, ev, evs, evt, evo, evi, evc, ok_bnd, ok_ret', ok_getV, ok_getC, ok_setC, ok_opt, ok_need, ok_ite, ok_mkLf, ok_mkLt, ok_notB, List.map_cons, List.map_nil, List.replicate_zero, List.replicate_succ, List.length_cons, List.length_nil, List.cons_append, List.nil_append, Nat.reduceSub, Nat.reduceAdd, List.getElem?_cons_zero, List.getElem?_cons_succ, Option.some.injEq, exists_eq_left', ixD_i, setIx_ri, appD_r, isC_r, items_tup, items_lst, items_fro, items_ref, tru_b, tru_i, b_add, b_sub, b_mul, b_div, b_mod, b_pow, b_band, addD_ii, subD_ii, mulD_ii, modD_ii, divD_ii, powD_ii, bandD_ii, addD_tt, addD_ll, addD_fl, c_eq, c_ne, c_lt, c_le, c_gt, c_ge, c_is, c_isn, isD_bb, eqD_ii, eqD_ss, eqD_bb, ltD_ii, leD_ii, bi_len, bi_max, bi_min, bi_tup, bi_lst, bi_repr, bi_all, maxB_ii, minB_ii, lenB_1, tupB_1, lstB_1, reprB_1, allB_1, slD_t, slD_l, slD_f, slD_r, ints2_ii, popD_ri, dgetF_2, lset_t, lset_l, lset_r, AG.wipeD, asg_n, asg_t, asg_p, AG.setAll, atI_0, atI_1, atI_2, atI_3, ixN_30, ixN_31, ixN_32, List.set_cons_zero, List.set_cons_succ, List.getElem?_set_self, List.length_set, Bool.and_eq_true, decide_eq_true_eq, decide_eq_false_iff_not, bne_iff_ne, bne_eq_false_iff_eq, Int.toNat_natCast]
    exact ⟨by first | trivial | rfl, by first | trivial | rfl, fun _ => ⟨by first | trivial | rfl, by first | trivial | rfl⟩⟩
  · rw [List.nil_append, ← hmet]
    refine (hcb S2 T (b + g) hT (by omega)).mono fun d S3 ⟨e1, e2⟩ => ?_
    subst e1 e2
    refine (hcb S3 T b hT (by omega)).mono fun d S4 ⟨e1, e2⟩ => ?_
    subst e1 e2
    simp only [runF, exs, ex, ev, evs, evt, evo, evi, evc, ok_bnd, ok_ret', ok_getV, ok_getC, ok_setC, ok_opt, ok_need, ok_ite, ok_mkLf, ok_mkLt, ok_notB, List.map_cons, List.map_nil, List.replicate_zero, List.replicate_succ, List.length_cons, List.length_nil, List.cons_append, List.nil_append, Nat.reduceSub, Nat.reduceAdd, List.getElem?_cons_zero, List.getElem?_cons_succ, Option.some.injEq, exists_eq_left', ixD_i, setIx_ri, appD_r, isC_r, items_tup, items_lst, items_fro, items_ref, tru_b, tru_i, b_add, b_sub, b_mul, b_div, b_mod, b_pow, b_band, addD_ii, subD_ii, mulD_ii, modD_ii, divD_ii, powD_ii, bandD_ii, addD_tt, addD_ll, addD_fl, c_eq, c_ne, c_lt, c_le, c_gt, c_ge, c_is, c_isn, isD_bb, eqD_ii, eqD_ss, eqD_bb, ltD_ii, leD_ii, bi_len, bi_max, bi_min, bi_tup, bi_lst, bi_repr, bi_all, maxB_ii, minB_ii, lenB_1, tupB_1, lstB_1, reprB_1, allB_1, slD_t, slD_l, slD_f, slD_r, ints2_ii, popD_ri, dgetF_2, lset_t, lset_l, lset_r, AG.wipeD, asg_n, asg_t, asg_p, AG.setAll, atI_0, atI_1, atI_2, atI_3, ixN_30, ixN_31, ixN_32, List.set_cons_zero, List.set_cons_succ, List.getElem?_set_self, List.length_set, Bool.and_eq_true, decide_eq_true_eq, decide_eq_false_iff_not, bne_iff_ne, bne_eq_false_iff_eq, Int.toNat_natCast]
    have hc := cbl_cnt hT b g
    rw [← hmet] at hc
    rw [List.length_map, decide_eq_true (show ((cbl T (b + g) : Nat) : Int) - (cbl T b : Nat) = (met.length : Nat) by omega)]
    refine ⟨fun h => absurd h (by decide), fun _ => ?_⟩
    have hml : met.length ≤ g := by
      rw [hmet]
      have := List.length_filter_le (fun i => mea T (b + i)) (List.range g)
      rw [List.length_range] at this
      exact this
    have hcl : ∀ lo hi, (cutD (List.map (fun i => D.int ((b + i : Nat) : Int)) met) lo hi).length ≤ g := fun lo hi => by
      unfold cutD
      rw [List.length_take, List.length_drop, List.length_map]
      omega
    have hml2 : ∀ y ∈ cutD (List.map (fun i => D.int ((b + i : Nat) : Int)) met) none (some 2) ++ cutD (List.map (fun i => D.int ((b + i : Nat) : Int)) met) (some (-1)) none, ∃ x : Nat, y = .int (x : Nat) ∧ mea T x = true ∧ x ≤ 2 * 10 ^ 18 := fun y hy => by
      have : y ∈ List.map (fun i => D.int ((b + i : Nat) : Int)) met := by
        rcases List.mem_append.mp hy with z | z <;> exact mem_cutD z
      obtain ⟨i, hi, rfl⟩ := List.mem_map.mp this
      rw [hmet, List.mem_filter, List.mem_range] at hi
      exact ⟨b + i, rfl, hi.2, by omega⟩
    refine ⟨⟨by unfold small; exact decide_eq_true (by have := hcl none (some 2); omega), by unfold small; exact decide_eq_true (by have := hcl (some (-1)) none; omega)⟩, ?_⟩
    refine ok_for (fun j ρ S' => (∃ x2 x3 x4 x5, ρ = [some (.ref k), some (dTi T), x2, x3, x4, x5]) ∧ S' = S4) ⟨⟨_, _, _, _, rfl⟩, rfl⟩ ?_ ?_
    · rintro j y ρ S5 hy ⟨⟨x2, x3, x4, x5, rfl⟩, rfl⟩
      obtain ⟨x, rfl, hx, hx18⟩ := hml2 y (List.mem_of_getElem? hy)
      refine ⟨_, rfl, ?_⟩
      simp only [runF, exs, ex, ev, evs, evt, evo, evi, evc, ok_bnd, ok_ret', ok_getV, ok_getC, ok_setC, ok_opt, ok_need, ok_ite, ok_mkLf, ok_mkLt, ok_notB, List.map_cons, List.map_nil, List.replicate_zero, List.replicate_succ, List.length_cons, List.length_nil, List.cons_append, List.nil_append, Nat.reduceSub, Nat.reduceAdd, List.getElem?_cons_zero, List.getElem?_cons_succ, Option.some.injEq, exists_eq_left', ixD_i, setIx_ri, appD_r, isC_r, items_tup, items_lst, items_fro, items_ref, tru_b, tru_i, b_add, b_sub, b_mul, b_div, b_mod, b_pow, b_band, addD_ii, subD_ii, mulD_ii, modD_ii, divD_ii, powD_ii, bandD_ii, addD_tt, addD_ll, addD_fl, c_eq, c_ne, c_lt, c_le, c_gt, c_ge, c_is, c_isn, isD_bb, eqD_ii, eqD_ss, eqD_bb, ltD_ii, leD_ii, bi_len, bi_max, bi_min, bi_tup, bi_lst, bi_repr, bi_all, maxB_ii, minB_ii, lenB_1, tupB_1, lstB_1, reprB_1, allB_1, slD_t, slD_l, slD_f, slD_r, ints2_ii, popD_ri, dgetF_2, lset_t, lset_l, lset_r, AG.wipeD, asg_n, asg_t, asg_p, AG.setAll, atI_0, atI_1, atI_2, atI_3, ixN_30, ixN_31, ixN_32, List.set_cons_zero, List.set_cons_succ, List.getElem?_set_self, List.length_set, Bool.and_eq_true, decide_eq_true_eq, decide_eq_false_iff_not, bne_iff_ne, bne_eq_false_iff_eq, Int.toNat_natCast]
      refine (hcb S5 T x hT (by omega)).mono fun d S6 ⟨e1, e2⟩ => ?_
      subst e1 e2
      have hle : cbl T x ≤ x := by
        have : ∀ y, cbl T y ≤ y := fun y => by
          induction y with
          | zero => rw [cbl_zero]; exact Nat.le_refl _
          | succ y ih =>
            rw [cbl_succ hT]
            split <;> omega
        exact this x
      refine (hk S6 T (cbl T x) hT (by omega)).mono fun d S7 ⟨e1, e2⟩ => ?_
      subst e1 e2
      rw [kth_cbl hT hx]
      simp only [oD, runF, exs, ex, ev, evs, evt, evo, evi, evc, ok_bnd, ok_ret', ok_getV, ok_getC, ok_setC, ok_opt, ok_need, ok_ite, ok_mkLf, ok_mkLt, ok_notB, List.map_cons, List.map_nil, List.replicate_zero, List.replicate_succ, List.length_cons, List.length_nil, List.cons_append, List.nil_append, Nat.reduceSub, Nat.reduceAdd, List.getElem?_cons_zero, List.getElem?_cons_succ, Option.some.injEq, exists_eq_left', ixD_i, setIx_ri, appD_r, isC_r, items_tup, items_lst, items_fro, items_ref, tru_b, tru_i, b_add, b_sub, b_mul, b_div, b_mod, b_pow, b_band, addD_ii, subD_ii, mulD_ii, modD_ii, divD_ii, powD_ii, bandD_ii, addD_tt, addD_ll, addD_fl, c_eq, c_ne, c_lt, c_le, c_gt, c_ge, c_is, c_isn, isD_bb, eqD_ii, eqD_ss, eqD_bb, ltD_ii, leD_ii, bi_len, bi_max, bi_min, bi_tup, bi_lst, bi_repr, bi_all, maxB_ii, minB_ii, lenB_1, tupB_1, lstB_1, reprB_1, allB_1, slD_t, slD_l, slD_f, slD_r, ints2_ii, popD_ri, dgetF_2, lset_t, lset_l, lset_r, AG.wipeD, asg_n, asg_t, asg_p, AG.setAll, atI_0, atI_1, atI_2, atI_3, ixN_30, ixN_31, ixN_32, List.set_cons_zero, List.set_cons_succ, List.getElem?_set_self, List.length_set, Bool.and_eq_true, decide_eq_true_eq, decide_eq_false_iff_not, bne_iff_ne, bne_eq_false_iff_eq, Int.toNat_natCast]
      exact ⟨fun h => by simp at h, fun _ => ⟨⟨_, _, _, _, rfl⟩, by first | trivial | rfl⟩⟩
    · rintro ρ S5 ⟨⟨x2, x3, x4, x5, rfl⟩, rfl⟩
      simp only [runF, exs, ex, ev, evs, evt, evo, evi, evc, ok_bnd, ok_ret', ok_getV, ok_getC, ok_setC, ok_opt, ok_need, ok_ite, ok_mkLf, ok_mkLt, ok_notB, List.map_cons, List.map_nil, List.replicate_zero, List.replicate_succ, List.length_cons, List.length_nil, List.cons_append, List.nil_append, Nat.reduceSub, Nat.reduceAdd, List.getElem?_cons_zero, List.getElem?_cons_succ, Option.some.injEq, exists_eq_left', ixD_i, setIx_ri, appD_r, isC_r, items_tup, items_lst, items_fro, items_ref, tru_b, tru_i, b_add, b_sub, b_mul, b_div, b_mod, b_pow, b_band, addD_ii, subD_ii, mulD_ii, modD_ii, divD_ii, powD_ii, bandD_ii, addD_tt, addD_ll, addD_fl, c_eq, c_ne, c_lt, c_le, c_gt, c_ge, c_is, c_isn, isD_bb, eqD_ii, eqD_ss, eqD_bb, ltD_ii, leD_ii, bi_len, bi_max, bi_min, bi_tup, bi_lst, bi_repr, bi_all, maxB_ii, minB_ii, lenB_1, tupB_1, lstB_1, reprB_1, allB_1, slD_t, slD_l, slD_f, slD_r, ints2_ii, popD_ri, dgetF_2, lset_t, lset_l, lset_r, AG.wipeD, asg_n, asg_t, asg_p, AG.setAll, atI_0, atI_1, atI_2, atI_3, ixN_30, ixN_31, ixN_32, List.set_cons_zero, List.set_cons_succ, List.getElem?_set_self, List.length_set, Bool.and_eq_true, decide_eq_true_eq, decide_eq_false_iff_not, bne_iff_ne, bne_eq_false_iff_eq, Int.toNat_natCast]
      refine (show Ok (Φ "count_below" [dTi T, .int (0 : Nat)]) S5 _ from (hcb S5 T 0 hT (by omega)).mono fun d S6 ⟨e1, e2⟩ => ?_)
      subst e1 e2
      rw [cbl_zero]
      simp only [runF, exs, ex, ev, evs, evt, evo, evi, evc, ok_bnd, ok_ret', ok_getV, ok_getC, ok_setC, ok_opt, ok_need, ok_ite, ok_mkLf, ok_mkLt, ok_notB, List.map_cons, List.map_nil, List.replicate_zero, List.replicate_succ, List.length_cons, List.length_nil, List.cons_append, List.nil_append, Nat.reduceSub, Nat.reduceAdd, List.getElem?_cons_zero, List.getElem?_cons_succ, Option.some.injEq, exists_eq_left', ixD_i, setIx_ri, appD_r, isC_r, items_tup, items_lst, items_fro, items_ref, tru_b, tru_i, b_add, b_sub, b_mul, b_div, b_mod, b_pow, b_band, addD_ii, subD_ii, mulD_ii, modD_ii, divD_ii, powD_ii, bandD_ii, addD_tt, addD_ll, addD_fl, c_eq, c_ne, c_lt, c_le, c_gt, c_ge, c_is, c_isn, isD_bb, eqD_ii, eqD_ss, eqD_bb, ltD_ii, leD_ii, bi_len, bi_max, bi_min, bi_tup, bi_lst, bi_repr, bi_all, maxB_ii, minB_ii, lenB_1, tupB_1, lstB_1, reprB_1, allB_1, slD_t, slD_l, slD_f, slD_r, ints2_ii, popD_ri, dgetF_2, lset_t, lset_l, lset_r, AG.wipeD, asg_n, asg_t, asg_p, AG.setAll, atI_0, atI_1, atI_2, atI_3, ixN_30, ixN_31, ixN_32, List.set_cons_zero, List.set_cons_succ, List.getElem?_set_self, List.length_set, Bool.and_eq_true, decide_eq_true_eq, decide_eq_false_iff_not, bne_iff_ne, bne_eq_false_iff_eq, Int.toNat_natCast]
      exact ⟨by simp, hJ2.up (by omega)⟩
theorem kks_run (hd : Dip2W (Φ "_law_dip")) (hfa : FarJW (Φ "_law_far")) (him : MeaW (Φ "is_meant")) (hcb : CblW (Φ "count_below")) (hk : KthW (Φ "kth")) : KksW (runF Φ fu 7 b_law_kths_right) := by
  intro S k n T hJ hn hT
  have e18 : (10 : Nat) ^ 18 = 1000000000000000000 := by decide
  have e19 : (10 : Nat) ^ 19 = 10000000000000000000 := by decide
  have e28 : (10 : Nat) ^ 28 = 10000000000000000000000000000 := by decide
  have e30 : (10 : Nat) ^ 30 = 1000000000000000000000000000000 := by decide
  have p18 : (10 : Int) ^ Int.toNat 18 = 1000000000000000000 := by decide
  have la := hT.la
  have fb := hT.fb
  have hla : (nD T.A).length = T.A.length := List.length_map ..
  simp only [b_law_kths_right, runF, exs, ex, ev, evs, evt, evo, evi, evc, ok_bnd, ok_ret', ok_getV, ok_getC, ok_setC, ok_opt, ok_need, ok_ite, ok_mkLf, ok_mkLt, ok_notB, List.map_cons, List.map_nil, List.replicate_zero, List.replicate_succ, List.length_cons, List.length_nil, List.cons_append, List.nil_append, Nat.reduceSub, Nat.reduceAdd, List.getElem?_cons_zero, List.getElem?_cons_succ, Option.some.injEq, exists_eq_left', ixD_i, setIx_ri, appD_r, isC_r, items_tup, items_lst, items_fro, items_ref, tru_b, tru_i, b_add, b_sub, b_mul, b_div, b_mod, b_pow, b_band, addD_ii, subD_ii, mulD_ii, modD_ii, divD_ii, powD_ii, bandD_ii, addD_tt, addD_ll, addD_fl, c_eq, c_ne, c_lt, c_le, c_gt, c_ge, c_is, c_isn, isD_bb, eqD_ii, eqD_ss, eqD_bb, ltD_ii, leD_ii, bi_len, bi_max, bi_min, bi_tup, bi_lst, bi_repr, bi_all, maxB_ii, minB_ii, lenB_1, tupB_1, lstB_1, reprB_1, allB_1, slD_t, slD_l, slD_f, slD_r, ints2_ii, popD_ri, dgetF_2, lset_t, lset_l, lset_r, AG.wipeD, asg_n, asg_t, asg_p, AG.setAll, atI_0, atI_1, atI_2, atI_3, ixN_30, ixN_31, ixN_32, List.set_cons_zero, List.set_cons_succ, List.getElem?_set_self, List.length_set, Bool.and_eq_true, decide_eq_true_eq, decide_eq_false_iff_not, bne_iff_ne, bne_eq_false_iff_eq, Int.toNat_natCast]
  refine (hd S k n 5 hJ (by omega) (by decide) (by decide)).mono fun d S1 ⟨u1, e1, hu1, hJ1, _, _⟩ => ?_
  subst e1
  rw [show itemsD (dTi T) = AG.ret [.int (T.F : Nat), .int (T.R : Nat), .tup (nD T.A), .tup (nD T.W)] from rfl, ok_ret']
  refine ⟨_, rfl, ?_⟩
  simp only [runF, exs, ex, ev, evs, evt, evo, evi, evc, ok_bnd, ok_ret', ok_getV, ok_getC, ok_setC, ok_opt, ok_need, ok_ite, ok_mkLf, ok_mkLt, ok_notB, List.map_cons, List.map_nil, List.replicate_zero, List.replicate_succ, List.length_cons, List.length_nil, List.cons_append, List.nil_append, Nat.reduceSub, Nat.reduceAdd, List.getElem?_cons_zero, List.getElem?_cons_succ, Option.some.injEq, exists_eq_left', ixD_i, setIx_ri, appD_r, isC_r, items_tup, items_lst, items_fro, items_ref, tru_b, tru_i, b_add, b_sub, b_mul, b_div, b_mod, b_pow, b_band, addD_ii, subD_ii, mulD_ii, modD_ii, divD_ii, powD_ii, bandD_ii, addD_tt, addD_ll, addD_fl, c_eq, c_ne, c_lt, c_le, c_gt, c_ge, c_is, c_isn, isD_bb, eqD_ii, eqD_ss, eqD_bb, ltD_ii, leD_ii, bi_len, bi_max, bi_min, bi_tup, bi_lst, bi_repr, bi_all, maxB_ii, minB_ii, lenB_1, tupB_1, lstB_1, reprB_1, allB_1, slD_t, slD_l, slD_f, slD_r, ints2_ii, popD_ri, dgetF_2, lset_t, lset_l, lset_r, AG.wipeD, asg_n, asg_t, asg_p, AG.setAll, atI_0, atI_1, atI_2, atI_3, ixN_30, ixN_31, ixN_32, List.set_cons_zero, List.set_cons_succ, List.getElem?_set_self, List.length_set, Bool.and_eq_true, decide_eq_true_eq, decide_eq_false_iff_not, bne_iff_ne, bne_eq_false_iff_eq, Int.toNat_natCast]
  rw [hla]
  refine (hd S1 k _ 4 hJ1 (by omega) (by decide) (by decide)).mono fun d S2 ⟨u2, e1, hu2, hJ2, _, _⟩ => ?_
  subst e1
  simp only [runF, exs, ex, ev, evs, evt, evo, evi, evc, ok_bnd, ok_ret', ok_getV, ok_getC, ok_setC, ok_opt, ok_need, ok_ite, ok_mkLf, ok_mkLt, ok_notB, List.map_cons, List.map_nil, List.replicate_zero, List.replicate_succ, List.length_cons, List.length_nil, List.cons_append, List.nil_append, Nat.reduceSub, Nat.reduceAdd, List.getElem?_cons_zero, List.getElem?_cons_succ, Option.some.injEq, exists_eq_left', ixD_i, setIx_ri, appD_r, isC_r, items_tup, items_lst, items_fro, items_ref, tru_b, tru_i, b_add, b_sub, b_mul, b_div, b_mod, b_pow, b_band, addD_ii, subD_ii, mulD_ii, modD_ii, divD_ii, powD_ii, bandD_ii, addD_tt, addD_ll, addD_fl, c_eq, c_ne, c_lt, c_le, c_gt, c_ge, c_is, c_isn, isD_bb, eqD_ii, eqD_ss, eqD_bb, ltD_ii, leD_ii, bi_len, bi_max, bi_min, bi_tup, bi_lst, bi_repr, bi_all, maxB_ii, minB_ii, lenB_1, tupB_1, lstB_1, reprB_1, allB_1, slD_t, slD_l, slD_f, slD_r, ints2_ii, popD_ri, dgetF_2, lset_t, lset_l, lset_r, AG.wipeD, asg_n, asg_t, asg_p, AG.setAll, atI_0, atI_1, atI_2, atI_3, ixN_30, ixN_31, ixN_32, List.set_cons_zero, List.set_cons_succ, List.getElem?_set_self, List.length_set, Bool.and_eq_true, decide_eq_true_eq, decide_eq_false_iff_not, bne_iff_ne, bne_eq_false_iff_eq, Int.toNat_natCast]
  refine ⟨⟨⟨by decide, by decide⟩, by decide⟩, ?_⟩
  rw [show (10 : Int) ^ Int.toNat 18 - 1 = ((10 ^ 18 - 1 : Nat) : Int) by omega]
  refine (hfa S2 k _ (10 ^ 18 - 1) hJ2 (by omega) (by omega) (by omega)).mono fun d S3 ⟨b2, e1, hb2, hJ3⟩ => ?_
  subst e1
  refine ⟨by decide, ?_⟩
  refine (hd S3 k _ 3 hJ3 (by omega) (by decide) (by decide)).mono fun d S4 ⟨u3, e1, hu3, hJ4, _, _⟩ => ?_
  subst e1
  simp only [runF, exs, ex, ev, evs, evt, evo, evi, evc, ok_bnd, ok_ret', ok_getV, ok_getC, ok_setC, ok_opt, ok_need, ok_ite, ok_mkLf, ok_mkLt, ok_notB, List.map_cons, List.map_nil, List.replicate_zero, List.replicate_succ, List.length_cons, List.length_nil, List.cons_append, List.nil_append, Nat.reduceSub, Nat.reduceAdd, List.getElem?_cons_zero, List.getElem?_cons_succ, Option.some.injEq, exists_eq_left', ixD_i, setIx_ri, appD_r, isC_r, items_tup, items_lst, items_fro, items_ref, tru_b, tru_i, b_add, b_sub, b_mul, b_div, b_mod, b_pow, b_band, addD_ii, subD_ii, mulD_ii, modD_ii, divD_ii, powD_ii, bandD_ii, addD_tt, addD_ll, addD_fl, c_eq, c_ne, c_lt, c_le, c_gt, c_ge, c_is, c_isn, isD_bb, eqD_ii, eqD_ss, eqD_bb, ltD_ii, leD_ii, bi_len, bi_max, bi_min, bi_tup, bi_lst, bi_repr, bi_all, maxB_ii, minB_ii, lenB_1, tupB_1, lstB_1, reprB_1, allB_1, slD_t, slD_l, slD_f, slD_r, ints2_ii, popD_ri, dgetF_2, lset_t, lset_l, lset_r, AG.wipeD, asg_n, asg_t, asg_p, AG.setAll, atI_0, atI_1, atI_2, atI_3, ixN_30, ixN_31, ixN_32, List.set_cons_zero, List.set_cons_succ, List.getElem?_set_self, List.length_set, Bool.and_eq_true, decide_eq_true_eq, decide_eq_false_iff_not, bne_iff_ne, bne_eq_false_iff_eq, Int.toNat_natCast]
  obtain ⟨q, hq, hq18⟩ : ∃ q : Nat, L2.atI [D.int ((u1 : Nat) : Int), D.int (if ((T.A.length : Nat) : Int) - 2 + (u2 : Nat) > 0 then ((T.A.length : Nat) : Int) - 2 + (u2 : Nat) else 0), D.int ((b2 : Nat) : Int)] ((u3 : Nat) : Int) = some (.int (q : Nat)) ∧ q ≤ 10 ^ 18 := by
    have : u3 = 0 ∨ u3 = 1 ∨ u3 = 2 := by omega
    rcases this with h | h | h <;> subst h
    · exact ⟨_, rfl, by omega⟩
    · refine ⟨(if ((T.A.length : Nat) : Int) - 2 + (u2 : Nat) > 0 then ((T.A.length : Nat) : Int) - 2 + (u2 : Nat) else 0).toNat, ?_, by split <;> omega⟩
      show some (D.int _) = some (D.int _)
      congr 2
      split <;> omega
    · exact ⟨_, rfl, by omega⟩
  refine ⟨_, hq, ?_⟩
  refine (hk S4 T q hT (by omega)).mono fun d S5 ⟨e1, e2⟩ => ?_
  subst e1 e2
  simp only [runF, exs, ex, ev, evs, evt, evo, evi, evc, ok_bnd, ok_ret', ok_getV, ok_getC, ok_setC, ok_opt, ok_need, ok_ite, ok_mkLf, ok_mkLt, ok_notB, List.map_cons, List.map_nil, List.replicate_zero, List.replicate_succ, List.length_cons, List.length_nil, List.cons_append, List.nil_append, Nat.reduceSub, Nat.reduceAdd, List.getElem?_cons_zero, List.getElem?_cons_succ, Option.some.injEq, exists_eq_left', ixD_i, setIx_ri, appD_r, isC_r, items_tup, items_lst, items_fro, items_ref, tru_b, tru_i, b_add, b_sub, b_mul, b_div, b_mod, b_pow, b_band, addD_ii, subD_ii, mulD_ii, modD_ii, divD_ii, powD_ii, bandD_ii, addD_tt, addD_ll, addD_fl, c_eq, c_ne, c_lt, c_le, c_gt, c_ge, c_is, c_isn, isD_bb, eqD_ii, eqD_ss, eqD_bb, ltD_ii, leD_ii, bi_len, bi_max, bi_min, bi_tup, bi_lst, bi_repr, bi_all, maxB_ii, minB_ii, lenB_1, tupB_1, lstB_1, reprB_1, allB_1, slD_t, slD_l, slD_f, slD_r, ints2_ii, popD_ri, dgetF_2, lset_t, lset_l, lset_r, AG.wipeD, asg_n, asg_t, asg_p, AG.setAll, atI_0, atI_1, atI_2, atI_3, ixN_30, ixN_31, ixN_32, List.set_cons_zero, List.set_cons_succ, List.getElem?_set_self, List.length_set, Bool.and_eq_true, decide_eq_true_eq, decide_eq_false_iff_not, bne_iff_ne, bne_eq_false_iff_eq, Int.toNat_natCast]
  rw [show (q : Int) + 1 = ((q + 1 : Nat) : Int) by omega]
  refine (hk S5 T (q + 1) hT (by omega)).mono fun d S6 ⟨e1, e2⟩ => ?_
  subst e1 e2
  refine ⟨by decide, ?_⟩
  have isN : ∀ x : Option Nat, isD (oD x) D.non = AG.ret x.isNone := fun x => by cases x <;> rfl
  by_cases hw : T.W = []
  · rw [hw, show (.tup (nD []) : D) = .tup [] from rfl, ok_eqP rfl rfl (by decide) (by decide), eqB_t rfl]
    refine ⟨fun _ => ?_, fun z => absurd z (by decide)⟩
    have hN : ∀ k, (kthT T k).isNone = decide (((T.A.length : Nat) : Int) ≤ (k : Nat)) := fun k => by
      by_cases hk : T.A.length ≤ k
      · rw [kth_none hw hk, decide_eq_true (by omega)]
        rfl
      · obtain ⟨x, hx⟩ := kth_some hT (k := k) fun z => hk z.2
        rw [hx, decide_eq_false (by omega)]
        rfl
    have hN2 : (kthT T (q + 1)).isNone = decide (((T.A.length : Nat) : Int) ≤ (q : Int) + 1) := by
      rw [hN]
      rfl
    rw [isN, hN q]
    simp only [isN, hN2, decide_true, runF, exs, ex, ev, evs, evt, evo, evi, evc, ok_bnd, ok_ret', ok_getV, ok_getC, ok_setC, ok_opt, ok_need, ok_ite, ok_mkLf, ok_mkLt, ok_notB, List.map_cons, List.map_nil, List.replicate_zero, List.replicate_succ, List.length_cons, List.length_nil, List.cons_append, List.nil_append, Nat.reduceSub, Nat.reduceAdd, List.getElem?_cons_zero, List.getElem?_cons_succ, Option.some.injEq, exists_eq_left', ixD_i, setIx_ri, appD_r, isC_r, items_tup, items_lst, items_fro, items_ref, tru_b, tru_i, b_add, b_sub, b_mul, b_div, b_mod, b_pow, b_band, addD_ii, subD_ii, mulD_ii, modD_ii, divD_ii, powD_ii, bandD_ii, addD_tt, addD_ll, addD_fl, c_eq, c_ne, c_lt, c_le, c_gt, c_ge, c_is, c_isn, isD_bb, eqD_ii, eqD_ss, eqD_bb, ltD_ii, leD_ii, bi_len, bi_max, bi_min, bi_tup, bi_lst, bi_repr, bi_all, maxB_ii, minB_ii, lenB_1, tupB_1, lstB_1, reprB_1, allB_1, slD_t, slD_l, slD_f, slD_r, ints2_ii, popD_ri, dgetF_2, lset_t, lset_l, lset_r, AG.wipeD, asg_n, asg_t, asg_p, AG.setAll, atI_0, atI_1, atI_2, atI_3, ixN_30, ixN_31, ixN_32, List.set_cons_zero, List.set_cons_succ, List.getElem?_set_self, List.length_set, Bool.and_eq_true, decide_eq_true_eq, decide_eq_false_iff_not, bne_iff_ne, bne_eq_false_iff_eq, Int.toNat_natCast]
    rw [show itemsD (dTi T) = AG.ret [.int (T.F : Nat), .int (T.R : Nat), .tup (nD T.A), .tup (nD T.W)] from rfl, ok_ret']
    refine ⟨_, rfl, ?_⟩
    simp only [runF, exs, ex, ev, evs, evt, evo, evi, evc, ok_bnd, ok_ret', ok_getV, ok_getC, ok_setC, ok_opt, ok_need, ok_ite, ok_mkLf, ok_mkLt, ok_notB, List.map_cons, List.map_nil, List.replicate_zero, List.replicate_succ, List.length_cons, List.length_nil, List.cons_append, List.nil_append, Nat.reduceSub, Nat.reduceAdd, List.getElem?_cons_zero, List.getElem?_cons_succ, Option.some.injEq, exists_eq_left', ixD_i, setIx_ri, appD_r, isC_r, items_tup, items_lst, items_fro, items_ref, tru_b, tru_i, b_add, b_sub, b_mul, b_div, b_mod, b_pow, b_band, addD_ii, subD_ii, mulD_ii, modD_ii, divD_ii, powD_ii, bandD_ii, addD_tt, addD_ll, addD_fl, c_eq, c_ne, c_lt, c_le, c_gt, c_ge, c_is, c_isn, isD_bb, eqD_ii, eqD_ss, eqD_bb, ltD_ii, leD_ii, bi_len, bi_max, bi_min, bi_tup, bi_lst, bi_repr, bi_all, maxB_ii, minB_ii, lenB_1, tupB_1, lstB_1, reprB_1, allB_1, slD_t, slD_l, slD_f, slD_r, ints2_ii, popD_ri, dgetF_2, lset_t, lset_l, lset_r, AG.wipeD, asg_n, asg_t, asg_p, AG.setAll, atI_0, atI_1, atI_2, atI_3, ixN_30, ixN_31, ixN_32, List.set_cons_zero, List.set_cons_succ, List.getElem?_set_self, List.length_set, Bool.and_eq_true, decide_eq_true_eq, decide_eq_false_iff_not, bne_iff_ne, bne_eq_false_iff_eq, Int.toNat_natCast]
    rw [hla]
    exact ⟨by simp, hJ4.up (by omega)⟩
  · have ne : eqD (.tup (nD T.W)) (.tup []) = AG.ret false := by
      cases hW : T.W with
      | nil => exact absurd hW hw
      | cons y r => rfl
    rw [ne, ok_ret']
    refine ⟨fun z => absurd z (by decide), fun _ => ?_⟩
    obtain ⟨x, hx⟩ := kth_some hT (k := q) fun z2 => hw z2.1
    obtain ⟨y, hy⟩ := kth_some hT (k := q + 1) fun z2 => hw z2.1
    obtain ⟨hxy, hno⟩ := kth_lt hT hx hy
    obtain ⟨x1, x2⟩ := kth_ok hT hx
    obtain ⟨y1, y2⟩ := kth_ok hT hy
    have xle := kth_le hT hx (by omega)
    have yle := kth_le hT hy (by omega)
    rw [hx, hy]
    simp only [isN, oD, Option.isNone_some, runF, exs, ex, ev, evs, evt, evo, evi, evc, ok_bnd, ok_ret', ok_getV, ok_getC, ok_setC, ok_opt, ok_need, ok_ite, ok_mkLf, ok_mkLt, ok_notB, List.map_cons, List.map_nil, List.replicate_zero, List.replicate_succ, List.length_cons, List.length_nil, List.cons_append, List.nil_append, Nat.reduceSub, Nat.reduceAdd, List.getElem?_cons_zero, List.getElem?_cons_succ, Option.some.injEq, exists_eq_left', ixD_i, setIx_ri, appD_r, isC_r, items_tup, items_lst, items_fro, items_ref, tru_b, tru_i, b_add, b_sub, b_mul, b_div, b_mod, b_pow, b_band, addD_ii, subD_ii, mulD_ii, modD_ii, divD_ii, powD_ii, bandD_ii, addD_tt, addD_ll, addD_fl, c_eq, c_ne, c_lt, c_le, c_gt, c_ge, c_is, c_isn, isD_bb, eqD_ii, eqD_ss, eqD_bb, ltD_ii, leD_ii, bi_len, bi_max, bi_min, bi_tup, bi_lst, bi_repr, bi_all, maxB_ii, minB_ii, lenB_1, tupB_1, lstB_1, reprB_1, allB_1, slD_t, slD_l, slD_f, slD_r, ints2_ii, popD_ri, dgetF_2, lset_t, lset_l, lset_r, AG.wipeD, asg_n, asg_t, asg_p, AG.setAll, atI_0, atI_1, atI_2, atI_3, ixN_30, ixN_31, ixN_32, List.set_cons_zero, List.set_cons_succ, List.getElem?_set_self, List.length_set, Bool.and_eq_true, decide_eq_true_eq, decide_eq_false_iff_not, bne_iff_ne, bne_eq_false_iff_eq, Int.toNat_natCast]
    have iF : ∀ z : Int, isD (D.int z) D.non = AG.ret false := fun _ => rfl
    rw [iF, ok_ret']
    refine ⟨fun z => absurd z (by decide), fun _ => ?_⟩
    rw [iF, ok_ret']
    refine ⟨fun z => absurd z (by decide), fun _ => ?_⟩
    rw [decide_eq_true (show ((x : Nat) : Int) < (y : Nat) by omega)]
    refine ⟨fun z => absurd z (by decide), fun _ => ?_⟩
    refine (hcb S6 T x hT (by omega)).mono fun d S7 ⟨e1, e2⟩ => ?_
    subst e1 e2
    rw [x2, eqD_ii, ok_ret', decide_eq_true rfl]
    refine ⟨fun z => absurd z (by decide), fun _ => ?_⟩
    refine (hcb S7 T y hT (by omega)).mono fun d S8 ⟨e1, e2⟩ => ?_
    subst e1 e2
    rw [y2, eqD_ii, ok_ret', decide_eq_true rfl]
    refine ⟨fun z => absurd z (by decide), fun _ => ?_⟩
    refine (him S8 T x hT (by omega)).mono fun d S9 ⟨e1, e2⟩ => ?_
    subst e1 e2
    rw [x1, isD_bb, ok_ret', decide_eq_true rfl]
    refine ⟨fun z => absurd z (by decide), fun _ => ?_⟩
    simp only [bi_min3, minB_iii, runF, exs, ex, ev, evs, evt, evo, evi, evc, ok_bnd, ok_ret', ok_getV, ok_getC, ok_setC, ok_opt, ok_need, ok_ite, ok_mkLf, ok_mkLt, ok_notB, List.map_cons, List.map_nil, List.replicate_zero, List.replicate_succ, List.length_cons, List.length_nil, List.cons_append, List.nil_append, Nat.reduceSub, Nat.reduceAdd, List.getElem?_cons_zero, List.getElem?_cons_succ, Option.some.injEq, exists_eq_left', ixD_i, setIx_ri, appD_r, isC_r, items_tup, items_lst, items_fro, items_ref, tru_b, tru_i, b_add, b_sub, b_mul, b_div, b_mod, b_pow, b_band, addD_ii, subD_ii, mulD_ii, modD_ii, divD_ii, powD_ii, bandD_ii, addD_tt, addD_ll, addD_fl, c_eq, c_ne, c_lt, c_le, c_gt, c_ge, c_is, c_isn, isD_bb, eqD_ii, eqD_ss, eqD_bb, ltD_ii, leD_ii, bi_len, bi_max, bi_min, bi_tup, bi_lst, bi_repr, bi_all, maxB_ii, minB_ii, lenB_1, tupB_1, lstB_1, reprB_1, allB_1, slD_t, slD_l, slD_f, slD_r, ints2_ii, popD_ri, dgetF_2, lset_t, lset_l, lset_r, AG.wipeD, asg_n, asg_t, asg_p, AG.setAll, atI_0, atI_1, atI_2, atI_3, ixN_30, ixN_31, ixN_32, List.set_cons_zero, List.set_cons_succ, List.getElem?_set_self, List.length_set, Bool.and_eq_true, decide_eq_true_eq, decide_eq_false_iff_not, bne_iff_ne, bne_eq_false_iff_eq, Int.toNat_natCast]
    obtain ⟨w, hw1⟩ : ∃ w : Nat, (if (10 : Int) ^ Int.toNat 18 < (if ((x : Nat) : Int) + 400 < (y : Nat) then ((x : Nat) : Int) + 400 else ((y : Nat) : Int)) then (10 : Int) ^ Int.toNat 18 else (if ((x : Nat) : Int) + 400 < (y : Nat) then ((x : Nat) : Int) + 400 else ((y : Nat) : Int))) = ((w : Nat) : Int) := ⟨min (10 ^ 18) (min (x + 400) y), by rw [p18]; omega⟩
    have hwy : w ≤ y ∧ w ≤ x + 400 := by
      rw [p18] at hw1
      omega
    rw [hw1, show (x : Int) + 1 = ((x + 1 : Nat) : Int) by omega]
    refine ⟨⟨⟨by decide, by decide⟩, by decide⟩, ⟨okB (by omega), okB (by omega)⟩, ?_⟩
    rw [show (((w : Nat) : Int) - ((x + 1 : Nat) : Int)).toNat = w - (x + 1) by omega, show rngL ((x + 1 : Nat) : Int) (w - (x + 1)) = (List.range (w - (x + 1))).map fun i => D.int ((x + 1 + i : Nat) : Int) by unfold rngL; apply List.map_congr_left; intro i _; congr 1]
    refine ok_lcfB (fun i : Nat => D.int ((x + 1 + i : Nat) : Int)) (fun i : Nat => D.int ((x + 1 + i : Nat) : Int)) (fun _ => false) _ [] (by rw [List.length_nil, List.length_range]; omega) (fun i hi => ?_) ?_
    · have hi := List.mem_range.mp hi
      refine ⟨_, rfl, ?_⟩
      simp only [runF, exs, ex, ev, evs, evt, evo, evi, evc, ok_bnd, ok_ret', ok_getV, ok_getC, ok_setC, ok_opt, ok_need, ok_ite, ok_mkLf, ok_mkLt, ok_notB, List.map_cons, List.map_nil, List.replicate_zero, List.replicate_succ, List.length_cons, List.length_nil, List.cons_append, List.nil_append, Nat.reduceSub, Nat.reduceAdd, List.getElem?_cons_zero, List.getElem?_cons_succ, Option.some.injEq, exists_eq_left', ixD_i, setIx_ri, appD_r, isC_r, items_tup, items_lst, items_fro, items_ref, tru_b, tru_i, b_add, b_sub, b_mul, b_div, b_mod, b_pow, b_band, addD_ii, subD_ii, mulD_ii, modD_ii, divD_ii, powD_ii, bandD_ii, addD_tt, addD_ll, addD_fl, c_eq, c_ne, c_lt, c_le, c_gt, c_ge, c_is, c_isn, isD_bb, eqD_ii, eqD_ss, eqD_bb, ltD_ii, leD_ii, bi_len, bi_max, bi_min, bi_tup, bi_lst, bi_repr, bi_all, maxB_ii, minB_ii, lenB_1, tupB_1, lstB_1, reprB_1, allB_1, slD_t, slD_l, slD_f, slD_r, ints2_ii, popD_ri, dgetF_2, lset_t, lset_l, lset_r, AG.wipeD, asg_n, asg_t, asg_p, AG.setAll, atI_0, atI_1, atI_2, atI_3, ixN_30, ixN_31, ixN_32, List.set_cons_zero, List.set_cons_succ, List.getElem?_set_self, List.length_set, Bool.and_eq_true, decide_eq_true_eq, decide_eq_false_iff_not, bne_iff_ne, bne_eq_false_iff_eq, Int.toNat_natCast]
      refine (him S9 T (x + 1 + i) hT (by omega)).mono fun d S10 ⟨e1, e2⟩ => ?_
      subst e1 e2
      rw [hno (x + 1 + i) (by omega) (by omega)]
      simp only [runF, exs, ex, ev, evs, evt, evo, evi, evc, ok_bnd, ok_ret', ok_getV, ok_getC, ok_setC, ok_opt, ok_need, ok_ite, ok_mkLf, ok_mkLt, ok_notB, List.map_cons, List.map_nil, List.replicate_zero, List.replicate_succ, List.length_cons, List.length_nil, List.cons_append, List.nil_append, Nat.reduceSub, Nat.reduceAdd, List.getElem?_cons_zero, List.getElem?_cons_succ, Option.some.injEq, exists_eq_left', ixD_i, setIx_ri, appD_r, isC_r, items_tup, items_lst, items_fro, items_ref, tru_b, tru_i, b_add, b_sub, b_mul, b_div, b_mod, b_pow, b_band, addD_ii, subD_ii, mulD_ii, modD_ii, divD_ii, powD_ii, bandD_ii, addD_tt, addD_ll, addD_fl, c_eq, c_ne, c_lt, c_le, c_gt, c_ge, c_is, c_isn, isD_bb, eqD_ii, eqD_ss, eqD_bb, ltD_ii, leD_ii, bi_len, bi_max, bi_min, bi_tup, bi_lst, bi_repr, bi_all, maxB_ii, minB_ii, lenB_1, tupB_1, lstB_1, reprB_1, allB_1, slD_t, slD_l, slD_f, slD_r, ints2_ii, popD_ri, dgetF_2, lset_t, lset_l, lset_r, AG.wipeD, asg_n, asg_t, asg_p, AG.setAll, atI_0, atI_1, atI_2, atI_3, ixN_30, ixN_31, ixN_32, List.set_cons_zero, List.set_cons_succ, List.getElem?_set_self, List.length_set, Bool.and_eq_true, decide_eq_true_eq, decide_eq_false_iff_not, bne_iff_ne, bne_eq_false_iff_eq, Int.toNat_natCast]
      exact ⟨by first | trivial | rfl, by first | trivial | rfl, fun h => absurd h (by decide)⟩
    · rw [show ((List.range (w - (x + 1))).filter fun _ => false) = [] from List.filter_eq_nil_iff.mpr fun x _ => by decide]
      refine ⟨by decide, ?_⟩
      show Ok (eqD (.lst []) (.lst [])) S9 _
      rw [ok_eqP rfl rfl (by decide) (by decide), eqB_t rfl]
      exact ⟨rfl, hJ4.up (by omega)⟩
end
end AGL
namespace AGL
open PySem AG
def GreFW (F : List D → M D) : Prop := ∀ (S : Sto) (k n : Nat), Jar S k n → n ≤ 10000000 → Ok (F [.ref k]) S fun d S' => ∃ e m, d = dPr2 e m ∧ PrOk2 e m ∧ Jar S' k (n + 1000) ∧ Fr k S S'
section
variable {Φ : String → List D → M D} {fu : Nat}
theorem gref_run (hp : Dip2W (Φ "_law_dip")) : GreFW (runF Φ fu 4 b_law_great) := by
  intro S k n h hn
  simp only [b_law_great, runF, exs, ex, ev, evs, evt, evo, evi, evc, ok_bnd, ok_ret', ok_getV, ok_getC, ok_setC, ok_opt, ok_need, ok_ite, ok_mkLf, ok_mkLt, ok_notB, List.map_cons, List.map_nil, List.replicate_zero, List.replicate_succ, List.length_cons, List.length_nil, List.cons_append, List.nil_append, Nat.reduceSub, Nat.reduceAdd, List.getElem?_cons_zero, List.getElem?_cons_succ, Option.some.injEq, exists_eq_left', ixD_i, setIx_ri, appD_r, isC_r, items_tup, items_lst, items_fro, items_ref, tru_b, tru_i, b_add, b_sub, b_mul, b_div, b_mod, b_pow, b_band, addD_ii, subD_ii, mulD_ii, modD_ii, divD_ii, powD_ii, bandD_ii, addD_tt, addD_ll, addD_fl, c_eq, c_ne, c_lt, c_le, c_gt, c_ge, c_is, c_isn, isD_bb, eqD_ii, eqD_ss, eqD_bb, ltD_ii, leD_ii, bi_len, bi_max, bi_min, bi_tup, bi_lst, bi_repr, bi_all, maxB_ii, minB_ii, lenB_1, tupB_1, lstB_1, reprB_1, allB_1, slD_t, slD_l, slD_f, slD_r, ints2_ii, popD_ri, dgetF_2, lset_t, lset_l, lset_r, AG.wipeD, asg_n, asg_t, asg_p, AG.setAll, atI_0, atI_1, atI_2, atI_3, ixN_30, ixN_31, ixN_32, List.set_cons_zero, List.set_cons_succ, List.getElem?_set_self, List.length_set, Bool.and_eq_true, decide_eq_true_eq, decide_eq_false_iff_not, bne_iff_ne, bne_eq_false_iff_eq, Int.toNat_natCast]
  refine ⟨by decide, ?_⟩
  refine (hp S k n 20001 h (by omega) (by decide) (by decide)).mono fun d S1 ⟨x, hd, hx, b1, l1, f1⟩ => ?_
  subst hd
  rw [ok_mulLt (by omega), bN_rep]
  refine ⟨by decide, ?_⟩
  refine (hp _ k _ 50000 (b1.app _) (by omega) (by decide) (by decide)).mono fun d S2 ⟨y, hd, hy, b2, l2, f2⟩ => ?_
  subst hd
  try simp only [runF, exs, ex, ev, evs, evt, evo, evi, evc, ok_bnd, ok_ret', ok_getV, ok_getC, ok_setC, ok_opt, ok_need, ok_ite, ok_mkLf, ok_mkLt, ok_notB, List.map_cons, List.map_nil, List.replicate_zero, List.replicate_succ, List.length_cons, List.length_nil, List.cons_append, List.nil_append, Nat.reduceSub, Nat.reduceAdd, List.getElem?_cons_zero, List.getElem?_cons_succ, Option.some.injEq, exists_eq_left', ixD_i, setIx_ri, appD_r, isC_r, items_tup, items_lst, items_fro, items_ref, tru_b, tru_i, b_add, b_sub, b_mul, b_div, b_mod, b_pow, b_band, addD_ii, subD_ii, mulD_ii, modD_ii, divD_ii, powD_ii, bandD_ii, addD_tt, addD_ll, addD_fl, c_eq, c_ne, c_lt, c_le, c_gt, c_ge, c_is, c_isn, isD_bb, eqD_ii, eqD_ss, eqD_bb, ltD_ii, leD_ii, bi_len, bi_max, bi_min, bi_tup, bi_lst, bi_repr, bi_all, maxB_ii, minB_ii, lenB_1, tupB_1, lstB_1, reprB_1, allB_1, slD_t, slD_l, slD_f, slD_r, ints2_ii, popD_ri, dgetF_2, lset_t, lset_l, lset_r, AG.wipeD, asg_n, asg_t, asg_p, AG.setAll, atI_0, atI_1, atI_2, atI_3, ixN_30, ixN_31, ixN_32, List.set_cons_zero, List.set_cons_succ, List.getElem?_set_self, List.length_set, Bool.and_eq_true, decide_eq_true_eq, decide_eq_false_iff_not, bne_iff_ne, bne_eq_false_iff_eq, Int.toNat_natCast]
  have e1 : (1 : Int) + (y : Nat) = ((1 + y : Nat) : Int) := by omega
  rw [e1, ok_mulLt (by omega), bN_rep]
  rw [List.length_append, List.length_singleton] at l2
  have hk1 : k < S1.length := b1.lt
  have c1 : S2[S1.length]? = some (some (bN (List.replicate x false))) := by
    rw [f2.at_ _ (by rw [List.length_append, List.length_singleton]; omega) (by omega), List.getElem?_append_right (Nat.le_refl _), Nat.sub_self]
    rfl
  refine (hp _ k _ 5 (b2.app _) (by omega) (by decide) (by decide)).mono fun d S3 ⟨z, hd, hz, b3, l3, f3⟩ => ?_
  subst hd
  try simp only [runF, exs, ex, ev, evs, evt, evo, evi, evc, ok_bnd, ok_ret', ok_getV, ok_getC, ok_setC, ok_opt, ok_need, ok_ite, ok_mkLf, ok_mkLt, ok_notB, List.map_cons, List.map_nil, List.replicate_zero, List.replicate_succ, List.length_cons, List.length_nil, List.cons_append, List.nil_append, Nat.reduceSub, Nat.reduceAdd, List.getElem?_cons_zero, List.getElem?_cons_succ, Option.some.injEq, exists_eq_left', ixD_i, setIx_ri, appD_r, isC_r, items_tup, items_lst, items_fro, items_ref, tru_b, tru_i, b_add, b_sub, b_mul, b_div, b_mod, b_pow, b_band, addD_ii, subD_ii, mulD_ii, modD_ii, divD_ii, powD_ii, bandD_ii, addD_tt, addD_ll, addD_fl, c_eq, c_ne, c_lt, c_le, c_gt, c_ge, c_is, c_isn, isD_bb, eqD_ii, eqD_ss, eqD_bb, ltD_ii, leD_ii, bi_len, bi_max, bi_min, bi_tup, bi_lst, bi_repr, bi_all, maxB_ii, minB_ii, lenB_1, tupB_1, lstB_1, reprB_1, allB_1, slD_t, slD_l, slD_f, slD_r, ints2_ii, popD_ri, dgetF_2, lset_t, lset_l, lset_r, AG.wipeD, asg_n, asg_t, asg_p, AG.setAll, atI_0, atI_1, atI_2, atI_3, ixN_30, ixN_31, ixN_32, List.set_cons_zero, List.set_cons_succ, List.getElem?_set_self, List.length_set, Bool.and_eq_true, decide_eq_true_eq, decide_eq_false_iff_not, bne_iff_ne, bne_eq_false_iff_eq, Int.toNat_natCast]
  rw [List.length_append, List.length_singleton] at l3
  have c2 : S3[S1.length]? = some (some (bN (List.replicate x false))) := by
    rw [f3.at_ _ (by rw [List.length_append, List.length_singleton]; omega) (by omega), List.getElem?_append_left (by omega)]
    exact c1
  have c3 : S3[S2.length]? = some (some (bN (List.replicate (1 + y) false))) := by
    rw [f3.at_ _ (by rw [List.length_append, List.length_singleton]; omega) (by omega), List.getElem?_append_right (Nat.le_refl _), Nat.sub_self]
    rfl
  have f13 : Fr k S S3 := (((f1.trans (Fr.app _ _ _)).trans f2).trans (Fr.app _ _ _)).trans f3
  have hls : S.length ≤ S1.length := f1.len
  refine ⟨okR_nat (by omega), ?_⟩
  refine ok_for (fun j ρ S' => ∃ e m x3, ρ = [some (.ref k), some (.ref S1.length), some (.ref S2.length), x3] ∧ e.length = x ∧ m.length = 1 + y ∧ S'[S1.length]? = some (some (bN e)) ∧ S'[S2.length]? = some (some (bN m)) ∧ Jar S' k (n + 3 + 2 * j) ∧ Fr k S S')
    ⟨_, _, _, rfl, List.length_replicate .., List.length_replicate .., c2, c3, b3, f13⟩ ?_ ?_
  · rintro j w ρ S4 hw ⟨e, m, x3, rfl, he, hm, h1, h2, b4, f14⟩
    have hj : j < z := by
      have := (List.getElem?_eq_some_iff.mp hw).1
      rw [rng_len] at this
      exact this
    refine ⟨_, rfl, ?_⟩
    simp only [runF, exs, ex, ev, evs, evt, evo, evi, evc, ok_bnd, ok_ret', ok_getV, ok_getC, ok_setC, ok_opt, ok_need, ok_ite, ok_mkLf, ok_mkLt, ok_notB, List.map_cons, List.map_nil, List.replicate_zero, List.replicate_succ, List.length_cons, List.length_nil, List.cons_append, List.nil_append, Nat.reduceSub, Nat.reduceAdd, List.getElem?_cons_zero, List.getElem?_cons_succ, Option.some.injEq, exists_eq_left', ixD_i, setIx_ri, appD_r, isC_r, items_tup, items_lst, items_fro, items_ref, tru_b, tru_i, b_add, b_sub, b_mul, b_div, b_mod, b_pow, b_band, addD_ii, subD_ii, mulD_ii, modD_ii, divD_ii, powD_ii, bandD_ii, addD_tt, addD_ll, addD_fl, c_eq, c_ne, c_lt, c_le, c_gt, c_ge, c_is, c_isn, isD_bb, eqD_ii, eqD_ss, eqD_bb, ltD_ii, leD_ii, bi_len, bi_max, bi_min, bi_tup, bi_lst, bi_repr, bi_all, maxB_ii, minB_ii, lenB_1, tupB_1, lstB_1, reprB_1, allB_1, slD_t, slD_l, slD_f, slD_r, ints2_ii, popD_ri, dgetF_2, lset_t, lset_l, lset_r, AG.wipeD, asg_n, asg_t, asg_p, AG.setAll, atI_0, atI_1, atI_2, atI_3, ixN_30, ixN_31, ixN_32, List.set_cons_zero, List.set_cons_succ, List.getElem?_set_self, List.length_set, Bool.and_eq_true, decide_eq_true_eq, decide_eq_false_iff_not, bne_iff_ne, bne_eq_false_iff_eq, Int.toNat_natCast]
    have n12 : S1.length ≠ S2.length := by omega
    have hk4 : k < S4.length := b4.lt
    refine ⟨_, h2, ?_⟩
    have ml : (bN m).length = 1 + y := by rw [bN_len, hm]
    have e20 : (10 : Nat) ^ 20 = 100000000000000000000 := by decide
    rw [ml]
    refine (hp S4 k _ (1 + y) b4 (by omega) (by omega) (by omega)).mono fun d S5 ⟨i, hd, hi, b5, l5, f5⟩ => ?_
    subst hd
    have h1' : S5[S1.length]? = some (some (bN e)) := by rw [f5.at_ _ (List.getElem?_eq_some_iff.mp h1).1 (by omega)]; exact h1
    have h2' : S5[S2.length]? = some (some (bN m)) := by rw [f5.at_ _ (List.getElem?_eq_some_iff.mp h2).1 (by omega)]; exact h2
    rw [ok_setixR h2' (by omega), bN_set]
    have k1 : (S5.set S2.length (some (bN (m.set i true))))[S1.length]? = some (some (bN e)) := by rw [List.getElem?_set_ne (by omega)]; exact h1'
    have k2 : (S5.set S2.length (some (bN (m.set i true))))[S2.length]? = some (some (bN (m.set i true))) := set_at h2' _
    have b6 := b5.set (some (bN (m.set i true))) (show k ≠ S2.length by omega)
    have f6 : Fr k S (S5.set S2.length (some (bN (m.set i true)))) := fr_set (f14.trans f5) (by omega)
    rw [ok_eqRe k1]
    refine ⟨by decide, fun hne => ?_, fun _ => ⟨e, m.set i true, _, rfl, he, by rw [List.length_set]; exact hm, k1, k2, b6.up (by omega), f6⟩⟩
    have el : 1 ≤ e.length := by
      cases e with
      | nil => simp [bN] at hne
      | cons _ _ => simp
    refine ⟨_, k1, ?_⟩
    rw [bN_len]
    refine (hp _ k _ e.length b6 (by omega) el (by omega)).mono fun d S7 ⟨i2, hd, hi2, b7, l7, f7⟩ => ?_
    subst hd
    have k1' : S7[S1.length]? = some (some (bN e)) := by rw [f7.at_ _ (List.getElem?_eq_some_iff.mp k1).1 (by omega)]; exact k1
    have k2' : S7[S2.length]? = some (some (bN (m.set i true))) := by rw [f7.at_ _ (List.getElem?_eq_some_iff.mp k2).1 (by omega)]; exact k2
    rw [ok_setixR k1' (by rw [bN_len]; exact hi2), bN_set]
    exact ⟨e.set i2 true, m.set i true, _, rfl, by rw [List.length_set]; exact he, by rw [List.length_set]; exact hm, set_at k1' _, by rw [List.getElem?_set_ne (by omega)]; exact k2', (b7.set _ (show k ≠ S1.length by omega)).up (by omega), fr_set (f6.trans f7) (by omega)⟩
  · rintro ρ S4 ⟨e, m, x3, rfl, he, hm, h1, h2, b4, f14⟩
    rw [rng_len] at b4
    simp only [runF, exs, ex, ev, evs, evt, evo, evi, evc, ok_bnd, ok_ret', ok_getV, ok_getC, ok_setC, ok_opt, ok_need, ok_ite, ok_mkLf, ok_mkLt, ok_notB, List.map_cons, List.map_nil, List.replicate_zero, List.replicate_succ, List.length_cons, List.length_nil, List.cons_append, List.nil_append, Nat.reduceSub, Nat.reduceAdd, List.getElem?_cons_zero, List.getElem?_cons_succ, Option.some.injEq, exists_eq_left', ixD_i, setIx_ri, appD_r, isC_r, items_tup, items_lst, items_fro, items_ref, tru_b, tru_i, b_add, b_sub, b_mul, b_div, b_mod, b_pow, b_band, addD_ii, subD_ii, mulD_ii, modD_ii, divD_ii, powD_ii, bandD_ii, addD_tt, addD_ll, addD_fl, c_eq, c_ne, c_lt, c_le, c_gt, c_ge, c_is, c_isn, isD_bb, eqD_ii, eqD_ss, eqD_bb, ltD_ii, leD_ii, bi_len, bi_max, bi_min, bi_tup, bi_lst, bi_repr, bi_all, maxB_ii, minB_ii, lenB_1, tupB_1, lstB_1, reprB_1, allB_1, slD_t, slD_l, slD_f, slD_r, ints2_ii, popD_ri, dgetF_2, lset_t, lset_l, lset_r, AG.wipeD, asg_n, asg_t, asg_p, AG.setAll, atI_0, atI_1, atI_2, atI_3, ixN_30, ixN_31, ixN_32, List.set_cons_zero, List.set_cons_succ, List.getElem?_set_self, List.length_set, Bool.and_eq_true, decide_eq_true_eq, decide_eq_false_iff_not, bne_iff_ne, bne_eq_false_iff_eq, Int.toNat_natCast]
    have n12 : S1.length ≠ S2.length := by omega
    have s2 : setlD [some (D.ref k), some (D.ref S1.length), some (D.ref S2.length), x3] 2 S4 = .ok [some (D.ref k), some (D.ref S1.length), some (D.lst (bN m)), x3] (S4.set S2.length none) := by
      unfold setlD
      simp only [List.getElem?_cons_succ, List.getElem?_cons_zero, h2]
      rfl
    have k1 : (S4.set S2.length none)[S1.length]? = some (some (bN e)) := by rw [List.getElem?_set_ne (by omega)]; exact h1
    have s1 : setlD [some (D.ref k), some (D.ref S1.length), some (D.lst (bN m)), x3] 1 (S4.set S2.length none) = .ok [some (D.ref k), some (D.lst (bN e)), some (D.lst (bN m)), x3] ((S4.set S2.length none).set S1.length none) := by
      unfold setlD
      simp only [List.getElem?_cons_succ, List.getElem?_cons_zero, k1]
      rfl
    refine ⟨_, _, s2, _, _, s1, ?_⟩
    simp only [runF, exs, ex, ev, evs, evt, evo, evi, evc, ok_bnd, ok_ret', ok_getV, ok_getC, ok_setC, ok_opt, ok_need, ok_ite, ok_mkLf, ok_mkLt, ok_notB, List.map_cons, List.map_nil, List.replicate_zero, List.replicate_succ, List.length_cons, List.length_nil, List.cons_append, List.nil_append, Nat.reduceSub, Nat.reduceAdd, List.getElem?_cons_zero, List.getElem?_cons_succ, Option.some.injEq, exists_eq_left', ixD_i, setIx_ri, appD_r, isC_r, items_tup, items_lst, items_fro, items_ref, tru_b, tru_i, b_add, b_sub, b_mul, b_div, b_mod, b_pow, b_band, addD_ii, subD_ii, mulD_ii, modD_ii, divD_ii, powD_ii, bandD_ii, addD_tt, addD_ll, addD_fl, c_eq, c_ne, c_lt, c_le, c_gt, c_ge, c_is, c_isn, isD_bb, eqD_ii, eqD_ss, eqD_bb, ltD_ii, leD_ii, bi_len, bi_max, bi_min, bi_tup, bi_lst, bi_repr, bi_all, maxB_ii, minB_ii, lenB_1, tupB_1, lstB_1, reprB_1, allB_1, slD_t, slD_l, slD_f, slD_r, ints2_ii, popD_ri, dgetF_2, lset_t, lset_l, lset_r, AG.wipeD, asg_n, asg_t, asg_p, AG.setAll, atI_0, atI_1, atI_2, atI_3, ixN_30, ixN_31, ixN_32, List.set_cons_zero, List.set_cons_succ, List.getElem?_set_self, List.length_set, Bool.and_eq_true, decide_eq_true_eq, decide_eq_false_iff_not, bne_iff_ne, bne_eq_false_iff_eq, Int.toNat_natCast]
    exact ⟨by decide, e, m, rfl, ⟨by omega, by omega, by omega⟩, ((b4.set none (show k ≠ S2.length by omega)).set none (show k ≠ S1.length by omega)).up (by omega), fr_set (fr_set f14 (by omega)) (by omega)⟩
end
end AGL
namespace AGL
open PySem AG
def dPs (ls : List (List Bool × List Bool)) : List D := ls.map fun x => dPr2 x.1 x.2
section
variable {Φ : String → List D → M D} {fu : Nat}
theorem law_run (hj : JarW (Φ "_law_jar")) (hp : Dip2W (Φ "_law_dip")) (hs : SomW (Φ "_law_some")) (hg : GreFW (Φ "_law_great")) (hf : FrmW (Φ "_law_form")) (hk : KksW (Φ "_law_kths_right")) (hb : BtwW (Φ "_law_between_right")) (ns : List Int) (hn : ns.length ≤ 63) (S0 : Sto) :
    Ok (runF Φ fu 9 b_law [.fro (ns.map D.int)]) S0 fun d _ => d = .bl true := by
  simp only [b_law, runF, exs, ex, ev, evs, evt, evo, evi, evc, ok_bnd, ok_ret', ok_getV, ok_getC, ok_setC, ok_opt, ok_need, ok_ite, ok_mkLf, ok_mkLt, ok_notB, List.map_cons, List.map_nil, List.replicate_zero, List.replicate_succ, List.length_cons, List.length_nil, List.cons_append, List.nil_append, Nat.reduceSub, Nat.reduceAdd, List.getElem?_cons_zero, List.getElem?_cons_succ, Option.some.injEq, exists_eq_left', ixD_i, setIx_ri, appD_r, isC_r, items_tup, items_lst, items_fro, items_ref, tru_b, tru_i, b_add, b_sub, b_mul, b_div, b_mod, b_pow, b_band, addD_ii, subD_ii, mulD_ii, modD_ii, divD_ii, powD_ii, bandD_ii, addD_tt, addD_ll, addD_fl, c_eq, c_ne, c_lt, c_le, c_gt, c_ge, c_is, c_isn, isD_bb, eqD_ii, eqD_ss, eqD_bb, ltD_ii, leD_ii, bi_len, bi_max, bi_min, bi_tup, bi_lst, bi_repr, bi_all, maxB_ii, minB_ii, lenB_1, tupB_1, lstB_1, reprB_1, allB_1, slD_t, slD_l, slD_f, slD_r, ints2_ii, popD_ri, dgetF_2, lset_t, lset_l, lset_r, AG.wipeD, asg_n, asg_t, asg_p, AG.setAll, atI_0, atI_1, atI_2, atI_3, ixN_30, ixN_31, ixN_32, List.set_cons_zero, List.set_cons_succ, List.getElem?_set_self, List.length_set, Bool.and_eq_true, decide_eq_true_eq, decide_eq_false_iff_not, bne_iff_ne, bne_eq_false_iff_eq, Int.toNat_natCast]
  obtain ⟨ms, hms, hml⟩ := cut_ints ns none (some 10)
  rw [hms]
  refine ⟨by decide, ⟨by unfold small; rw [List.length_map]; exact decide_eq_true (by omega), by decide⟩, ?_⟩
  rw [show ms.map D.int ++ [D.int 0] = (ms ++ [0]).map D.int by rw [List.map_append]; rfl]
  refine ok_for (fun j ρ S' => ∃ x1 x2 x3 x4 x5 x6 x7 x8, ρ = [some (D.fro (ns.map D.int)), x1, x2, x3, x4, x5, x6, x7, x8]) ⟨_, _, _, _, _, _, _, _, rfl⟩ ?_ ?_
  · rintro j x ρ S1 hx ⟨x1, x2, x3, x4, x5, x6, x7, x8, rfl⟩
    rw [List.getElem?_map] at hx
    obtain ⟨cell, hcell, rfl⟩ := Option.map_eq_some_iff.mp hx
    refine ⟨_, rfl, ?_⟩
    try simp only [runF, exs, ex, ev, evs, evt, evo, evi, evc, ok_bnd, ok_ret', ok_getV, ok_getC, ok_setC, ok_opt, ok_need, ok_ite, ok_mkLf, ok_mkLt, ok_notB, List.map_cons, List.map_nil, List.replicate_zero, List.replicate_succ, List.length_cons, List.length_nil, List.cons_append, List.nil_append, Nat.reduceSub, Nat.reduceAdd, List.getElem?_cons_zero, List.getElem?_cons_succ, Option.some.injEq, exists_eq_left', ixD_i, setIx_ri, appD_r, isC_r, items_tup, items_lst, items_fro, items_ref, tru_b, tru_i, b_add, b_sub, b_mul, b_div, b_mod, b_pow, b_band, addD_ii, subD_ii, mulD_ii, modD_ii, divD_ii, powD_ii, bandD_ii, addD_tt, addD_ll, addD_fl, c_eq, c_ne, c_lt, c_le, c_gt, c_ge, c_is, c_isn, isD_bb, eqD_ii, eqD_ss, eqD_bb, ltD_ii, leD_ii, bi_len, bi_max, bi_min, bi_tup, bi_lst, bi_repr, bi_all, maxB_ii, minB_ii, lenB_1, tupB_1, lstB_1, reprB_1, allB_1, slD_t, slD_l, slD_f, slD_r, ints2_ii, popD_ri, dgetF_2, lset_t, lset_l, lset_r, AG.wipeD, asg_n, asg_t, asg_p, AG.setAll, atI_0, atI_1, atI_2, atI_3, ixN_30, ixN_31, ixN_32, List.set_cons_zero, List.set_cons_succ, List.getElem?_set_self, List.length_set, Bool.and_eq_true, decide_eq_true_eq, decide_eq_false_iff_not, bne_iff_ne, bne_eq_false_iff_eq, Int.toNat_natCast]
    refine (hj S1 cell).mono fun d S2 ⟨hd, b0, l0, f0⟩ => ?_
    subst hd
    try simp only [runF, exs, ex, ev, evs, evt, evo, evi, evc, ok_bnd, ok_ret', ok_getV, ok_getC, ok_setC, ok_opt, ok_need, ok_ite, ok_mkLf, ok_mkLt, ok_notB, List.map_cons, List.map_nil, List.replicate_zero, List.replicate_succ, List.length_cons, List.length_nil, List.cons_append, List.nil_append, Nat.reduceSub, Nat.reduceAdd, List.getElem?_cons_zero, List.getElem?_cons_succ, Option.some.injEq, exists_eq_left', ixD_i, setIx_ri, appD_r, isC_r, items_tup, items_lst, items_fro, items_ref, tru_b, tru_i, b_add, b_sub, b_mul, b_div, b_mod, b_pow, b_band, addD_ii, subD_ii, mulD_ii, modD_ii, divD_ii, powD_ii, bandD_ii, addD_tt, addD_ll, addD_fl, c_eq, c_ne, c_lt, c_le, c_gt, c_ge, c_is, c_isn, isD_bb, eqD_ii, eqD_ss, eqD_bb, ltD_ii, leD_ii, bi_len, bi_max, bi_min, bi_tup, bi_lst, bi_repr, bi_all, maxB_ii, minB_ii, lenB_1, tupB_1, lstB_1, reprB_1, allB_1, slD_t, slD_l, slD_f, slD_r, ints2_ii, popD_ri, dgetF_2, lset_t, lset_l, lset_r, AG.wipeD, asg_n, asg_t, asg_p, AG.setAll, atI_0, atI_1, atI_2, atI_3, ixN_30, ixN_31, ixN_32, List.set_cons_zero, List.set_cons_succ, List.getElem?_set_self, List.length_set, Bool.and_eq_true, decide_eq_true_eq, decide_eq_false_iff_not, bne_iff_ne, bne_eq_false_iff_eq, Int.toNat_natCast]
    refine ⟨by decide, ?_⟩
    refine ok_lc (fun i acc S' => ∃ ls : List (List Bool × List Bool), acc = dPs ls ∧ ls.length = i ∧ (∀ p ∈ ls, PrOk2 p.1 p.2) ∧ Jar S' S1.length (i * 1000)) ⟨[], rfl, rfl, (fun _ h => nomatch h), b0.up (by omega)⟩ (by decide) ?_ ?_
    · rintro i y acc S3 hy hacc ⟨ls, e1, e2, e3, b3⟩
      have hi3 : i < 3 := by
        have := (List.getElem?_eq_some_iff.mp hy).1
        rw [show (rngL 0 (Int.toNat 3)).length = 3 from rfl] at this
        exact this
      refine ⟨_, rfl, ?_⟩
      try simp only [runF, exs, ex, ev, evs, evt, evo, evi, evc, ok_bnd, ok_ret', ok_getV, ok_getC, ok_setC, ok_opt, ok_need, ok_ite, ok_mkLf, ok_mkLt, ok_notB, List.map_cons, List.map_nil, List.replicate_zero, List.replicate_succ, List.length_cons, List.length_nil, List.cons_append, List.nil_append, Nat.reduceSub, Nat.reduceAdd, List.getElem?_cons_zero, List.getElem?_cons_succ, Option.some.injEq, exists_eq_left', ixD_i, setIx_ri, appD_r, isC_r, items_tup, items_lst, items_fro, items_ref, tru_b, tru_i, b_add, b_sub, b_mul, b_div, b_mod, b_pow, b_band, addD_ii, subD_ii, mulD_ii, modD_ii, divD_ii, powD_ii, bandD_ii, addD_tt, addD_ll, addD_fl, c_eq, c_ne, c_lt, c_le, c_gt, c_ge, c_is, c_isn, isD_bb, eqD_ii, eqD_ss, eqD_bb, ltD_ii, leD_ii, bi_len, bi_max, bi_min, bi_tup, bi_lst, bi_repr, bi_all, maxB_ii, minB_ii, lenB_1, tupB_1, lstB_1, reprB_1, allB_1, slD_t, slD_l, slD_f, slD_r, ints2_ii, popD_ri, dgetF_2, lset_t, lset_l, lset_r, AG.wipeD, asg_n, asg_t, asg_p, AG.setAll, atI_0, atI_1, atI_2, atI_3, ixN_30, ixN_31, ixN_32, List.set_cons_zero, List.set_cons_succ, List.getElem?_set_self, List.length_set, Bool.and_eq_true, decide_eq_true_eq, decide_eq_false_iff_not, bne_iff_ne, bne_eq_false_iff_eq, Int.toNat_natCast]
      refine (hs S3 _ _ b3 (by omega)).mono fun d S4 ⟨e, m, hd, hp2, b4, f4⟩ => ?_
      subst hd
      refine ⟨ls ++ [(e, m)], by rw [e1]; unfold dPs; rw [List.map_append]; rfl, by rw [List.length_append, e2]; rfl, fun p hp => ?_, b4.up (by omega)⟩
      rcases List.mem_append.mp hp with z | z
      · exact e3 p z
      · rw [List.mem_singleton.mp z]
        exact hp2
    · rintro acc S3 hacc ⟨ls, e1, e2, e3, b3⟩
      rw [show (rngL 0 (Int.toNat 3)).length = 3 from rfl] at e2 b3
      subst e1
      try simp only [runF, exs, ex, ev, evs, evt, evo, evi, evc, ok_bnd, ok_ret', ok_getV, ok_getC, ok_setC, ok_opt, ok_need, ok_ite, ok_mkLf, ok_mkLt, ok_notB, List.map_cons, List.map_nil, List.replicate_zero, List.replicate_succ, List.length_cons, List.length_nil, List.cons_append, List.nil_append, Nat.reduceSub, Nat.reduceAdd, List.getElem?_cons_zero, List.getElem?_cons_succ, Option.some.injEq, exists_eq_left', ixD_i, setIx_ri, appD_r, isC_r, items_tup, items_lst, items_fro, items_ref, tru_b, tru_i, b_add, b_sub, b_mul, b_div, b_mod, b_pow, b_band, addD_ii, subD_ii, mulD_ii, modD_ii, divD_ii, powD_ii, bandD_ii, addD_tt, addD_ll, addD_fl, c_eq, c_ne, c_lt, c_le, c_gt, c_ge, c_is, c_isn, isD_bb, eqD_ii, eqD_ss, eqD_bb, ltD_ii, leD_ii, bi_len, bi_max, bi_min, bi_tup, bi_lst, bi_repr, bi_all, maxB_ii, minB_ii, lenB_1, tupB_1, lstB_1, reprB_1, allB_1, slD_t, slD_l, slD_f, slD_r, ints2_ii, popD_ri, dgetF_2, lset_t, lset_l, lset_r, AG.wipeD, asg_n, asg_t, asg_p, AG.setAll, atI_0, atI_1, atI_2, atI_3, ixN_30, ixN_31, ixN_32, List.set_cons_zero, List.set_cons_succ, List.getElem?_set_self, List.length_set, Bool.and_eq_true, decide_eq_true_eq, decide_eq_false_iff_not, bne_iff_ne, bne_eq_false_iff_eq, Int.toNat_natCast]
      have hk1 : S1.length < S3.length := b3.lt
      have c3 : (S3 ++ [some (dPs ls)])[S3.length]? = some (some (dPs ls)) := by rw [List.getElem?_append_right (Nat.le_refl _), Nat.sub_self]; rfl
      refine (hp _ _ _ 4 (b3.app _) (by omega) (by decide) (by decide)).mono fun d S4 ⟨t, hd, ht, b4, _, f4⟩ => ?_
      subst hd
      have c4 : S4[S3.length]? = some (some (dPs ls)) := by rw [f4.at_ _ (List.getElem?_eq_some_iff.mp c3).1 (by omega)]; exact c3
      simp only [runF, exs, ex, ev, evs, evt, evo, evi, evc, ok_bnd, ok_ret', ok_getV, ok_getC, ok_setC, ok_opt, ok_need, ok_ite, ok_mkLf, ok_mkLt, ok_notB, List.map_cons, List.map_nil, List.replicate_zero, List.replicate_succ, List.length_cons, List.length_nil, List.cons_append, List.nil_append, Nat.reduceSub, Nat.reduceAdd, List.getElem?_cons_zero, List.getElem?_cons_succ, Option.some.injEq, exists_eq_left', ixD_i, setIx_ri, appD_r, isC_r, items_tup, items_lst, items_fro, items_ref, tru_b, tru_i, b_add, b_sub, b_mul, b_div, b_mod, b_pow, b_band, addD_ii, subD_ii, mulD_ii, modD_ii, divD_ii, powD_ii, bandD_ii, addD_tt, addD_ll, addD_fl, c_eq, c_ne, c_lt, c_le, c_gt, c_ge, c_is, c_isn, isD_bb, eqD_ii, eqD_ss, eqD_bb, ltD_ii, leD_ii, bi_len, bi_max, bi_min, bi_tup, bi_lst, bi_repr, bi_all, maxB_ii, minB_ii, lenB_1, tupB_1, lstB_1, reprB_1, allB_1, slD_t, slD_l, slD_f, slD_r, ints2_ii, popD_ri, dgetF_2, lset_t, lset_l, lset_r, AG.wipeD, asg_n, asg_t, asg_p, AG.setAll, atI_0, atI_1, atI_2, atI_3, ixN_30, ixN_31, ixN_32, List.set_cons_zero, List.set_cons_succ, List.getElem?_set_self, List.length_set, Bool.and_eq_true, decide_eq_true_eq, decide_eq_false_iff_not, bne_iff_ne, bne_eq_false_iff_eq, Int.toNat_natCast]
      have go : ∀ (S5 : Sto) (ls : List (List Bool × List Bool)) (y4 y5 y6 y7 y8 : Option D), (∀ p ∈ ls, PrOk2 p.1 p.2) → ls.length ≤ 4 → S5[S3.length]? = some (some (dPs ls)) → Jar S5 S1.length 5000 → ∃ S', setlD [some (D.fro (ns.map D.int)), some (.int cell), some (.ref S1.length), some (.ref S3.length), y4, y5, y6, y7, y8] 3 S5 = .ok [some (D.fro (ns.map D.int)), some (.int cell), some (.ref S1.length), some (.lst (dPs ls)), y4, y5, y6, y7, y8] S' ∧ Jar S' S1.length 5000 := by
        intro S5 ls y4 y5 y6 y7 y8 h1 h2 h3 h4
        refine ⟨S5.set S3.length none, ?_, h4.set _ (by omega)⟩
        unfold setlD
        simp only [List.getElem?_cons_succ, List.getElem?_cons_zero, h3]
        rfl
      refine ⟨fun _ => ⟨_, c4, ?_⟩, fun _ => ?_⟩
      · refine (hg S4 _ _ b4 (by omega)).mono fun d S5 ⟨e, m, hd, hp2, b5, f5⟩ => ?_
        subst hd
        have c5 : S5[S3.length]? = some (some (dPs ls)) := by rw [f5.at_ _ (List.getElem?_eq_some_iff.mp c4).1 (by omega)]; exact c4
        refine ⟨_, c5, by unfold small dPs; rw [List.length_map, e2]; decide, _, c5, ?_⟩
        obtain ⟨ls', hls⟩ : ∃ ls', ls' = ls ++ [(e, m)] := ⟨_, rfl⟩
        have h1 : ∀ p ∈ ls', PrOk2 p.1 p.2 := fun p hp => by
          rw [hls] at hp
          rcases List.mem_append.mp hp with z | z
          · exact e3 p z
          · rw [List.mem_singleton.mp z]
            exact hp2
        have h2 : ls'.length ≤ 4 := by rw [hls, List.length_append, e2]; exact Nat.le_refl 4
        have h3 : (S5.set S3.length (some (dPs ls ++ [dPr2 e m])))[S3.length]? = some (some (dPs ls')) := by
          rw [set_at c5, hls]
          unfold dPs
          rw [List.map_append]
          rfl
        have h4 : Jar (S5.set S3.length (some (dPs ls ++ [dPr2 e m]))) S1.length 5000 := (b5.set _ (by omega)).up (by omega)
        obtain ⟨S6, hset, b6⟩ := go _ ls' x4 x5 x6 x7 x8 h1 h2 h3 h4
        rw [ok_of_run hset]
        refine ⟨_, rfl, ?_⟩
        simp only [runF, exs, ex, ev, evs, evt, evo, evi, evc, ok_bnd, ok_ret', ok_getV, ok_getC, ok_setC, ok_opt, ok_need, ok_ite, ok_mkLf, ok_mkLt, ok_notB, List.map_cons, List.map_nil, List.replicate_zero, List.replicate_succ, List.length_cons, List.length_nil, List.cons_append, List.nil_append, Nat.reduceSub, Nat.reduceAdd, List.getElem?_cons_zero, List.getElem?_cons_succ, Option.some.injEq, exists_eq_left', ixD_i, setIx_ri, appD_r, isC_r, items_tup, items_lst, items_fro, items_ref, tru_b, tru_i, b_add, b_sub, b_mul, b_div, b_mod, b_pow, b_band, addD_ii, subD_ii, mulD_ii, modD_ii, divD_ii, powD_ii, bandD_ii, addD_tt, addD_ll, addD_fl, c_eq, c_ne, c_lt, c_le, c_gt, c_ge, c_is, c_isn, isD_bb, eqD_ii, eqD_ss, eqD_bb, ltD_ii, leD_ii, bi_len, bi_max, bi_min, bi_tup, bi_lst, bi_repr, bi_all, maxB_ii, minB_ii, lenB_1, tupB_1, lstB_1, reprB_1, allB_1, slD_t, slD_l, slD_f, slD_r, ints2_ii, popD_ri, dgetF_2, lset_t, lset_l, lset_r, AG.wipeD, asg_n, asg_t, asg_p, AG.setAll, atI_0, atI_1, atI_2, atI_3, ixN_30, ixN_31, ixN_32, List.set_cons_zero, List.set_cons_succ, List.getElem?_set_self, List.length_set, Bool.and_eq_true, decide_eq_true_eq, decide_eq_false_iff_not, bne_iff_ne, bne_eq_false_iff_eq, Int.toNat_natCast]
        refine ok_for (fun i ρ S' => (∃ x5 x6 x7 x8, ρ = [some (D.fro (ns.map D.int)), some (.int cell), some (.ref S1.length), some (.lst (dPs ls')), x4, x5, x6, x7, x8]) ∧ Jar S' S1.length (5000 + i * 1000)) ⟨⟨_, _, _, _, rfl⟩, b6⟩ ?_ ?_
        · rintro i y ρ S7 hy ⟨⟨x5, x6, x7, x8, rfl⟩, b7⟩
          unfold dPs at hy
          have hil := (List.getElem?_eq_some_iff.mp hy).1
          rw [List.length_map] at hil
          rw [List.getElem?_map] at hy
          obtain ⟨p, hp9, rfl⟩ := Option.map_eq_some_iff.mp hy
          refine ⟨_, rfl, ?_⟩
          simp only [runF, exs, ex, ev, evs, evt, evo, evi, evc, ok_bnd, ok_ret', ok_getV, ok_getC, ok_setC, ok_opt, ok_need, ok_ite, ok_mkLf, ok_mkLt, ok_notB, List.map_cons, List.map_nil, List.replicate_zero, List.replicate_succ, List.length_cons, List.length_nil, List.cons_append, List.nil_append, Nat.reduceSub, Nat.reduceAdd, List.getElem?_cons_zero, List.getElem?_cons_succ, Option.some.injEq, exists_eq_left', ixD_i, setIx_ri, appD_r, isC_r, items_tup, items_lst, items_fro, items_ref, tru_b, tru_i, b_add, b_sub, b_mul, b_div, b_mod, b_pow, b_band, addD_ii, subD_ii, mulD_ii, modD_ii, divD_ii, powD_ii, bandD_ii, addD_tt, addD_ll, addD_fl, c_eq, c_ne, c_lt, c_le, c_gt, c_ge, c_is, c_isn, isD_bb, eqD_ii, eqD_ss, eqD_bb, ltD_ii, leD_ii, bi_len, bi_max, bi_min, bi_tup, bi_lst, bi_repr, bi_all, maxB_ii, minB_ii, lenB_1, tupB_1, lstB_1, reprB_1, allB_1, slD_t, slD_l, slD_f, slD_r, ints2_ii, popD_ri, dgetF_2, lset_t, lset_l, lset_r, AG.wipeD, asg_n, asg_t, asg_p, AG.setAll, atI_0, atI_1, atI_2, atI_3, ixN_30, ixN_31, ixN_32, List.set_cons_zero, List.set_cons_succ, List.getElem?_set_self, List.length_set, Bool.and_eq_true, decide_eq_true_eq, decide_eq_false_iff_not, bne_iff_ne, bne_eq_false_iff_eq, Int.toNat_natCast]
          refine (hf S7 p.1 p.2 (h1 p (List.mem_of_getElem? hp9))).mono fun d S8 ⟨T, e1, hT, _, e2⟩ => ?_
          subst e1 e2
          refine ⟨by decide, ?_⟩
          refine ok_for (fun q ρ S' => (∃ x8, ρ = [some (D.fro (ns.map D.int)), some (.int cell), some (.ref S1.length), some (.lst (dPs ls')), x4, some (.lst (bN p.1)), some (.lst (bN p.2)), some (dTi T), x8]) ∧ Jar S' S1.length (5000 + i * 1000 + q * 50)) ⟨⟨_, rfl⟩, b7⟩ ?_ ?_
          · rintro q z ρ S9 hz ⟨⟨x8, rfl⟩, b9⟩
            have hq4 : q < 4 := by
              have := (List.getElem?_eq_some_iff.mp hz).1
              rw [show (rngL 0 (Int.toNat 4)).length = 4 from rfl] at this
              exact this
            refine ⟨_, rfl, ?_⟩
            simp only [runF, exs, ex, ev, evs, evt, evo, evi, evc, ok_bnd, ok_ret', ok_getV, ok_getC, ok_setC, ok_opt, ok_need, ok_ite, ok_mkLf, ok_mkLt, ok_notB, List.map_cons, List.map_nil, List.replicate_zero, List.replicate_succ, List.length_cons, List.length_nil, List.cons_append, List.nil_append, Nat.reduceSub, Nat.reduceAdd, List.getElem?_cons_zero, List.getElem?_cons_succ, Option.some.injEq, exists_eq_left', ixD_i, setIx_ri, appD_r, isC_r, items_tup, items_lst, items_fro, items_ref, tru_b, tru_i, b_add, b_sub, b_mul, b_div, b_mod, b_pow, b_band, addD_ii, subD_ii, mulD_ii, modD_ii, divD_ii, powD_ii, bandD_ii, addD_tt, addD_ll, addD_fl, c_eq, c_ne, c_lt, c_le, c_gt, c_ge, c_is, c_isn, isD_bb, eqD_ii, eqD_ss, eqD_bb, ltD_ii, leD_ii, bi_len, bi_max, bi_min, bi_tup, bi_lst, bi_repr, bi_all, maxB_ii, minB_ii, lenB_1, tupB_1, lstB_1, reprB_1, allB_1, slD_t, slD_l, slD_f, slD_r, ints2_ii, popD_ri, dgetF_2, lset_t, lset_l, lset_r, AG.wipeD, asg_n, asg_t, asg_p, AG.setAll, atI_0, atI_1, atI_2, atI_3, ixN_30, ixN_31, ixN_32, List.set_cons_zero, List.set_cons_succ, List.getElem?_set_self, List.length_set, Bool.and_eq_true, decide_eq_true_eq, decide_eq_false_iff_not, bne_iff_ne, bne_eq_false_iff_eq, Int.toNat_natCast]
            refine (hk S9 _ _ T b9 (by omega) hT).mono fun d S10 ⟨e1, b10⟩ => ?_
            subst e1
            simp only [runF, exs, ex, ev, evs, evt, evo, evi, evc, ok_bnd, ok_ret', ok_getV, ok_getC, ok_setC, ok_opt, ok_need, ok_ite, ok_mkLf, ok_mkLt, ok_notB, List.map_cons, List.map_nil, List.replicate_zero, List.replicate_succ, List.length_cons, List.length_nil, List.cons_append, List.nil_append, Nat.reduceSub, Nat.reduceAdd, List.getElem?_cons_zero, List.getElem?_cons_succ, Option.some.injEq, exists_eq_left', ixD_i, setIx_ri, appD_r, isC_r, items_tup, items_lst, items_fro, items_ref, tru_b, tru_i, b_add, b_sub, b_mul, b_div, b_mod, b_pow, b_band, addD_ii, subD_ii, mulD_ii, modD_ii, divD_ii, powD_ii, bandD_ii, addD_tt, addD_ll, addD_fl, c_eq, c_ne, c_lt, c_le, c_gt, c_ge, c_is, c_isn, isD_bb, eqD_ii, eqD_ss, eqD_bb, ltD_ii, leD_ii, bi_len, bi_max, bi_min, bi_tup, bi_lst, bi_repr, bi_all, maxB_ii, minB_ii, lenB_1, tupB_1, lstB_1, reprB_1, allB_1, slD_t, slD_l, slD_f, slD_r, ints2_ii, popD_ri, dgetF_2, lset_t, lset_l, lset_r, AG.wipeD, asg_n, asg_t, asg_p, AG.setAll, atI_0, atI_1, atI_2, atI_3, ixN_30, ixN_31, ixN_32, List.set_cons_zero, List.set_cons_succ, List.getElem?_set_self, List.length_set, Bool.and_eq_true, decide_eq_true_eq, decide_eq_false_iff_not, bne_iff_ne, bne_eq_false_iff_eq, Int.toNat_natCast]
            refine ⟨fun h => absurd h (by decide), fun _ => ?_⟩
            refine (hb S10 _ _ T b10 (by omega) hT).mono fun d S11 ⟨e1, b11⟩ => ?_
            subst e1
            simp only [runF, exs, ex, ev, evs, evt, evo, evi, evc, ok_bnd, ok_ret', ok_getV, ok_getC, ok_setC, ok_opt, ok_need, ok_ite, ok_mkLf, ok_mkLt, ok_notB, List.map_cons, List.map_nil, List.replicate_zero, List.replicate_succ, List.length_cons, List.length_nil, List.cons_append, List.nil_append, Nat.reduceSub, Nat.reduceAdd, List.getElem?_cons_zero, List.getElem?_cons_succ, Option.some.injEq, exists_eq_left', ixD_i, setIx_ri, appD_r, isC_r, items_tup, items_lst, items_fro, items_ref, tru_b, tru_i, b_add, b_sub, b_mul, b_div, b_mod, b_pow, b_band, addD_ii, subD_ii, mulD_ii, modD_ii, divD_ii, powD_ii, bandD_ii, addD_tt, addD_ll, addD_fl, c_eq, c_ne, c_lt, c_le, c_gt, c_ge, c_is, c_isn, isD_bb, eqD_ii, eqD_ss, eqD_bb, ltD_ii, leD_ii, bi_len, bi_max, bi_min, bi_tup, bi_lst, bi_repr, bi_all, maxB_ii, minB_ii, lenB_1, tupB_1, lstB_1, reprB_1, allB_1, slD_t, slD_l, slD_f, slD_r, ints2_ii, popD_ri, dgetF_2, lset_t, lset_l, lset_r, AG.wipeD, asg_n, asg_t, asg_p, AG.setAll, atI_0, atI_1, atI_2, atI_3, ixN_30, ixN_31, ixN_32, List.set_cons_zero, List.set_cons_succ, List.getElem?_set_self, List.length_set, Bool.and_eq_true, decide_eq_true_eq, decide_eq_false_iff_not, bne_iff_ne, bne_eq_false_iff_eq, Int.toNat_natCast]
            exact ⟨fun h => absurd h (by decide), fun _ => ⟨⟨_, rfl⟩, b11.up (by omega)⟩⟩
          · rintro ρ S9 ⟨⟨x8, rfl⟩, b9⟩
            rw [show (rngL 0 (Int.toNat 4)).length = 4 from rfl] at b9
            simp only [runF, exs, ex, ev, evs, evt, evo, evi, evc, ok_bnd, ok_ret', ok_getV, ok_getC, ok_setC, ok_opt, ok_need, ok_ite, ok_mkLf, ok_mkLt, ok_notB, List.map_cons, List.map_nil, List.replicate_zero, List.replicate_succ, List.length_cons, List.length_nil, List.cons_append, List.nil_append, Nat.reduceSub, Nat.reduceAdd, List.getElem?_cons_zero, List.getElem?_cons_succ, Option.some.injEq, exists_eq_left', ixD_i, setIx_ri, appD_r, isC_r, items_tup, items_lst, items_fro, items_ref, tru_b, tru_i, b_add, b_sub, b_mul, b_div, b_mod, b_pow, b_band, addD_ii, subD_ii, mulD_ii, modD_ii, divD_ii, powD_ii, bandD_ii, addD_tt, addD_ll, addD_fl, c_eq, c_ne, c_lt, c_le, c_gt, c_ge, c_is, c_isn, isD_bb, eqD_ii, eqD_ss, eqD_bb, ltD_ii, leD_ii, bi_len, bi_max, bi_min, bi_tup, bi_lst, bi_repr, bi_all, maxB_ii, minB_ii, lenB_1, tupB_1, lstB_1, reprB_1, allB_1, slD_t, slD_l, slD_f, slD_r, ints2_ii, popD_ri, dgetF_2, lset_t, lset_l, lset_r, AG.wipeD, asg_n, asg_t, asg_p, AG.setAll, atI_0, atI_1, atI_2, atI_3, ixN_30, ixN_31, ixN_32, List.set_cons_zero, List.set_cons_succ, List.getElem?_set_self, List.length_set, Bool.and_eq_true, decide_eq_true_eq, decide_eq_false_iff_not, bne_iff_ne, bne_eq_false_iff_eq, Int.toNat_natCast]
            exact ⟨⟨_, _, _, _, rfl⟩, b9.up (by omega)⟩
        · rintro ρ S7 ⟨⟨x5, x6, x7, x8, rfl⟩, b7⟩
          simp only [runF, exs, ex, ev, evs, evt, evo, evi, evc, ok_bnd, ok_ret', ok_getV, ok_getC, ok_setC, ok_opt, ok_need, ok_ite, ok_mkLf, ok_mkLt, ok_notB, List.map_cons, List.map_nil, List.replicate_zero, List.replicate_succ, List.length_cons, List.length_nil, List.cons_append, List.nil_append, Nat.reduceSub, Nat.reduceAdd, List.getElem?_cons_zero, List.getElem?_cons_succ, Option.some.injEq, exists_eq_left', ixD_i, setIx_ri, appD_r, isC_r, items_tup, items_lst, items_fro, items_ref, tru_b, tru_i, b_add, b_sub, b_mul, b_div, b_mod, b_pow, b_band, addD_ii, subD_ii, mulD_ii, modD_ii, divD_ii, powD_ii, bandD_ii, addD_tt, addD_ll, addD_fl, c_eq, c_ne, c_lt, c_le, c_gt, c_ge, c_is, c_isn, isD_bb, eqD_ii, eqD_ss, eqD_bb, ltD_ii, leD_ii, bi_len, bi_max, bi_min, bi_tup, bi_lst, bi_repr, bi_all, maxB_ii, minB_ii, lenB_1, tupB_1, lstB_1, reprB_1, allB_1, slD_t, slD_l, slD_f, slD_r, ints2_ii, popD_ri, dgetF_2, lset_t, lset_l, lset_r, AG.wipeD, asg_n, asg_t, asg_p, AG.setAll, atI_0, atI_1, atI_2, atI_3, ixN_30, ixN_31, ixN_32, List.set_cons_zero, List.set_cons_succ, List.getElem?_set_self, List.length_set, Bool.and_eq_true, decide_eq_true_eq, decide_eq_false_iff_not, bne_iff_ne, bne_eq_false_iff_eq, Int.toNat_natCast]
          exact ⟨_, _, _, _, _, _, _, _, rfl⟩
      · obtain ⟨ls', hls⟩ : ∃ ls', ls' = ls := ⟨_, rfl⟩
        rw [← hls] at e2 e3 c4
        have h1 := e3
        have h2 : ls'.length ≤ 4 := by omega
        have h3 := c4
        have h4 : Jar S4 S1.length 5000 := b4.up (by omega)
        obtain ⟨S6, hset, b6⟩ := go _ ls' x4 x5 x6 x7 x8 h1 h2 h3 h4
        rw [ok_of_run hset]
        refine ⟨_, rfl, ?_⟩
        simp only [runF, exs, ex, ev, evs, evt, evo, evi, evc, ok_bnd, ok_ret', ok_getV, ok_getC, ok_setC, ok_opt, ok_need, ok_ite, ok_mkLf, ok_mkLt, ok_notB, List.map_cons, List.map_nil, List.replicate_zero, List.replicate_succ, List.length_cons, List.length_nil, List.cons_append, List.nil_append, Nat.reduceSub, Nat.reduceAdd, List.getElem?_cons_zero, List.getElem?_cons_succ, Option.some.injEq, exists_eq_left', ixD_i, setIx_ri, appD_r, isC_r, items_tup, items_lst, items_fro, items_ref, tru_b, tru_i, b_add, b_sub, b_mul, b_div, b_mod, b_pow, b_band, addD_ii, subD_ii, mulD_ii, modD_ii, divD_ii, powD_ii, bandD_ii, addD_tt, addD_ll, addD_fl, c_eq, c_ne, c_lt, c_le, c_gt, c_ge, c_is, c_isn, isD_bb, eqD_ii, eqD_ss, eqD_bb, ltD_ii, leD_ii, bi_len, bi_max, bi_min, bi_tup, bi_lst, bi_repr, bi_all, maxB_ii, minB_ii, lenB_1, tupB_1, lstB_1, reprB_1, allB_1, slD_t, slD_l, slD_f, slD_r, ints2_ii, popD_ri, dgetF_2, lset_t, lset_l, lset_r, AG.wipeD, asg_n, asg_t, asg_p, AG.setAll, atI_0, atI_1, atI_2, atI_3, ixN_30, ixN_31, ixN_32, List.set_cons_zero, List.set_cons_succ, List.getElem?_set_self, List.length_set, Bool.and_eq_true, decide_eq_true_eq, decide_eq_false_iff_not, bne_iff_ne, bne_eq_false_iff_eq, Int.toNat_natCast]
        refine ok_for (fun i ρ S' => (∃ x5 x6 x7 x8, ρ = [some (D.fro (ns.map D.int)), some (.int cell), some (.ref S1.length), some (.lst (dPs ls')), x4, x5, x6, x7, x8]) ∧ Jar S' S1.length (5000 + i * 1000)) ⟨⟨_, _, _, _, rfl⟩, b6⟩ ?_ ?_
        · rintro i y ρ S7 hy ⟨⟨x5, x6, x7, x8, rfl⟩, b7⟩
          unfold dPs at hy
          have hil := (List.getElem?_eq_some_iff.mp hy).1
          rw [List.length_map] at hil
          rw [List.getElem?_map] at hy
          obtain ⟨p, hp9, rfl⟩ := Option.map_eq_some_iff.mp hy
          refine ⟨_, rfl, ?_⟩
          simp only [runF, exs, ex, ev, evs, evt, evo, evi, evc, ok_bnd, ok_ret', ok_getV, ok_getC, ok_setC, ok_opt, ok_need, ok_ite, ok_mkLf, ok_mkLt, ok_notB, List.map_cons, List.map_nil, List.replicate_zero, List.replicate_succ, List.length_cons, List.length_nil, List.cons_append, List.nil_append, Nat.reduceSub, Nat.reduceAdd, List.getElem?_cons_zero, List.getElem?_cons_succ, Option.some.injEq, exists_eq_left', ixD_i, setIx_ri, appD_r, isC_r, items_tup, items_lst, items_fro, items_ref, tru_b, tru_i, b_add, b_sub, b_mul, b_div, b_mod, b_pow, b_band, addD_ii, subD_ii, mulD_ii, modD_ii, divD_ii, powD_ii, bandD_ii, addD_tt, addD_ll, addD_fl, c_eq, c_ne, c_lt, c_le, c_gt, c_ge, c_is, c_isn, isD_bb, eqD_ii, eqD_ss, eqD_bb, ltD_ii, leD_ii, bi_len, bi_max, bi_min, bi_tup, bi_lst, bi_repr, bi_all, maxB_ii, minB_ii, lenB_1, tupB_1, lstB_1, reprB_1, allB_1, slD_t, slD_l, slD_f, slD_r, ints2_ii, popD_ri, dgetF_2, lset_t, lset_l, lset_r, AG.wipeD, asg_n, asg_t, asg_p, AG.setAll, atI_0, atI_1, atI_2, atI_3, ixN_30, ixN_31, ixN_32, List.set_cons_zero, List.set_cons_succ, List.getElem?_set_self, List.length_set, Bool.and_eq_true, decide_eq_true_eq, decide_eq_false_iff_not, bne_iff_ne, bne_eq_false_iff_eq, Int.toNat_natCast]
          refine (hf S7 p.1 p.2 (h1 p (List.mem_of_getElem? hp9))).mono fun d S8 ⟨T, e1, hT, _, e2⟩ => ?_
          subst e1 e2
          refine ⟨by decide, ?_⟩
          refine ok_for (fun q ρ S' => (∃ x8, ρ = [some (D.fro (ns.map D.int)), some (.int cell), some (.ref S1.length), some (.lst (dPs ls')), x4, some (.lst (bN p.1)), some (.lst (bN p.2)), some (dTi T), x8]) ∧ Jar S' S1.length (5000 + i * 1000 + q * 50)) ⟨⟨_, rfl⟩, b7⟩ ?_ ?_
          · rintro q z ρ S9 hz ⟨⟨x8, rfl⟩, b9⟩
            have hq4 : q < 4 := by
              have := (List.getElem?_eq_some_iff.mp hz).1
              rw [show (rngL 0 (Int.toNat 4)).length = 4 from rfl] at this
              exact this
            refine ⟨_, rfl, ?_⟩
            simp only [runF, exs, ex, ev, evs, evt, evo, evi, evc, ok_bnd, ok_ret', ok_getV, ok_getC, ok_setC, ok_opt, ok_need, ok_ite, ok_mkLf, ok_mkLt, ok_notB, List.map_cons, List.map_nil, List.replicate_zero, List.replicate_succ, List.length_cons, List.length_nil, List.cons_append, List.nil_append, Nat.reduceSub, Nat.reduceAdd, List.getElem?_cons_zero, List.getElem?_cons_succ, Option.some.injEq, exists_eq_left', ixD_i, setIx_ri, appD_r, isC_r, items_tup, items_lst, items_fro, items_ref, tru_b, tru_i, b_add, b_sub, b_mul, b_div, b_mod, b_pow, b_band, addD_ii, subD_ii, mulD_ii, modD_ii, divD_ii, powD_ii, bandD_ii, addD_tt, addD_ll, addD_fl, c_eq, c_ne, c_lt, c_le, c_gt, c_ge, c_is, c_isn, isD_bb, eqD_ii, eqD_ss, eqD_bb, ltD_ii, leD_ii, bi_len, bi_max, bi_min, bi_tup, bi_lst, bi_repr, bi_all, maxB_ii, minB_ii, lenB_1, tupB_1, lstB_1, reprB_1, allB_1, slD_t, slD_l, slD_f, slD_r, ints2_ii, popD_ri, dgetF_2, lset_t, lset_l, lset_r, AG.wipeD, asg_n, asg_t, asg_p, AG.setAll, atI_0, atI_1, atI_2, atI_3, ixN_30, ixN_31, ixN_32, List.set_cons_zero, List.set_cons_succ, List.getElem?_set_self, List.length_set, Bool.and_eq_true, decide_eq_true_eq, decide_eq_false_iff_not, bne_iff_ne, bne_eq_false_iff_eq, Int.toNat_natCast]
            refine (hk S9 _ _ T b9 (by omega) hT).mono fun d S10 ⟨e1, b10⟩ => ?_
            subst e1
            simp only [runF, exs, ex, ev, evs, evt, evo, evi, evc, ok_bnd, ok_ret', ok_getV, ok_getC, ok_setC, ok_opt, ok_need, ok_ite, ok_mkLf, ok_mkLt, ok_notB, List.map_cons, List.map_nil, List.replicate_zero, List.replicate_succ, List.length_cons, List.length_nil, List.cons_append, List.nil_append, Nat.reduceSub, Nat.reduceAdd, List.getElem?_cons_zero, List.getElem?_cons_succ, Option.some.injEq, exists_eq_left', ixD_i, setIx_ri, appD_r, isC_r, items_tup, items_lst, items_fro, items_ref, tru_b, tru_i, b_add, b_sub, b_mul, b_div, b_mod, b_pow, b_band, addD_ii, subD_ii, mulD_ii, modD_ii, divD_ii, powD_ii, bandD_ii, addD_tt, addD_ll, addD_fl, c_eq, c_ne, c_lt, c_le, c_gt, c_ge, c_is, c_isn, isD_bb, eqD_ii, eqD_ss, eqD_bb, ltD_ii, leD_ii, bi_len, bi_max, bi_min, bi_tup, bi_lst, bi_repr, bi_all, maxB_ii, minB_ii, lenB_1, tupB_1, lstB_1, reprB_1, allB_1, slD_t, slD_l, slD_f, slD_r, ints2_ii, popD_ri, dgetF_2, lset_t, lset_l, lset_r, AG.wipeD, asg_n, asg_t, asg_p, AG.setAll, atI_0, atI_1, atI_2, atI_3, ixN_30, ixN_31, ixN_32, List.set_cons_zero, List.set_cons_succ, List.getElem?_set_self, List.length_set, Bool.and_eq_true, decide_eq_true_eq, decide_eq_false_iff_not, bne_iff_ne, bne_eq_false_iff_eq, Int.toNat_natCast]
            refine ⟨fun h => absurd h (by decide), fun _ => ?_⟩
            refine (hb S10 _ _ T b10 (by omega) hT).mono fun d S11 ⟨e1, b11⟩ => ?_
            subst e1
            simp only [runF, exs, ex, ev, evs, evt, evo, evi, evc, ok_bnd, ok_ret', ok_getV, ok_getC, ok_setC, ok_opt, ok_need, ok_ite, ok_mkLf, ok_mkLt, ok_notB, List.map_cons, List.map_nil, List.replicate_zero, List.replicate_succ, List.length_cons, List.length_nil, List.cons_append, List.nil_append, Nat.reduceSub, Nat.reduceAdd, List.getElem?_cons_zero, List.getElem?_cons_succ, Option.some.injEq, exists_eq_left', ixD_i, setIx_ri, appD_r, isC_r, items_tup, items_lst, items_fro, items_ref, tru_b, tru_i, b_add, b_sub, b_mul, b_div, b_mod, b_pow, b_band, addD_ii, subD_ii, mulD_ii, modD_ii, divD_ii, powD_ii, bandD_ii, addD_tt, addD_ll, addD_fl, c_eq, c_ne, c_lt, c_le, c_gt, c_ge, c_is, c_isn, isD_bb, eqD_ii, eqD_ss, eqD_bb, ltD_ii, leD_ii, bi_len, bi_max, bi_min, bi_tup, bi_lst, bi_repr, bi_all, maxB_ii, minB_ii, lenB_1, tupB_1, lstB_1, reprB_1, allB_1, slD_t, slD_l, slD_f, slD_r, ints2_ii, popD_ri, dgetF_2, lset_t, lset_l, lset_r, AG.wipeD, asg_n, asg_t, asg_p, AG.setAll, atI_0, atI_1, atI_2, atI_3, ixN_30, ixN_31, ixN_32, List.set_cons_zero, List.set_cons_succ, List.getElem?_set_self, List.length_set, Bool.and_eq_true, decide_eq_true_eq, decide_eq_false_iff_not, bne_iff_ne, bne_eq_false_iff_eq, Int.toNat_natCast]
            exact ⟨fun h => absurd h (by decide), fun _ => ⟨⟨_, rfl⟩, b11.up (by omega)⟩⟩
          · rintro ρ S9 ⟨⟨x8, rfl⟩, b9⟩
            rw [show (rngL 0 (Int.toNat 4)).length = 4 from rfl] at b9
            simp only [runF, exs, ex, ev, evs, evt, evo, evi, evc, ok_bnd, ok_ret', ok_getV, ok_getC, ok_setC, ok_opt, ok_need, ok_ite, ok_mkLf, ok_mkLt, ok_notB, List.map_cons, List.map_nil, List.replicate_zero, List.replicate_succ, List.length_cons, List.length_nil, List.cons_append, List.nil_append, Nat.reduceSub, Nat.reduceAdd, List.getElem?_cons_zero, List.getElem?_cons_succ, Option.some.injEq, exists_eq_left', ixD_i, setIx_ri, appD_r, isC_r, items_tup, items_lst, items_fro, items_ref, tru_b, tru_i, b_add, b_sub, b_mul, b_div, b_mod, b_pow, b_band, addD_ii, subD_ii, mulD_ii, modD_ii, divD_ii, powD_ii, bandD_ii, addD_tt, addD_ll, addD_fl, c_eq, c_ne, c_lt, c_le, c_gt, c_ge, c_is, c_isn, isD_bb, eqD_ii, eqD_ss, eqD_bb, ltD_ii, leD_ii, bi_len, bi_max, bi_min, bi_tup, bi_lst, bi_repr, bi_all, maxB_ii, minB_ii, lenB_1, tupB_1, lstB_1, reprB_1, allB_1, slD_t, slD_l, slD_f, slD_r, ints2_ii, popD_ri, dgetF_2, lset_t, lset_l, lset_r, AG.wipeD, asg_n, asg_t, asg_p, AG.setAll, atI_0, atI_1, atI_2, atI_3, ixN_30, ixN_31, ixN_32, List.set_cons_zero, List.set_cons_succ, List.getElem?_set_self, List.length_set, Bool.and_eq_true, decide_eq_true_eq, decide_eq_false_iff_not, bne_iff_ne, bne_eq_false_iff_eq, Int.toNat_natCast]
            exact ⟨⟨_, _, _, _, rfl⟩, b9.up (by omega)⟩
        · rintro ρ S7 ⟨⟨x5, x6, x7, x8, rfl⟩, b7⟩
          simp only [runF, exs, ex, ev, evs, evt, evo, evi, evc, ok_bnd, ok_ret', ok_getV, ok_getC, ok_setC, ok_opt, ok_need, ok_ite, ok_mkLf, ok_mkLt, ok_notB, List.map_cons, List.map_nil, List.replicate_zero, List.replicate_succ, List.length_cons, List.length_nil, List.cons_append, List.nil_append, Nat.reduceSub, Nat.reduceAdd, List.getElem?_cons_zero, List.getElem?_cons_succ, Option.some.injEq, exists_eq_left', ixD_i, setIx_ri, appD_r, isC_r, items_tup, items_lst, items_fro, items_ref, tru_b, tru_i, b_add, b_sub, b_mul, b_div, b_mod, b_pow, b_band, addD_ii, subD_ii, mulD_ii, modD_ii, divD_ii, powD_ii, bandD_ii, addD_tt, addD_ll, addD_fl, c_eq, c_ne, c_lt, c_le, c_gt, c_ge, c_is, c_isn, isD_bb, eqD_ii, eqD_ss, eqD_bb, ltD_ii, leD_ii, bi_len, bi_max, bi_min, bi_tup, bi_lst, bi_repr, bi_all, maxB_ii, minB_ii, lenB_1, tupB_1, lstB_1, reprB_1, allB_1, slD_t, slD_l, slD_f, slD_r, ints2_ii, popD_ri, dgetF_2, lset_t, lset_l, lset_r, AG.wipeD, asg_n, asg_t, asg_p, AG.setAll, atI_0, atI_1, atI_2, atI_3, ixN_30, ixN_31, ixN_32, List.set_cons_zero, List.set_cons_succ, List.getElem?_set_self, List.length_set, Bool.and_eq_true, decide_eq_true_eq, decide_eq_false_iff_not, bne_iff_ne, bne_eq_false_iff_eq, Int.toNat_natCast]
          exact ⟨_, _, _, _, _, _, _, _, rfl⟩
  · rintro ρ S1 ⟨x1, x2, x3, x4, x5, x6, x7, x8, rfl⟩
    try simp only [runF, exs, ex, ev, evs, evt, evo, evi, evc, ok_bnd, ok_ret', ok_getV, ok_getC, ok_setC, ok_opt, ok_need, ok_ite, ok_mkLf, ok_mkLt, ok_notB, List.map_cons, List.map_nil, List.replicate_zero, List.replicate_succ, List.length_cons, List.length_nil, List.cons_append, List.nil_append, Nat.reduceSub, Nat.reduceAdd, List.getElem?_cons_zero, List.getElem?_cons_succ, Option.some.injEq, exists_eq_left', ixD_i, setIx_ri, appD_r, isC_r, items_tup, items_lst, items_fro, items_ref, tru_b, tru_i, b_add, b_sub, b_mul, b_div, b_mod, b_pow, b_band, addD_ii, subD_ii, mulD_ii, modD_ii, divD_ii, powD_ii, bandD_ii, addD_tt, addD_ll, addD_fl, c_eq, c_ne, c_lt, c_le, c_gt, c_ge, c_is, c_isn, isD_bb, eqD_ii, eqD_ss, eqD_bb, ltD_ii, leD_ii, bi_len, bi_max, bi_min, bi_tup, bi_lst, bi_repr, bi_all, maxB_ii, minB_ii, lenB_1, tupB_1, lstB_1, reprB_1, allB_1, slD_t, slD_l, slD_f, slD_r, ints2_ii, popD_ri, dgetF_2, lset_t, lset_l, lset_r, AG.wipeD, asg_n, asg_t, asg_p, AG.setAll, atI_0, atI_1, atI_2, atI_3, ixN_30, ixN_31, ixN_32, List.set_cons_zero, List.set_cons_succ, List.getElem?_set_self, List.length_set, Bool.and_eq_true, decide_eq_true_eq, decide_eq_false_iff_not, bne_iff_ne, bne_eq_false_iff_eq, Int.toNat_natCast]
end
/-! ### the table -/
abbrev LV : Nat := 12
abbrev FU : Nat := 200000
theorem w_jar (l : Nat) : JarW (Phi FU TT (l + 1) "_law_jar") := by rw [phib_law_jar]; exact jar_run
theorem w_dip (l : Nat) : Dip2W (Phi FU TT (l + 1) "_law_dip") := by rw [phib_law_dip]; exact dip2_run
theorem w_tru (l : Nat) : TruW (Phi FU TT (l + 2) "_law_truths") := by rw [phib_law_truths]; exact tru_run (w_dip l)
theorem w_som (l : Nat) : SomW (Phi FU TT (l + 3) "_law_some") := by rw [phib_law_some]; exact som_run (w_dip (l + 1)) (w_tru l)
theorem w_gre (l : Nat) : GreFW (Phi FU TT (l + 2) "_law_great") := by rw [phib_law_great]; exact gref_run (w_dip l)
theorem w_far (l : Nat) : FarJW (Phi FU TT (l + 2) "_law_far") := by rw [phib_law_far]; exact farj_run (w_dip l)
theorem w_cnt (l : Nat) : CntW (Phi FU TT (l + 1) "_count") := by rw [phib_count]; exact cnt_run (Nat.le_refl _)
theorem w_cbr (l : Nat) : CbrW (Phi FU TT (l + 2) "_count_by_rests") := by rw [phib_count_by_rests]; exact cbr_run (w_cnt l)
theorem w_mea (l : Nat) : MeaW (Phi FU TT (l + 2) "is_meant") := by rw [phib_is_meant]; exact mea_run (w_cnt l)
theorem w_cbl (l : Nat) : CblW (Phi FU TT (l + 3) "count_below") := by rw [phib_count_below]; exact cbl_run (w_cnt (l + 1)) (w_cbr l)
theorem w_kth (l : Nat) : KthW (Phi FU TT (l + 3) "kth") := by rw [phib_kth]; exact kth_run (w_cbr l)
theorem w_frm (l : Nat) : FrmW (Phi FU TT (l + 1) "_law_form") := by rw [phib_law_form]; exact frm_run (Nat.le_refl _)
theorem w_kks (l : Nat) : KksW (Phi FU TT (l + 4) "_law_kths_right") := by rw [phib_law_kths_right]; exact kks_run (w_dip (l + 2)) (w_far (l + 1)) (w_mea (l + 1)) (w_cbl l) (w_kth l)
theorem w_btw (l : Nat) : BtwW (Phi FU TT (l + 4) "_law_between_right") := by rw [phib_law_between_right]; exact btw_run (w_dip (l + 2)) (w_far (l + 1)) (w_mea (l + 1)) (w_cbl l) (w_kth l)
theorem law_true (ns : List Int) (h : ns.length ≤ 63) : ∃ S', Phi FU TT (LV + 1) "law" [.fro (ns.map D.int)] [] = .ok (.bl true) S' := by
  rw [phib_law]
  obtain ⟨d, S', e, hd⟩ := law_run (Φ := Phi FU TT 12) (fu := FU) (w_jar 11) (w_dip 11) (w_som 9) (w_gre 10) (w_frm 11) (w_kks 8) (w_btw 8) ns h []
  subst hd
  exact ⟨S', e⟩
end AGL
open PySem PySem.W PyProof.Rows
set_option maxHeartbeats 0 in
theorem PySem.Challenge.cw_agohands_k32_whole_counts_and_kths_holds : PySem.Challenge.rw_agohands_k32_whole_counts_and_kths.Holds := by
  w_on; o_law; k_head; (case hw => w_witness2)
  k_fill
  refine AG.g_walk (l := PySem.Challenge.rw_agohands_k32_whole_counts_and_kths) (n := 63) (k := 2 * AGL.LV + 2) (x := "script") (sp := fun w => AG.spF _ 1 (AG.Phi AGL.FU AGL.TT (AGL.LV + 1) "law")) rfl (by decide) rfl ⟨rfl, by decide, by decide⟩ (fun w h Y => PySem.W.kIn_of Y) ?F (fun _ _ a ns hl hO hS => AG.law_word hO hS (AGL.law_true ns hl))
  case F =>
    intro w mg fa h KX G hmg
    refine' AGL.all_mk KX G hmg ?a0 ?l0 ?c0 ?k0 ?a1 ?l1 ?c1 ?k1 ?a2 ?l2 ?c2 ?k2 ?a3 ?l3 ?c3 ?k3 ?a4 ?l4 ?c4 ?k4 ?a5 ?l5 ?c5 ?k5 ?a6 ?l6 ?c6 ?k6 ?a7 ?l7 ?c7 ?k7 ?a8 ?l8 ?c8 ?k8 ?a9 ?l9 ?c9 ?k9 ?a10 ?l10 ?c10 ?k10 ?a11 ?l11 ?c11 ?k11 ?a12 ?l12 ?c12 ?k12 ?a13 ?l13 ?c13 ?k13 ?a14 ?l14 ?c14 ?k14 ?z0 ?z1 ?z2 ?z3 ?z4 ?z5 AGL.FU AGL.LV
    (case a0 => k_is)
    (case l0 => k_is)
    (case c0 => k_is)
    (case k0 => k_is)
    (case a1 => k_is)
    (case l1 => k_is)
    (case c1 => k_is)
    (case k1 => k_is)
    (case a2 => k_is)
    (case l2 => k_is)
    (case c2 => k_is)
    (case k2 => k_is)
    (case a3 => k_is)
    (case l3 => k_is)
    (case c3 => k_is)
    (case k3 => k_is)
    (case a4 => k_is)
    (case l4 => k_is)
    (case c4 => k_is)
    (case k4 => k_is)
    (case a5 => k_is)
    (case l5 => k_is)
    (case c5 => k_is)
    (case k5 => k_is)
    (case a6 => k_is)
    (case l6 => k_is)
    (case c6 => k_is)
    (case k6 => k_is)
    (case a7 => k_is)
    (case l7 => k_is)
    (case c7 => k_is)
    (case k7 => k_is)
    (case a8 => k_is)
    (case l8 => k_is)
    (case c8 => k_is)
    (case k8 => k_is)
    (case a9 => k_is)
    (case l9 => k_is)
    (case c9 => k_is)
    (case k9 => k_is)
    (case a10 => k_is)
    (case l10 => k_is)
    (case c10 => k_is)
    (case k10 => k_is)
    (case a11 => k_is)
    (case l11 => k_is)
    (case c11 => k_is)
    (case k11 => k_is)
    (case a12 => k_is)
    (case l12 => k_is)
    (case c12 => k_is)
    (case k12 => k_is)
    (case a13 => k_is)
    (case l13 => k_is)
    (case c13 => k_is)
    (case k13 => k_is)
    (case a14 => k_is)
    (case l14 => k_is)
    (case c14 => k_is)
    (case k14 => k_is)
    (case z0 => k_is)
    (case z1 => k_is)
    (case z2 => k_is)
    (case z3 => k_is)
    (case z4 => k_is)
    (case z5 => k_is)
