import PyProof.Rows.All
import Wide.All
import OpenK.AllK
import Wide.FinOn
import PySem.Syntax
import PySem.PyData
import PyProof.ReprReads
import PyProof.P3Statements
import PyProof.EqLayable
import HandS.Wide
import HandS.List
import HandS.ForMost
import HandS.Conv
import HandS.TupAny
import HandS.TupMul
import HandS.Style
import HandS.IsInst
import HandS.Zip
import HandS.RaiseMore
import HandS.Deep
import PyProof.FitsInt
import HandS.SortInts
import PyProof.StrLawsRepr
import PyProof.TypeEq
import PyProof.TypeOfCall
import KE.GoesEnum
import KE.DataFind
import HandS.Dict
import HandS.HeadWalk
import HandS.Star
import HandS.Text
import PyProof.StrOps2
import HandS.Gcd
import KE.KMathGC
import HandS.SortKw
import KE.DatumOrd
import HandS.Defaults
import PySem.Challenge.RW_agohands_k17_whole_one_step_back
set_option Elab.async false
set_option linter.all false
set_option maxRecDepth 100000
set_option maxHeartbeats 1000000
/-! Words of a small program over plain data: its data, its trees, how they run. -/
namespace AG
open PySem

/-- data: tuples and settled lists are trees; ref k is the k-th cell of the store (a list that may change) -/
inductive Ky where
  | i (i : Int) | s (s : Str) | t (is : List Int)
  deriving DecidableEq, Inhabited
/-- data; cells of the store: ref k a list, obj c k an object of the class c, dct t k a dict (t: its keys are tuples) -/
inductive D where
  | non | bl (b : Bool) | int (i : Int) | str (s : Str) | tup (xs : List D) | lst (xs : List D) | fro (xs : List D) | ref (k : Nat) | ty (n : String)
  | dic (t : Bool) (ks : List Ky) (vs : List D) | obj (c : String) (k : Nat) | dct (t : Bool) (k : Nat) | set (is : List Int) | exc (c : String)
  deriving Inhabited
abbrev Sto := List (Option (List D))
abbrev Env := List (Option D)
inductive Rs (α : Type) where
  | bad | ok (a : α) (S : Sto) | exc (c : String) (S : Sto)
abbrev M (α : Type) := Sto → Rs α
def ret {α : Type} (a : α) : M α := fun S => .ok a S
def bad {α : Type} : M α := fun _ => .bad
def Rs.then {α β : Type} (r : Rs α) (f : α → M β) : Rs β := match r with
  | .bad => .bad
  | .ok a S => f a S
  | .exc c S => .exc c S
def bnd {α β : Type} (m : M α) (f : α → M β) : M β := fun S => (m S).then f
theorem bnd_ok {α β : Type} {m : M α} {f : α → M β} {S : Sto} {b : β} {S' : Sto} (h : bnd m f S = .ok b S') : ∃ a S1, m S = .ok a S1 ∧ f a S1 = .ok b S' := by
  unfold bnd at h
  cases e : m S with
  | bad => rw [e] at h; cases h
  | ok a S1 => rw [e] at h; exact ⟨a, S1, rfl, h⟩
  | exc c S1 => rw [e] at h; cases h
theorem bnd_exc {α β : Type} {m : M α} {f : α → M β} {S : Sto} {c : String} {S' : Sto} (h : bnd m f S = .exc c S') : m S = .exc c S' ∨ ∃ a S1, m S = .ok a S1 ∧ f a S1 = .exc c S' := by
  unfold bnd at h
  cases e : m S with
  | bad => rw [e] at h; cases h
  | ok a S1 => rw [e] at h; exact .inr ⟨a, S1, rfl, h⟩
  | exc c' S1 => rw [e] at h; cases h; exact .inl rfl
/-- no exception leaves it -/
def noX {α : Type} (m : M α) : M α := fun S => match m S with
  | .exc _ _ => .bad
  | r => r
theorem noX_ok {α : Type} {m : M α} {S : Sto} {a : α} {S' : Sto} (h : noX m S = .ok a S') : m S = .ok a S' := by
  unfold noX at h
  cases e : m S with
  | bad => rw [e] at h; cases h
  | ok a S1 => rw [e] at h; exact h
  | exc c S1 => rw [e] at h; cases h
theorem noX_exc {α : Type} {m : M α} {S : Sto} {c : String} {S' : Sto} (h : noX m S = .exc c S') : False := by
  unfold noX at h
  cases e : m S with
  | bad => rw [e] at h; cases h
  | ok a S1 => rw [e] at h; cases h
  | exc c S1 => rw [e] at h; cases h
theorem noX_mk {α : Type} {m : M α} {S : Sto} {a : α} {S' : Sto} (h : m S = .ok a S') : noX m S = .ok a S' := by
  unfold noX
  rw [h]
theorem bnd_mk {α β : Type} {m : M α} {f : α → M β} {S : Sto} {a : α} {S1 : Sto} {r : Rs β} (h : m S = .ok a S1) (k : f a S1 = r) : bnd m f S = r := by
  unfold bnd
  rw [h]
  exact k
def need {α : Type} (c : Bool) (m : M α) : M α := if c then m else bad
theorem need_ok {α : Type} {c : Bool} {m : M α} {S : Sto} {a : α} {S' : Sto} (h : need c m S = .ok a S') : c = true ∧ m S = .ok a S' := by
  cases c with
  | true => exact ⟨rfl, h⟩
  | false => cases h
def opt {α : Type} (o : Option α) : M α := match o with
  | some a => ret a
  | none => bad
theorem opt_ok {α : Type} {o : Option α} {S : Sto} {a : α} {S' : Sto} (h : opt o S = .ok a S') : o = some a ∧ S' = S := by
  cases o with
  | none => cases h
  | some b => cases h; exact ⟨rfl, rfl⟩
theorem ret_ok {α : Type} {b : α} {S : Sto} {a : α} {S' : Sto} (h : ret b S = .ok a S') : b = a ∧ S = S' := by
  cases h; exact ⟨rfl, rfl⟩

/-! ### data as the library's data -/
mutual
def toPy : D → Option PyData
  | .non => some .none
  | .bl b => some (.bool b)
  | .int i => some (.int i)
  | .str s => some (.str s)
  | .tup xs => (toPys xs).map PyData.tuple
  | .lst xs => (toPys xs).map PyData.list
  | .fro _ => none
  | .ref _ => none
  | .ty _ => none
  | .dic _ _ _ => none
  | .obj _ _ => none
  | .dct _ _ => none
  | .set _ => none
  | .exc _ => none
def toPys : List D → Option (List PyData)
  | [] => some []
  | x :: xs => match toPy x, toPys xs with
    | some p, some ps => some (p :: ps)
    | _, _ => none
end
/-! how great the text of a datum may be -/
mutual
def cost : PyData → Nat
  | .none => 8
  | .bool _ => 8
  | .int i => if i.natAbs < 1000000 then 8 else if i.natAbs < 2 ^ 128 then 64 else 100000000
  | .str s => if s.cps.toList.all (fun c => decide (c < 4294967296)) then 10 * s.length + 8 else 100000000
  | .list xs => costs xs + 8
  | .tuple xs => costs xs + 8
  | .dict _ => 100000000
def costs : List PyData → Nat
  | [] => 0
  | x :: xs => cost x + costs xs + 4
end
def reprD (d : D) : M D := match toPy d with
  | some p => need (p.showable && decide (cost p ≤ 1000000) && decide (p.depth ≤ 60)) (ret (.str p.shown))
  | none => bad
def eqG (a b : D) : M Bool := match toPy a, toPy b with
  | some p, some q => need (SeqAt.shaped p && SeqAt.shaped q) (ret (PyData.eqv p q))
  | _, _ => bad
def eqD (a b : D) : M Bool := match a, b with
  | .int i, .int j => ret (decide (i = j))
  | .str s, .str t => ret (decide (s = t))
  | .bl s, .bl t => ret (decide (s = t))
  | a, b => eqG a b

/-! ### operators by values -/
def big (i : Int) : Bool := decide (i.natAbs < 2 ^ 200)
def small (n : Nat) : Bool := decide (n ≤ 1000000)
def addD (a b : D) : M D := match a, b with
  | .int i, .int j => ret (.int (i + j))
  | .tup xs, .tup ys => need (small xs.length && small ys.length) (ret (.tup (xs ++ ys)))
  | .lst xs, .lst ys => need (small xs.length && small ys.length) (ret (.lst (xs ++ ys)))
  | _, _ => bad
def subD (a b : D) : M D := match a, b with
  | .int i, .int j => ret (.int (i - j))
  | _, _ => bad
def mulD (a b : D) : M D := match a, b with
  | .int i, .int j => need (big i && big j) (ret (.int (i * j)))
  | .tup xs, .int k => need (decide (-1000000 ≤ k) && (xs.isEmpty || decide (1 ≤ k)) && decide (k ≤ 1000) && decide (xs.length ≤ 1000)) (ret (.tup (List.replicate k.toNat xs).flatten))
  | .lst xs, .int k => need (decide (-1000000 ≤ k) && decide (k ≤ 1000000) && decide (xs.length * k.toNat ≤ 1000000)) (ret (.lst (List.replicate k.toNat xs).flatten))
  | _, _ => bad
/-- a list so many times, into a new cell -/
def mulLD (m : Bool) (a b : D) : M D := bnd (mulD a b) fun d => match d with
  | .lst xs => if m then (fun S => .ok (.ref S.length) (S ++ [some xs])) else ret d
  | _ => bad
def divD (a b : D) : M D := match a, b with
  | .int i, .int j => need (decide (0 < j) && big j) (ret (.int (i / j)))
  | _, _ => bad
def modD (a b : D) : M D := match a, b with
  | .int i, .int j => need (decide (0 < j)) (ret (.int (i % j)))
  | _, _ => bad
def powD (a b : D) : M D := match a, b with
  | .int i, .int j => need (decide (0 ≤ j) && decide (j ≤ 1000) && decide (i.natAbs < 2 ^ 64)) (ret (.int (i ^ j.toNat)))
  | _, _ => bad
def bandD (a b : D) : M D := match a, b with
  | .int i, .int j => ret (.int (Builtin.bitAnd i j))
  | _, _ => bad
def binD (o : Operator) (a b : D) : M D := match o with
  | .Add => addD a b
  | .Sub => subD a b
  | .Mult => mulD a b
  | .FloorDiv => divD a b
  | .Mod => modD a b
  | .Pow => powD a b
  | .BitAnd => bandD a b
  | _ => bad
def ltD (a b : D) : M Bool := match a, b with
  | .int i, .int j => ret (decide (i < j))
  | _, _ => bad
def leD (a b : D) : M Bool := match a, b with
  | .int i, .int j => ret (decide (i ≤ j))
  | _, _ => bad
def isNonD : D → Bool
  | .non => true
  | _ => false
/-- is: of two truths, or of a thing and None -/
def isD (a b : D) : M Bool := match b with
  | .bl j => match a with
    | .bl i => ret (decide (i = j))
    | _ => bad
  | .non => ret (isNonD a)
  | _ => bad
def notB (m : M Bool) : M Bool := bnd m fun k => ret (!k)
/-- the cell k's list -/
def getC (k : Nat) : M (List D) := fun S => match S[k]? with
  | some (some xs) => .ok xs S
  | _ => .bad
/-- a thing in a list -/
def listD (b : D) : M (List D) := match b with
  | .ref k => getC k
  | .lst xs => ret xs
  | .tup xs => ret xs
  | _ => bad
def hasD (a b : D) : M Bool := bnd (listD b) fun xs => match toPy a, toPys xs with
  | some p, some ps => need (SeqAt.shaped p && SeqAt.shaped (.list ps)) (ret (ps.any fun z => PyData.eqv z p))
  | _, _ => bad
def cmpD (o : CmpOp) (a b : D) : M Bool := match o with
  | .Eq => eqD a b
  | .NotEq => notB (eqD a b)
  | .Lt => ltD a b
  | .LtE => leD a b
  | .Gt => ltD b a
  | .GtE => leD b a
  | .Is => isD a b
  | .IsNot => notB (isD a b)
  | .In => hasD a b
  | .NotIn => notB (hasD a b)
def truD (a : D) : M Bool := match a with
  | .bl b => ret b
  | .non => ret false
  | .int i => ret (i != 0)
  | .tup xs => ret (!xs.isEmpty)
  | .lst xs => ret (!xs.isEmpty)
  | .str s => need (small s.length) (ret (s.length != 0))
  | _ => bad
def setC (k : Nat) (xs : List D) : M Unit := fun S => match S[k]? with
  | some (some _) => .ok () (S.set k (some xs))
  | _ => .bad
def newC (xs : List D) : M D := fun S => .ok (.ref S.length) (S ++ [some xs])
/-- a list made: settled, or a new cell -/
def mkL (m : Bool) (xs : List D) : M D := if m then newC xs else ret (.lst xs)
/-- the items of a list or a tuple -/
def itemsD (a : D) : M (List D) := match a with
  | .tup xs => ret xs
  | .lst xs => ret xs
  | .fro xs => ret xs
  | .ref k => getC k
  | _ => bad
def ixD (a i : D) : M D := match i with
  | .int j => bnd (itemsD a) fun xs => opt (L2.atI xs j)
  | _ => bad
def cutD (xs : List D) (lo hi : Option Int) : List D := (xs.drop (HT.sIx xs.length 0 lo)).take (HT.sIx xs.length xs.length hi - HT.sIx xs.length 0 lo)
def slD (m : Bool) (a : D) (lo hi : Option Int) : M D := match a with
  | .tup xs => ret (.tup (cutD xs lo hi))
  | .lst xs => mkL m (cutD xs lo hi)
  | .fro xs => mkL m (cutD xs lo hi)
  | .ref k => bnd (getC k) fun xs => mkL m (cutD xs lo hi)
  | _ => bad
inductive Bi where
  | max1 | len | max2 | min2 | tup | lst | repr | all | sum | sorted
  deriving DecidableEq, Repr
def allD : List D → Option Bool
  | [] => some true
  | .bl b :: r => match allD r with
    | some c => some (b && c)
    | none => none
  | _ :: _ => none
def lenB (ds : List D) : M D := match ds with
  | [a] => bnd (itemsD a) fun xs => ret (.int xs.length)
  | _ => bad
def maxB (ds : List D) : M D := match ds with
  | [.int i, .int j] => ret (.int (if j > i then j else i))
  | _ => bad
def minB (ds : List D) : M D := match ds with
  | [.int i, .int j] => ret (.int (if j < i then j else i))
  | _ => bad
def tupB (ds : List D) : M D := match ds with
  | [a] => bnd (itemsD a) fun xs => ret (.tup xs)
  | _ => bad
def lstB (ds : List D) : M D := match ds with
  | [a] => bnd (itemsD a) fun xs => ret (.lst xs)
  | _ => bad
def reprB (ds : List D) : M D := match ds with
  | [a] => reprD a
  | _ => bad
def allB (ds : List D) : M D := match ds with
  | [.lst xs] => bnd (opt (allD xs)) fun k => ret (.bl k)
  | _ => bad
def intsOf : List D → Option (List Int)
  | [] => some []
  | .int i :: r => match intsOf r with
    | some l => some (i :: l)
    | none => none
  | _ :: _ => none
def maxI : List Int → Option Int
  | [] => none
  | i :: r => match maxI r with
    | some m => some (max i m)
    | none => some i
def sumB (ds : List D) : M D := match ds with
  | [.lst xs] => match intsOf xs with
    | some ns => need (decide (ns.length ≤ 1000000) && ns.all fun n => decide (n.natAbs < 2 ^ 100)) (ret (.int ns.sum))
    | none => bad
  | _ => bad
def insI (i : Int) : List Int → List Int
  | [] => [i]
  | j :: r => if i ≤ j then i :: j :: r else j :: insI i r
def sortI : List Int → List Int
  | [] => []
  | i :: r => insI i (sortI r)
def sortB (ds : List D) : M D := match ds with
  | [.lst xs] => match intsOf xs with
    | some ns => need (decide (ns.length ≤ 1000000)) (ret (.lst ((sortI ns).map D.int)))
    | none => bad
  | _ => bad
def max1B (ds : List D) : M D := match ds with
  | [.lst xs] => match intsOf xs with
    | some ns => match maxI ns with
      | some m => ret (.int m)
      | none => bad
    | none => bad
  | _ => bad
def maxdD (j : Int) (d : D) : M D := match d with
  | .lst xs => match intsOf xs with
    | some ns => match maxI ns with
      | some m => ret (.int m)
      | none => ret (.int j)
    | none => bad
  | _ => bad
def lcmB (ds : List D) : M D := match ds with
  | [.int i, .int j] => need (decide (0 ≤ i) && decide (i < 2 ^ 60) && decide (0 ≤ j) && decide (j < 2 ^ 60)) (ret (.int (Nat.lcm i.toNat j.toNat : Nat)))
  | _ => bad
def biD (b : Bi) (ds : List D) : M D := match b with
  | .max1 => max1B ds
  | .len => lenB ds
  | .max2 => maxB ds
  | .min2 => minB ds
  | .tup => tupB ds
  | .lst => lstB ds
  | .repr => reprB ds
  | .all => allB ds
  | .sum => sumB ds
  | .sorted => sortB ds
def rngL (i : Int) (n : Nat) : List D := (List.range n).map fun k => D.int (i + (k : Nat))
inductive Ty5 where
  | int | bool | str | tuple | list
  deriving DecidableEq, Repr
def Ty5.name : Ty5 → String
  | .int => "int" | .bool => "bool" | .str => "str" | .tuple => "tuple" | .list => "list"
def isiD (a : D) (T : Ty5) : M Bool := match a with
  | .non => ret false
  | .bl _ => ret (T == .bool || T == .int)
  | .int _ => ret (T == .int)
  | .str _ => ret (T == .str)
  | .tup _ => ret (T == .tuple)
  | .lst _ => ret (T == .list)
  | .dic false _ _ => ret false
  | _ => bad
def typD (a : D) : M D := match a with
  | .non => ret (.ty "NoneType")
  | .bl _ => ret (.ty "bool")
  | .int _ => ret (.ty "int")
  | .str _ => ret (.ty "str")
  | .tup _ => ret (.ty "tuple")
  | .lst _ => ret (.ty "list")
  | .dic false _ _ => ret (.ty "dict")
  | _ => bad
def knTy : List String := ["NoneType", "bool", "int", "str", "tuple", "list", "dict"]
def tyEq (a b : D) : M Bool := match a, b with
  | .ty s, .ty t => need (knTy.contains s && knTy.contains t) (ret (decide (s = t)))
  | _, _ => bad
def revD (a : D) : M D := match a with
  | .tup xs => need (!xs.isEmpty && small xs.length) (ret (.tup xs.reverse))
  | _ => bad

/-! ### trees -/
mutual
inductive Ex where
  | var (i : Nat) | int (i : Int) | bl (b : Bool) | non | str (s : Str) | glob (x : Str) (i : Int)
  | bin (o : Operator) (a b : Ex) | neg (a : Ex) | cmp (o : CmpOp) (a b : Ex) | chain (o o' : CmpOp) (a b c : Ex)
  | and (a b : Ex) | or (a b : Ex) | not (a : Ex) | ife (c a b : Ex)
  | tup (es : Exs) | lst (m : Bool) (es : Exs) | ix (a i : Ex) | sl (m : Bool) (a : Ex) (lo hi : Exo)
  | call (f : String) (es : Exs) | fld (c f : String) (o : Ex) | meth (f c m : String) (o : Ex) (es : Exs) | make (c f : String) (es : Exs) | dget (d k : Ex) | din (n : Bool) (k d : Ex) | dnew (t : Bool) | bi (b : Bi) (es : Exs) | lrg (m : Bool) (a : Ex) | trg (a : Ex)
  | isi (a : Ex) (T : Ty5) | tenp (a : Ex) | mulL (m : Bool) (a b : Ex) | popAt (o i : Ex) | idxOf (o e : Ex) | cntOf (o e : Ex) | opq | tyeq (a : Ex) (T : Ty5) | lcm (x : Str) (es : Exs) | maxd (a : Ex) (j : Int) | dic0 | dic1 (i j : Int) | rev (a : Ex)
  | lc (m : Bool) (elt : Ex) (tg : Tg) (own : List Nat) (it : It) (cd : Exo)
  | lc2 (m : Bool) (elt : Ex) (tg tg1 : Tg) (own own1 : List Nat) (it it1 : It)
inductive Exs where
  | nil | cons (e : Ex) (es : Exs) | star (e : Ex) (es : Exs)
inductive Exo where
  | no | yes (e : Ex)
inductive It where
  | seq (e : Ex) | rng (a : Ex) | rng2 (a b : Ex) | enm (e : Ex) | revl (e : Ex) | zip (a b : Ex)
inductive Tg where
  | name (i : Nat) | tup (is : List Nat) | pair (i : Nat) (is : List Nat)
end
mutual
inductive Sm where
  | set (i : Nat) (e : Ex) | unp (is : List Nat) (e : Ex) | par (i j : Nat) (a b : Ex) | setix (o i e : Ex) | setfl (c f : String) (o e : Ex) | dput (o k e : Ex) | app (o e : Ex) | expr (e : Ex)
  | ret (e : Ex) | ife (c : Ex) (a b : Sms) | for (tg : Tg) (it : It) (b : Sms) | while (c : Ex) (b : Sms) | pass | opq | brk | cont | settle (i : Nat) (s : Sm)
inductive Sms where
  | nil | cons (s : Sm) (r : Sms)
end

/-! ### how they run -/
/-! dicts and objects -/
def keyI : List D → Option (List Int)
  | [] => some []
  | .int i :: r => match keyI r with
    | some l => some (i :: l)
    | none => none
  | _ :: _ => none
def keyD : D → Option Ky
  | .int i => some (.i i)
  | .str s => some (.s s)
  | .tup xs => match keyI xs with
    | some l => some (.t l)
    | none => none
  | _ => none
def Ky.isT : Ky → Bool
  | .t _ => true
  | _ => false
def lookY : List Ky → List D → Ky → Option D
  | k :: ks, v :: vs, q => if k = q then some v else lookY ks vs q
  | _, _, _ => none
/-- an object's attribute: in its place, or at the end -/
def putA : List Ky → List D → Ky → D → List Ky × List D
  | k :: ks, v :: vs, q, w => if k = q then (k :: ks, w :: vs) else ((k :: (putA ks vs q w).1), (v :: (putA ks vs q w).2))
  | _, _, q, w => ([q], [w])
def setY : List Ky → List D → Ky → D → List D
  | k :: ks, v :: vs, q, w => (if k = q then w else v) :: setY ks vs q w
  | _, _, _, _ => []
/-- a dict's entry: in its place, or at the end -/
def putY (ks : List Ky) (vs : List D) (q : Ky) (w : D) : List Ky × List D := if q ∈ ks then (ks, setY ks vs q w) else (ks ++ [q], vs ++ [w])
/-- what a dict or an object at the cell k has -/
def getK (k : Nat) : M (Bool × List Ky × List D) := bnd (getC k) fun xs => match xs with
  | [.dic t ks vs] => ret (t, ks, vs)
  | _ => bad
def fldD (c f : String) (x : D) : M D := match x with
  | .obj c' k => need (decide (c = c')) <| bnd (getK k) fun p => need (!p.1) (opt (lookY p.2.1 p.2.2 (.s f)))
  | _ => bad
def setflD (c f : String) (x v : D) : M Unit := match x with
  | .obj c' k => need (decide (c = c')) <| bnd (getK k) fun p => need (!p.1 && decide (p.2.1.length < 100)) (setC k [.dic false (putA p.2.1 p.2.2 (.s f) v).1 (putA p.2.1 p.2.2 (.s f) v).2])
  | _ => bad
/-- an object of the class, without an attribute of that name -/
def isO (c m : String) (x : D) : M Unit := match x with
  | .obj c' k => need (decide (c = c')) (bnd (getK k) fun p => need (!p.1 && (lookY p.2.1 p.2.2 (.s m)).isNone) (ret ()))
  | _ => bad
def newO (c : String) : M D := fun S => .ok (.obj c S.length) (S ++ [some [.dic false [] []]])
def newT (t : Bool) : M D := fun S => .ok (.dct t S.length) (S ++ [some [.dic t [] []]])
/-- a dict's entries, the place where it may change -/
def dicD (x : D) : M (Bool × List Ky × List D) := match x with
  | .dct t k => bnd (getK k) fun p => need (p.1 == t) (ret p)
  | .dic t ks vs => ret (t, ks, vs)
  | _ => bad
def dgetD (x k : D) : M D := bnd (dicD x) fun p => match keyD k with
  | some q => need (q.isT == p.1) (opt (lookY p.2.1 p.2.2 q))
  | none => bad
def dinD (x k : D) : M Bool := bnd (dicD x) fun p => match keyD k with
  | some q => need (q.isT == p.1) (ret (lookY p.2.1 p.2.2 q).isSome)
  | none => bad
def dputD (x k v : D) : M Unit := match x with
  | .dct t c => bnd (getK c) fun p => match keyD k with
    | some q => need (p.1 == t && q.isT == t && decide (p.2.1.length < 100000)) (setC c [.dic t (putY p.2.1 p.2.2 q v).1 (putY p.2.1 p.2.2 q v).2])
    | none => bad
  | _ => bad
def isNon (x : D) : M Unit := match x with
  | .non => ret ()
  | _ => bad
def setAll : List Nat → List D → Env → Option Env
  | [], [], ρ => some ρ
  | i :: is, d :: ds, ρ => setAll is ds (ρ.set i (some d))
  | _, _, _ => none
def asg (tg : Tg) (d : D) (ρ : Env) : Option Env := match tg, d with
  | .name i, d => some (ρ.set i (some d))
  | .tup is, .tup ds => setAll is ds ρ
  | .pair i is, .tup [d, .tup ds] => setAll is ds (ρ.set i (some d))
  | _, _ => none
/-- the items, each behind its number -/
def enmL : Nat → List D → List D
  | _, [] => []
  | i, d :: ds => .tup [.int (i : Nat), d] :: enmL (i + 1) ds
def zipL : List D → List D → List D
  | x :: xs, y :: ys => .tup [x, y] :: zipL xs ys
  | _, _ => []
def zipD (x y : D) : M (List D) := match x, y with
  | .lst xs, .lst ys => ret (zipL xs ys)
  | .tup xs, .tup ys => ret (zipL xs ys)
  | _, _ => bad
def tenD (d : D) : M D := match d with
  | .int n => need (decide (0 ≤ n) && decide (n ≤ 40)) (ret (.int (10 ^ n.toNat)))
  | _ => bad
def wipeD (ρ : Env) : List Nat → Env
  | [] => ρ
  | i :: is => (wipeD ρ is).set i none
def getV (ρ : Env) (i : Nat) : M D := match ρ[i]? with
  | some (some d) => ret d
  | _ => bad
def lcL (elt : Env → M D) (tg : Tg) (cd : Env → M Bool) (ρ : Env) : List D → List D → M (List D)
  | [], acc => ret acc
  | x :: xs, acc => bnd (opt (asg tg x ρ)) fun ρ2 => bnd (cd ρ2) fun k =>
      if k then bnd (elt ρ2) fun y => need (small acc.length) (lcL elt tg cd ρ xs (acc ++ [y])) else lcL elt tg cd ρ xs acc
def lcL2 (elt : Env → M D) (tg tg1 : Tg) (mi1 : Env → M (List D)) (own1 : List Nat) (ρ : Env) : List D → List D → M (List D)
  | [], acc => ret acc
  | x :: xs, acc => bnd (opt (asg tg x ρ)) fun ρ2 => bnd (mi1 ρ2) fun ys => bnd (lcL elt tg1 (fun _ => ret true) (wipeD ρ2 own1) ys acc) fun acc2 => lcL2 elt tg tg1 mi1 own1 ρ xs acc2
def isC (o : D) : M Unit := match o with
  | .ref k => bnd (getC k) fun _ => ret ()
  | _ => bad
def popD (o i : D) : M D := match o, i with
  | .ref k, .int j => bnd (getC k) fun xs => match xs[j.toNat]? with
    | some y => need (decide (0 ≤ j) && decide (j < 1000000)) (bnd (setC k (xs.eraseIdx j.toNat)) fun _ => ret y)
    | none => bad
  | _, _ => bad
def idxD (o v : D) : M D := match o with
  | .ref k => bnd (getC k) fun xs => match toPy v, toPys xs with
    | some p, some ps => need (SeqAt.shaped p && SeqAt.shaped (.list ps)) (opt ((ps.findIdx? fun z => PyData.eqv z p).map fun j => D.int (j : Nat)))
    | _, _ => bad
  | _ => bad
/-- how often a thing stands in a list -/
def cntD (o v : D) : M D := match o with
  | .ref k => bnd (getC k) fun xs => match toPy v, toPys xs with
    | some p, some ps => need (SeqAt.shaped p && SeqAt.shaped (.list ps)) (ret (.int ((ps.countP fun z => PyData.eqv z p : Nat) : Int)))
    | _, _ => bad
  | _ => bad
def ints2 (a b : D) : M (Int × Int) := match a, b with
  | .int i, .int j => ret (i, j)
  | _, _ => bad
def okR (i : Int) : Bool := decide (-4000000000000000000 ≤ i) && decide (i ≤ 4000000000000000000)

section
variable (Φ : String → List D → M D)
mutual
def ev : Ex → Env → M D
  | .var i => fun ρ => getV ρ i
  | .int i => fun _ => ret (.int i)
  | .bl b => fun _ => ret (.bl b)
  | .non => fun _ => ret .non
  | .str s => fun _ => ret (.str s)
  | .glob _ i => fun _ => ret (.int i)
  | .bin o a b => fun ρ => bnd (ev a ρ) fun x => bnd (ev b ρ) fun y => binD o x y
  | .neg a => fun ρ => bnd (ev a ρ) fun x => match x with
    | .int i => ret (.int (-i))
    | _ => bad
  | .cmp o a b => fun ρ => bnd (ev a ρ) fun x => bnd (ev b ρ) fun y => bnd (cmpD o x y) fun k => ret (.bl k)
  | .chain o o' a b c => fun ρ => bnd (ev a ρ) fun x => bnd (ev b ρ) fun y => bnd (cmpD o x y) fun k =>
      if k then bnd (ev c ρ) fun z => bnd (cmpD o' y z) fun k' => ret (.bl k') else ret (.bl false)
  | .and a b => fun ρ => bnd (ev a ρ) fun x => match x with
    | .bl true => ev b ρ
    | .bl false => ret (.bl false)
    | _ => bad
  | .or a b => fun ρ => bnd (ev a ρ) fun x => match x with
    | .bl false => ev b ρ
    | .bl true => ret (.bl true)
    | _ => bad
  | .not a => fun ρ => bnd (ev a ρ) fun x => match x with
    | .bl b => ret (.bl (!b))
    | _ => bad
  | .ife c a b => fun ρ => bnd (evt c ρ) fun k => if k then ev a ρ else ev b ρ
  | .tup es => fun ρ => bnd (evs es ρ) fun xs => need (small xs.length) (ret (.tup xs))
  | .lst m es => fun ρ => bnd (evs es ρ) fun xs => need (small xs.length) (mkL m xs)
  | .ix a i => fun ρ => bnd (ev a ρ) fun x => bnd (ev i ρ) fun y => ixD x y
  | .sl m a lo hi => fun ρ => bnd (ev a ρ) fun x => bnd (evo lo ρ) fun l => bnd (evo hi ρ) fun h => slD m x l h
  | .call f es => fun ρ => bnd (evs es ρ) fun xs => Φ f xs
  | .fld c f o => fun ρ => bnd (ev o ρ) (fldD c f)
  | .meth f c m o es => fun ρ => bnd (ev o ρ) fun x => bnd (isO c m x) fun _ => bnd (evs es ρ) fun xs => Φ f (x :: xs)
  | .make c f es => fun ρ => bnd (evs es ρ) fun xs => bnd (newO c) fun o => bnd (Φ f (o :: xs)) fun r => bnd (isNon r) fun _ => ret o
  | .dget d k => fun ρ => bnd (ev d ρ) fun x => bnd (ev k ρ) fun y => dgetD x y
  | .din n k d => fun ρ => bnd (ev k ρ) fun y => bnd (ev d ρ) fun x => bnd (dinD x y) fun b => ret (.bl (b != n))
  | .dnew t => fun _ => newT t
  | .bi b es => fun ρ => bnd (evs es ρ) fun xs => biD b xs
  | .lrg m a => fun ρ => bnd (ev a ρ) fun x => match x with
    | .int n => need (decide (0 ≤ n) && decide (n ≤ 1000000)) (mkL m (rngL 0 n.toNat))
    | _ => bad
  | .trg a => fun ρ => bnd (ev a ρ) fun x => match x with
    | .int n => need (decide (0 ≤ n) && decide (n ≤ 1000000)) (ret (.tup (rngL 0 n.toNat)))
    | _ => bad
  | .isi a T => fun ρ => bnd (ev a ρ) fun x => bnd (isiD x T) fun k => ret (.bl k)
  | .tenp a => fun ρ => bnd (ev a ρ) tenD
  | .mulL m a b => fun ρ => bnd (ev a ρ) fun x => bnd (ev b ρ) fun y => mulLD m x y
  | .popAt o i => fun ρ => bnd (ev o ρ) fun x => bnd (isC x) fun _ => bnd (ev i ρ) fun y => popD x y
  | .idxOf o i => fun ρ => bnd (ev o ρ) fun x => bnd (isC x) fun _ => bnd (ev i ρ) fun y => idxD x y
  | .cntOf o i => fun ρ => bnd (ev o ρ) fun x => bnd (isC x) fun _ => bnd (ev i ρ) fun y => cntD x y
  | .opq => fun _ => bad
  | .tyeq a T => fun ρ => bnd (bnd (ev a ρ) typD) fun x => bnd (ret (.ty T.name)) fun y => bnd (tyEq x y) fun k => ret (.bl k)
  | .lcm _ es => fun ρ => bnd (evs es ρ) lcmB
  | .maxd a j => fun ρ => bnd (ev a ρ) (maxdD j)
  | .dic0 => fun _ => ret (.dic false [] [])
  | .dic1 i j => fun _ => ret (.dic false [.i i] [.int j])
  | .rev a => fun ρ => bnd (ev a ρ) revD
  | .lc m elt tg own it cd => fun ρ => bnd (evi it ρ) fun xs => bnd (lcL (ev elt) tg (evc cd) (wipeD ρ own) xs []) fun ys => mkL m ys
  | .lc2 m elt tg tg1 own own1 it it1 => fun ρ => bnd (evi it ρ) fun xs => bnd (lcL2 (ev elt) tg tg1 (evi it1) own1 (wipeD ρ own) xs []) fun ys => mkL m ys
def evt : Ex → Env → M Bool
  | .and a b => fun ρ => bnd (evt a ρ) fun k => if k then evt b ρ else ret false
  | .or a b => fun ρ => bnd (evt a ρ) fun k => if k then ret true else evt b ρ
  | .not a => fun ρ => bnd (evt a ρ) fun k => ret (!k)
  | .ife _ _ _ => fun _ => bad
  | .cmp o a b => fun ρ => bnd (ev a ρ) fun x => bnd (ev b ρ) fun y => cmpD o x y
  | .chain o o' a b c => fun ρ => bnd (ev a ρ) fun x => bnd (ev b ρ) fun y => bnd (cmpD o x y) fun k =>
      if k then bnd (ev c ρ) fun z => cmpD o' y z else ret false
  | .var i => fun ρ => bnd (getV ρ i) truD
  | .bl b => fun _ => ret b
  | .bin o a b => fun ρ => bnd (bnd (ev a ρ) fun x => bnd (ev b ρ) fun y => binD o x y) truD
  | .call f es => fun ρ => bnd (bnd (evs es ρ) fun xs => Φ f xs) truD
  | .din n k d => fun ρ => bnd (ev k ρ) fun y => bnd (ev d ρ) fun x => bnd (dinD x y) fun b => ret (b != n)
  | .ix a i => fun ρ => bnd (bnd (ev a ρ) fun x => bnd (ev i ρ) fun y => ixD x y) truD
  | .fld c f o => fun ρ => bnd (bnd (ev o ρ) (fldD c f)) truD
  | .dget d k => fun ρ => bnd (bnd (ev d ρ) fun x => bnd (ev k ρ) fun y => dgetD x y) truD
  | .isi a T => fun ρ => bnd (ev a ρ) fun x => isiD x T
  | .tyeq a T => fun ρ => bnd (bnd (ev a ρ) typD) fun x => bnd (ret (.ty T.name)) fun y => tyEq x y
  | .bi b es => fun ρ => bnd (bnd (evs es ρ) fun xs => biD b xs) truD
  | _ => fun _ => bad
def evs : Exs → Env → M (List D)
  | .nil => fun _ => ret []
  | .cons e es => fun ρ => bnd (ev e ρ) fun x => bnd (evs es ρ) fun xs => ret (x :: xs)
  | .star e es => fun ρ => bnd (ev e ρ) fun x => bnd (itemsD x) fun ys => bnd (evs es ρ) fun xs => ret (ys ++ xs)
def evo : Exo → Env → M (Option Int)
  | .no => fun _ => ret none
  | .yes e => fun ρ => bnd (ev e ρ) fun x => match x with
    | .int i => ret (some i)
    | _ => bad
def evc : Exo → Env → M Bool
  | .no => fun _ => ret true
  | .yes e => fun ρ => evt e ρ
def evi : It → Env → M (List D)
  | .seq e => fun ρ => bnd (ev e ρ) fun x => match x with
    | .tup xs => ret xs
    | .lst xs => ret xs
    | _ => bad
  | .rng a => fun ρ => bnd (ev a ρ) fun x => match x with
    | .int n => need (okR n) (ret (rngL 0 n.toNat))
    | _ => bad
  | .revl e => fun ρ => bnd (ev e ρ) fun x => match x with
    | .lst xs => ret xs.reverse
    | _ => bad
  | .zip a b => fun ρ => bnd (ev a ρ) fun x => bnd (ev b ρ) fun y => zipD x y
  | .enm e => fun ρ => bnd (ev e ρ) fun x => match x with
    | .tup xs => ret (enmL 0 xs)
    | .lst xs => ret (enmL 0 xs)
    | _ => bad
  | .rng2 a b => fun ρ => bnd (ev a ρ) fun x => bnd (ev b ρ) fun y => bnd (ints2 x y) fun p => need (okR p.1 && okR p.2) (ret (rngL p.1 (p.2 - p.1).toNat))
end
/-- a statement's end -/
inductive Fl where
  | nx (ρ : Env) | rt (d : D) | bk (ρ : Env) | ct (ρ : Env)
def forL (tg : Tg) (b : Env → M Fl) : List D → Env → M Fl
  | [], ρ => ret (.nx ρ)
  | x :: xs, ρ => bnd (opt (asg tg x ρ)) fun ρ2 => bnd (b ρ2) fun f => match f with
    | .nx ρ3 => forL tg b xs ρ3
    | .ct ρ3 => forL tg b xs ρ3
    | .bk ρ3 => ret (.nx ρ3)
    | .rt d => ret (.rt d)
def whL (c : Env → M Bool) (b : Env → M Fl) : Nat → Env → M Fl
  | 0, _ => bad
  | n + 1, ρ => bnd (c ρ) fun k => if k then bnd (b ρ) fun f => match f with
    | .nx ρ3 => whL c b n ρ3
    | .ct ρ3 => whL c b n ρ3
    | .bk ρ3 => ret (.nx ρ3)
    | .rt d => ret (.rt d) else ret (.nx ρ)
def setIx (o i v : D) : M Unit := match o, i with
  | .ref k, .int j => bnd (getC k) fun xs => match L2.ixN xs.length j with
    | some n => setC k (xs.set n v)
    | none => bad
  | _, _ => bad
def appD (o v : D) : M Unit := match o with
  | .ref k => bnd (getC k) fun xs => need (small xs.length) (setC k (xs ++ [v]))
  | _ => bad
def setlD (ρ : Env) (i : Nat) : M Env := fun S => match ρ[i]? with
  | some (some (.ref k)) => match S[k]? with
    | some (some xs) => .ok (ρ.set i (some (.lst xs))) (S.set k none)
    | _ => .bad
  | _ => .bad
variable (fu : Nat)
mutual
def ex : Sm → Env → M Fl
  | .set i e => fun ρ => bnd (ev Φ e ρ) fun x => ret (.nx (ρ.set i (some x)))
  | .unp is e => fun ρ => bnd (ev Φ e ρ) fun x => bnd (opt (asg (.tup is) x ρ)) fun ρ2 => ret (.nx ρ2)
  | .par i j a b => fun ρ => bnd (ev Φ a ρ) fun x => bnd (ev Φ b ρ) fun y => ret (.nx ((ρ.set i (some x)).set j (some y)))
  | .setix o i e => fun ρ => bnd (ev Φ e ρ) fun v => bnd (ev Φ o ρ) fun x => bnd (ev Φ i ρ) fun y => bnd (setIx x y v) fun _ => ret (.nx ρ)
  | .setfl c f o e => fun ρ => bnd (ev Φ e ρ) fun v => bnd (ev Φ o ρ) fun x => bnd (setflD c f x v) fun _ => ret (.nx ρ)
  | .dput o k e => fun ρ => bnd (ev Φ e ρ) fun v => bnd (ev Φ o ρ) fun x => bnd (ev Φ k ρ) fun y => bnd (dputD x y v) fun _ => ret (.nx ρ)
  | .app o e => fun ρ => bnd (ev Φ o ρ) fun x => bnd (isC x) fun _ => bnd (ev Φ e ρ) fun v => bnd (appD x v) fun _ => ret (.nx ρ)
  | .expr e => fun ρ => bnd (ev Φ e ρ) fun _ => ret (.nx ρ)
  | .ret e => fun ρ => bnd (ev Φ e ρ) fun x => ret (.rt x)
  | .ife c a b => fun ρ => bnd (evt Φ c ρ) fun k => if k then exs a ρ else exs b ρ
  | .for tg it b => fun ρ => bnd (evi Φ it ρ) fun xs => forL tg (exs b) xs ρ
  | .while c b => fun ρ => whL (evt Φ c) (exs b) fu ρ
  | .opq => fun _ => bad
  | .pass => fun ρ => ret (.nx ρ)
  | .brk => fun ρ => ret (.bk ρ)
  | .cont => fun ρ => ret (.ct ρ)
  | .settle i s => fun ρ => bnd (setlD ρ i) fun ρ2 => ex s ρ2
def exs : Sms → Env → M Fl
  | .nil => fun ρ => ret (.nx ρ)
  | .cons s r => fun ρ => bnd (ex s ρ) fun f => match f with
    | .nx ρ2 => exs r ρ2
    | f => ret f
end
/-- a def by its body: n names in all -/
def runF (n : Nat) (b : Sms) (ds : List D) : M D := bnd (exs Φ fu b (ds.map some ++ List.replicate (n - ds.length) none)) fun f => match f with
  | .nx _ => ret .non
  | .rt d => ret d
  | _ => bad
end
end AG
namespace AG
open PySem PySem.Spec PyProof.Rows L2

/-- a cell's kind: a list, a dict, an object of a class -/
inductive Kd where
  | lst | dic (t : Bool) | obj (c : String)
structure Wd where
  H : Hp
  S : Sto
  as : List (Addr × Kd)
  lk : Addr → Prop
def Live (W : Wd) (a : Addr) : Prop := ∃ (k : Nat) (xs : List D) (kd : Kd), W.S[k]? = some (some xs) ∧ W.as[k]? = some (a, kd)
def kK : List Ky → Option (List Key)
  | [] => some []
  | .i i :: r => (kK r).map (Sum.inl i :: ·)
  | .s s :: r => (kK r).map (Sum.inr s :: ·)
  | .t _ :: _ => none
def kT : List Ky → Option (List (List Key))
  | [] => some []
  | .t is :: r => (kT r).map (is.map Sum.inl :: ·)
  | _ :: _ => none
def kS : List Ky → Option (List Str)
  | [] => some []
  | .s s :: r => (kS r).map (s :: ·)
  | _ :: _ => none
def dicO (t : Bool) (ks : List Ky) (us : List V) : Option HO := match t with
  | true => (kT ks).map fun l => .dT (l.zip us)
  | false => (kK ks).map fun l => .dK (l.zip us)
/-- what may be a cell's object -/
def isCel : HO → Prop
  | .lst _ => True
  | .dK _ => True
  | .dT _ => True
  | .ins _ _ _ => True
  | _ => False
def CelO (K : PySem.W.Frag) : Kd → List D → List D → List V → HO → Prop
  | .lst, xs, ds, us, o => ds = xs ∧ o = .lst us
  | .dic t, xs, ds, us, o => ∃ ks, xs = [.dic t ks ds] ∧ us.length = ks.length ∧ dicO t ks us = some o
  | .obj c, xs, ds, us, o => ∃ ks ns C dx, xs = [.dic false ks ds] ∧ kS ks = some ns ∧ us.length = ks.length ∧ PySem.W.nsIn K mainGlobals (Str.ofString c) = some (some (.ref C)) ∧ o = .ins C dx (ns.zip us)
theorem dicO_cel {t : Bool} {ks : List Ky} {us : List V} {o : HO} (h : dicO t ks us = some o) : isCel o := by
  unfold dicO at h
  cases t with
  | true =>
    simp only [] at h
    obtain ⟨l, _, rfl⟩ := Option.map_eq_some_iff.mp h
    exact trivial
  | false =>
    simp only [] at h
    obtain ⟨l, _, rfl⟩ := Option.map_eq_some_iff.mp h
    exact trivial
theorem dicO_nolst {t : Bool} {ks : List Ky} {us vs : List V} {o : HO} (h : dicO t ks us = some o) (z : o = .lst vs) : False := by
  subst z
  unfold dicO at h
  cases t with
  | true =>
    simp only [] at h
    obtain ⟨l, _, z⟩ := Option.map_eq_some_iff.mp h
    cases z
  | false =>
    simp only [] at h
    obtain ⟨l, _, z⟩ := Option.map_eq_some_iff.mp h
    cases z
theorem dicO_K {ks : List Ky} {us : List V} {o : HO} (h : dicO false ks us = some o) : ∃ l, kK ks = some l ∧ o = .dK (l.zip us) := by
  unfold dicO at h
  simp only [] at h
  obtain ⟨l, h1, rfl⟩ := Option.map_eq_some_iff.mp h
  exact ⟨l, h1, rfl⟩
theorem dicO_T {ks : List Ky} {us : List V} {o : HO} (h : dicO true ks us = some o) : ∃ l, kT ks = some l ∧ o = .dT (l.zip us) := by
  unfold dicO at h
  simp only [] at h
  obtain ⟨l, h1, rfl⟩ := Option.map_eq_some_iff.mp h
  exact ⟨l, h1, rfl⟩
theorem celO_cel {K : PySem.W.Frag} {kd : Kd} {xs ds : List D} {us : List V} {o : HO} (h : CelO K kd xs ds us o) : isCel o := by
  cases kd with
  | lst => obtain ⟨_, rfl⟩ := h; exact trivial
  | dic t => obtain ⟨ks, _, _, h⟩ := h; exact dicO_cel h
  | obj c => obtain ⟨ks, ns, C, dx, _, _, _, _, rfl⟩ := h; exact trivial
/-- a locked list -/
def SqF (K : PySem.W.Frag) (H : Hp) (a : Addr) (vs : List V) : Prop :=
  (∃ o, H a = some (.frz o (.lst vs))) ∨ (SqL K (fun _ => none) a vs)
section
variable (K : PySem.W.Frag)
mutual
def Rep (W : Wd) : D → V → Prop
  | .non, v => v = .non
  | .bl b, v => v = .bl b
  | .int i, v => v = .int i
  | .str s, v => v = .str s
  | .ty n, v => v = .ty n
  | .dic t ks ds, v => ∃ a us o, v = .ref a ∧ W.H a = some o ∧ us.length = ks.length ∧ dicO t ks us = some o ∧ ¬ Live W a ∧ Reps W ds us
  | .ref k, v => ∃ a, v = .ref a ∧ W.as[k]? = some (a, .lst)
  | .obj c k, v => ∃ a, v = .ref a ∧ W.as[k]? = some (a, .obj c)
  | .dct t k, v => ∃ a, v = .ref a ∧ W.as[k]? = some (a, .dic t)
  | .set is, v => ∃ a n, v = .ref a ∧ W.H a = some (.set (fun i => decide (i ∈ is)) n)
  | .exc c, v => ∃ a C φ, v = .ref a ∧ PySem.W.nsIn K mainGlobals (Str.ofString c) = some (some (.ref C)) ∧ W.H a = some (.ext φ) ∧ ∀ h, φ h → ∃ oe, PySem.W.InstAt h a oe C none
  | .tup ds, v => ∃ a vs, v = .ref a ∧ W.H a = some (.tup vs) ∧ Reps W ds vs
  | .lst ds, v => ∃ a vs, v = .ref a ∧ W.H a = some (.lst vs) ∧ ¬ Live W a ∧ ¬ W.lk a ∧ Reps W ds vs
  | .fro ds, v => ∃ a vs, v = .ref a ∧ SqF K W.H a vs ∧ Reps W ds vs
def Reps (W : Wd) : List D → List V → Prop
  | [], vs => vs = []
  | d :: ds, vs => ∃ v r, vs = v :: r ∧ Rep W d v ∧ Reps W ds r
end
structure Abs (W : Wd) : Prop where
  len : W.as.length = W.S.length
  inj : ∀ (i j : Nat) (a : Addr) (kd kd' : Kd) (xs ys : List D), W.S[i]? = some (some xs) → W.S[j]? = some (some ys) → W.as[i]? = some (a, kd) → W.as[j]? = some (a, kd') → i = j
  cell : ∀ (k : Nat) (xs : List D), W.S[k]? = some (some xs) → ∃ a kd ds us o, W.as[k]? = some (a, kd) ∧ W.H a = some o ∧ CelO K kd xs ds us o ∧ Reps K W ds us
  res : ∀ a, W.lk a → (∃ vs, W.H a = some (.lst vs)) ∧ ¬ Live W a
end
structure Ext (W W' : Wd) : Prop where
  keep : ∀ b o, W.H b = some o → ¬ Live W b → W'.H b = some o ∧ ¬ Live W' b ∧ (¬ W.lk b → ¬ W'.lk b)
  pre : ∀ (k : Nat) (a : Addr × Kd), W.as[k]? = some a → W'.as[k]? = some a
theorem Ext.refl (W : Wd) : Ext W W := ⟨fun b o h n => ⟨h, n, id⟩, fun _ _ h => h⟩
theorem Ext.trans {W1 W2 W3 : Wd} (a : Ext W1 W2) (b : Ext W2 W3) : Ext W1 W3 :=
  ⟨fun c o h n => let ⟨h1, n1, l1⟩ := a.keep c o h n; let ⟨h2, n2, l2⟩ := b.keep c o h1 n1; ⟨h2, n2, fun z => l2 (l1 z)⟩, fun k c h => b.pre k c (a.pre k c h)⟩
section
variable {K : PySem.W.Frag} {W W' W1 : Wd}
theorem Abs.nolive (A : Abs K W) {a : Addr} {o : HO} (h : W.H a = some o) (hn : ¬ isCel o) : ¬ Live W a := by
  rintro ⟨k, xs, kd, e1, e2⟩
  obtain ⟨b, kd', ds, us, o', e3, e4, e5, _⟩ := A.cell k xs e1
  rw [e2] at e3
  cases e3
  rw [h] at e4
  cases e4
  exact hn (celO_cel e5)
theorem SqF.ext {vs : List V} {a : Addr} (A : Abs K W) (E : Ext W W') (h : SqF K W.H a vs) : SqF K W'.H a vs := by
  rcases h with ⟨o, h⟩ | h
  · exact .inl ⟨o, (E.keep a _ h (A.nolive h (fun z => z))).1⟩
  · exact .inr h
mutual
theorem Rep.ext (A : Abs K W) (E : Ext W W') : ∀ (d : D) (v : V), Rep K W d v → Rep K W' d v
  | .non, v, h => by simpa only [Rep] using h
  | .bl b, v, h => by simpa only [Rep] using h
  | .int i, v, h => by simpa only [Rep] using h
  | .str s, v, h => by simpa only [Rep] using h
  | .ty n, v, h => by simpa only [Rep] using h
  | .dic t ks ds, v, h => by
    simp only [Rep] at h ⊢
    obtain ⟨a, us, o, e, h, h2, h3, n, r⟩ := h
    obtain ⟨q1, q2, _⟩ := E.keep a _ h n
    exact ⟨a, us, o, e, q1, h2, h3, q2, Reps.ext A E ds us r⟩
  | .set is, v, h => by
    simp only [Rep] at h ⊢
    obtain ⟨a, n, e, h⟩ := h
    exact ⟨a, n, e, (E.keep a _ h (A.nolive h (fun z => z))).1⟩
  | .exc c, v, h => by
    simp only [Rep] at h ⊢
    obtain ⟨a, C, φ, e, h0, h, h2⟩ := h
    exact ⟨a, C, φ, e, h0, (E.keep a _ h (A.nolive h (fun z => z))).1, h2⟩
  | .obj c k, v, h => by
    simp only [Rep] at h ⊢
    obtain ⟨a, e, h⟩ := h
    exact ⟨a, e, E.pre k _ h⟩
  | .dct t k, v, h => by
    simp only [Rep] at h ⊢
    obtain ⟨a, e, h⟩ := h
    exact ⟨a, e, E.pre k _ h⟩
  | .ref k, v, h => by
    simp only [Rep] at h ⊢
    obtain ⟨a, e, h⟩ := h
    exact ⟨a, e, E.pre k _ h⟩
  | .tup ds, v, h => by
    simp only [Rep] at h ⊢
    obtain ⟨a, vs, e, h, r⟩ := h
    exact ⟨a, vs, e, (E.keep a _ h (A.nolive h (fun z => z))).1, Reps.ext A E ds vs r⟩
  | .lst ds, v, h => by
    simp only [Rep] at h ⊢
    obtain ⟨a, vs, e, h, n, l, r⟩ := h
    obtain ⟨h1, n1, l1⟩ := E.keep a _ h n
    exact ⟨a, vs, e, h1, n1, l1 l, Reps.ext A E ds vs r⟩
  | .fro ds, v, h => by
    simp only [Rep] at h ⊢
    obtain ⟨a, vs, e, h, r⟩ := h
    exact ⟨a, vs, e, h.ext A E, Reps.ext A E ds vs r⟩
theorem Reps.ext (A : Abs K W) (E : Ext W W') : ∀ (ds : List D) (vs : List V), Reps K W ds vs → Reps K W' ds vs
  | [], vs, h => by simpa only [Reps] using h
  | d :: ds, vs, h => by
    simp only [Reps] at h ⊢
    obtain ⟨v, r, e, h1, h2⟩ := h
    exact ⟨v, r, e, Rep.ext A E d v h1, Reps.ext A E ds r h2⟩
end
/-- as Ext, but for the lists under work -/
structure ExtL (W W' : Wd) : Prop where
  keep : ∀ b o, W.H b = some o → ¬ Live W b → ¬ W.lk b → W'.H b = some o ∧ ¬ Live W' b ∧ ¬ W'.lk b
  pre : ∀ (k : Nat) (a : Addr × Kd), W.as[k]? = some a → W'.as[k]? = some a
theorem Ext.toL (E : Ext W W') : ExtL W W' := ⟨fun b o h n l => let ⟨h1, h2, h3⟩ := E.keep b o h n; ⟨h1, h2, h3 l⟩, E.pre⟩
theorem ExtL.trans {W1 W2 W3 : Wd} (a : ExtL W1 W2) (b : ExtL W2 W3) : ExtL W1 W3 :=
  ⟨fun c o h n l => let ⟨h1, n1, l1⟩ := a.keep c o h n l; b.keep c o h1 n1 l1, fun k c h => b.pre k c (a.pre k c h)⟩
theorem Abs.nolk (A : Abs K W) {a : Addr} {o : HO} (h : W.H a = some o) (hn : ∀ vs, o ≠ .lst vs) : ¬ W.lk a := fun z => by
  obtain ⟨⟨vs, e⟩, _⟩ := A.res a z
  rw [h] at e
  exact hn vs (Option.some.inj e)
mutual
theorem Rep.extL (A : Abs K W) (E : ExtL W W') : ∀ (d : D) (v : V), Rep K W d v → Rep K W' d v
  | .non, v, h => by simpa only [Rep] using h
  | .bl b, v, h => by simpa only [Rep] using h
  | .int i, v, h => by simpa only [Rep] using h
  | .str s, v, h => by simpa only [Rep] using h
  | .ty n, v, h => by simpa only [Rep] using h
  | .dic t ks ds, v, h => by
    simp only [Rep] at h ⊢
    obtain ⟨a, us, o, e, h, h2, h3, n, r⟩ := h
    obtain ⟨q1, q2, _⟩ := E.keep a _ h n (A.nolk h (fun vs z => dicO_nolst h3 z))
    exact ⟨a, us, o, e, q1, h2, h3, q2, Reps.extL A E ds us r⟩
  | .set is, v, h => by
    simp only [Rep] at h ⊢
    obtain ⟨a, n, e, h⟩ := h
    exact ⟨a, n, e, (E.keep a _ h (A.nolive h (fun z => z)) (A.nolk h (fun _ z => nomatch z))).1⟩
  | .exc c, v, h => by
    simp only [Rep] at h ⊢
    obtain ⟨a, C, φ, e, h0, h, h2⟩ := h
    exact ⟨a, C, φ, e, h0, (E.keep a _ h (A.nolive h (fun z => z)) (A.nolk h (fun _ z => nomatch z))).1, h2⟩
  | .obj c k, v, h => by
    simp only [Rep] at h ⊢
    obtain ⟨a, e, h⟩ := h
    exact ⟨a, e, E.pre k _ h⟩
  | .dct t k, v, h => by
    simp only [Rep] at h ⊢
    obtain ⟨a, e, h⟩ := h
    exact ⟨a, e, E.pre k _ h⟩
  | .ref k, v, h => by
    simp only [Rep] at h ⊢
    obtain ⟨a, e, h⟩ := h
    exact ⟨a, e, E.pre k _ h⟩
  | .tup ds, v, h => by
    simp only [Rep] at h ⊢
    obtain ⟨a, vs, e, h, r⟩ := h
    exact ⟨a, vs, e, (E.keep a _ h (A.nolive h (fun z => z)) (A.nolk h (fun _ z => nomatch z))).1, Reps.extL A E ds vs r⟩
  | .lst ds, v, h => by
    simp only [Rep] at h ⊢
    obtain ⟨a, vs, e, h, n, l, r⟩ := h
    obtain ⟨h1, n1, l1⟩ := E.keep a _ h n l
    exact ⟨a, vs, e, h1, n1, l1, Reps.extL A E ds vs r⟩
  | .fro ds, v, h => by
    simp only [Rep] at h ⊢
    obtain ⟨a, vs, e, h, r⟩ := h
    refine ⟨a, vs, e, ?_, Reps.extL A E ds vs r⟩
    rcases h with ⟨o, h⟩ | h
    · exact .inl ⟨o, (E.keep a _ h (A.nolive h (fun z => z)) (A.nolk h (fun _ z => nomatch z))).1⟩
    · exact .inr h
theorem Reps.extL (A : Abs K W) (E : ExtL W W') : ∀ (ds : List D) (vs : List V), Reps K W ds vs → Reps K W' ds vs
  | [], vs, h => by simpa only [Reps] using h
  | d :: ds, vs, h => by
    simp only [Reps] at h ⊢
    obtain ⟨v, r, e, h1, h2⟩ := h
    exact ⟨v, r, e, Rep.extL A E d v h1, Reps.extL A E ds r h2⟩
end
/-- the next world, with that store -/
structure Nxt (K : PySem.W.Frag) (W : Wd) (S' : Sto) (W' : Wd) : Prop where
  st : W'.S = S'
  lk : W'.lk = W.lk
  ab : Abs K W'
  ext : Ext W W'
theorem Nxt.refl (A : Abs K W) : Nxt K W W.S W := ⟨rfl, rfl, A, Ext.refl W⟩
theorem Nxt.trans {S1 S2 : Sto} {W2 : Wd} (a : Nxt K W S1 W1) (b : Nxt K W1 S2 W2) : Nxt K W S2 W2 := ⟨b.st, b.lk.trans a.lk, b.ab, a.ext.trans b.ext⟩
theorem Nxt.at_ {S1 : Sto} {W2 : Wd} (a : Nxt K W S1 W1) (b : Nxt K W1 W1.S W2) : Nxt K W S1 W2 := ⟨b.st.trans a.st, b.lk.trans a.lk, b.ab, a.ext.trans b.ext⟩
theorem reps_len : ∀ (ds : List D) (vs : List V), Reps K W ds vs → vs.length = ds.length
  | [], vs, h => by simp only [Reps] at h; subst h; rfl
  | d :: ds, vs, h => by
    simp only [Reps] at h
    obtain ⟨v, r, rfl, _, h2⟩ := h
    rw [List.length_cons, List.length_cons, reps_len ds r h2]
theorem reps_get : ∀ (ds : List D) (vs : List V) (i : Nat), Reps K W ds vs → ∀ d, ds[i]? = some d → ∃ v, vs[i]? = some v ∧ Rep K W d v
  | [], vs, i, h, d, e => by simp at e
  | d0 :: ds, vs, 0, h, d, e => by
    simp only [Reps] at h
    obtain ⟨v, r, rfl, h1, h2⟩ := h
    have e' : d0 = d := by simpa using e
    subst e'
    exact ⟨v, rfl, h1⟩
  | d0 :: ds, vs, i + 1, h, d, e => by
    simp only [Reps] at h
    obtain ⟨v, r, rfl, h1, h2⟩ := h
    obtain ⟨v', h3, h4⟩ := reps_get ds r i h2 d (by simpa using e)
    exact ⟨v', by simpa using h3, h4⟩
theorem reps_app : ∀ (ds es : List D) (vs us : List V), Reps K W ds vs → Reps K W es us → Reps K W (ds ++ es) (vs ++ us)
  | [], es, vs, us, h, h' => by simp only [Reps] at h; subst h; simpa using h'
  | d :: ds, es, vs, us, h, h' => by
    simp only [Reps] at h
    obtain ⟨v, r, rfl, h1, h2⟩ := h
    show Reps K W (d :: (ds ++ es)) (v :: (r ++ us))
    simp only [Reps]
    exact ⟨v, _, rfl, h1, reps_app ds es r us h2 h'⟩
theorem reps_one {d : D} {v : V} (h : Rep K W d v) : Reps K W [d] [v] := by
  simp only [Reps]
  exact ⟨v, [], rfl, h, rfl⟩
theorem reps_take : ∀ (n : Nat) (ds : List D) (vs : List V), Reps K W ds vs → Reps K W (ds.take n) (vs.take n)
  | 0, ds, vs, h => by simp [Reps]
  | n + 1, [], vs, h => by simp only [Reps] at h; subst h; simp [Reps]
  | n + 1, d :: ds, vs, h => by
    simp only [Reps] at h
    obtain ⟨v, r, rfl, h1, h2⟩ := h
    simp only [List.take_succ_cons, Reps]
    exact ⟨v, _, rfl, h1, reps_take n ds r h2⟩
theorem reps_drop : ∀ (n : Nat) (ds : List D) (vs : List V), Reps K W ds vs → Reps K W (ds.drop n) (vs.drop n)
  | 0, ds, vs, h => by simpa using h
  | n + 1, [], vs, h => by simp only [Reps] at h; subst h; simp [Reps]
  | n + 1, d :: ds, vs, h => by
    simp only [Reps] at h
    obtain ⟨v, r, rfl, h1, h2⟩ := h
    simpa using reps_drop n ds r h2
theorem reps_set : ∀ (n : Nat) (ds : List D) (vs : List V) (d : D) (v : V), Reps K W ds vs → Rep K W d v → Reps K W (ds.set n d) (vs.set n v)
  | n, [], vs, d, v, h, q => by simp only [Reps] at h; subst h; simp [Reps]
  | 0, d0 :: ds, vs, d, v, h, q => by
    simp only [Reps] at h
    obtain ⟨v0, r, rfl, h1, h2⟩ := h
    simp only [List.set_cons_zero, Reps]
    exact ⟨v, _, rfl, q, h2⟩
  | n + 1, d0 :: ds, vs, d, v, h, q => by
    simp only [Reps] at h
    obtain ⟨v0, r, rfl, h1, h2⟩ := h
    simp only [List.set_cons_succ, Reps]
    exact ⟨v0, _, rfl, h1, reps_set n ds r d v h2 q⟩
theorem reps_erase : ∀ (n : Nat) (ds : List D) (vs : List V), Reps K W ds vs → Reps K W (ds.eraseIdx n) (vs.eraseIdx n)
  | n, [], vs, h => by simp only [Reps] at h; subst h; simp [Reps]
  | 0, d0 :: ds, vs, h => by
    simp only [Reps] at h
    obtain ⟨v0, r, rfl, h1, h2⟩ := h
    simpa using h2
  | n + 1, d0 :: ds, vs, h => by
    simp only [Reps] at h
    obtain ⟨v0, r, rfl, h1, h2⟩ := h
    simp only [List.eraseIdx_cons_succ, Reps]
    exact ⟨v0, _, rfl, h1, reps_erase n ds r h2⟩
theorem reps_rng (i : Int) (n : Nat) : Reps K W (rngL i n) ((List.range n).map fun k => V.int (i + (k : Nat))) := by
  unfold rngL
  generalize List.range n = l
  induction l with
  | nil => simp [Reps]
  | cons k l ih =>
    simp only [List.map_cons, Reps]
    exact ⟨_, _, rfl, by simp only [Rep], ih⟩

/-! ### new objects, changed cells -/
theorem new_obj (A : Abs K W) {p : Addr} (hp : W.H p = none) (o : HO) : Nxt K W W.S { W with H := upd W.H p o } ∧ ¬ Live { W with H := upd W.H p o } p ∧ ¬ W.lk p := by
  have lv : ∀ b, Live { W with H := upd W.H p o } b ↔ Live W b := fun b => Iff.rfl
  have E : Ext W { W with H := upd W.H p o } := ⟨fun b u h n => ⟨by show upd W.H p o b = some u; rw [upd_ne (ne_of_none h hp)]; exact h, n, id⟩, fun _ _ h => h⟩
  have nl : ¬ Live W p := by
    rintro ⟨k, xs, kd, e1, e2⟩
    obtain ⟨b, _, ds, vs, _, e3, e4, _⟩ := A.cell k xs e1
    rw [e2] at e3
    cases e3
    rw [hp] at e4
    cases e4
  refine ⟨⟨rfl, rfl, ⟨A.len, A.inj, fun k xs e => ?_, fun a h => ?_⟩, E⟩, nl, fun h => ?_⟩
  · obtain ⟨a, kd, ds, vs, o', e1, e2, e3, r⟩ := A.cell k xs e
    exact ⟨a, kd, ds, vs, o', e1, by show upd W.H p o a = _; rw [upd_ne (ne_of_none e2 hp)]; exact e2, e3, Reps.ext A E _ _ r⟩
  · obtain ⟨⟨vs, e⟩, n⟩ := A.res a h
    exact ⟨⟨vs, by show upd W.H p o a = _; rw [upd_ne (ne_of_none e hp)]; exact e⟩, n⟩
  · obtain ⟨⟨vs, e⟩, n⟩ := A.res p h
    rw [hp] at e
    cases e
theorem new_tup (A : Abs K W) {p : Addr} (hp : W.H p = none) {ds : List D} {vs : List V} (r : Reps K W ds vs) : Nxt K W W.S { W with H := upd W.H p (.tup vs) } ∧ Rep K { W with H := upd W.H p (.tup vs) } (.tup ds) (.ref p) := by
  obtain ⟨N, _, _⟩ := new_obj A hp (.tup vs)
  refine ⟨N, ?_⟩
  simp only [Rep]
  exact ⟨p, vs, rfl, upd_same, Reps.ext A N.ext _ _ r⟩
theorem new_dic (A : Abs K W) {p : Addr} (hp : W.H p = none) {t : Bool} {ks : List Ky} {ds : List D} {us : List V} {o : HO} (h1 : us.length = ks.length) (h2 : dicO t ks us = some o) (r : Reps K W ds us) : Nxt K W W.S { W with H := upd W.H p o } ∧ Rep K { W with H := upd W.H p o } (.dic t ks ds) (.ref p) := by
  obtain ⟨N, n, _⟩ := new_obj A hp o
  refine ⟨N, ?_⟩
  simp only [Rep]
  exact ⟨p, us, o, rfl, upd_same, h1, h2, n, Reps.ext A N.ext _ _ r⟩
theorem new_lst (A : Abs K W) {p : Addr} (hp : W.H p = none) {ds : List D} {vs : List V} (r : Reps K W ds vs) : Nxt K W W.S { W with H := upd W.H p (.lst vs) } ∧ Rep K { W with H := upd W.H p (.lst vs) } (.lst ds) (.ref p) := by
  obtain ⟨N, n1, n2⟩ := new_obj A hp (.lst vs)
  refine ⟨N, ?_⟩
  simp only [Rep]
  exact ⟨p, vs, rfl, upd_same, n1, n2, Reps.ext A N.ext _ _ r⟩
theorem live_app (A : Abs K W) {p b : Addr} {kd : Kd} {ds : List D} {H' : Hp} {l : Addr → Prop} (h : Live { H := H', S := W.S ++ [some ds], as := W.as ++ [(p, kd)], lk := l } b) : Live W b ∨ b = p := by
  obtain ⟨k, xs, kd', h1, h2⟩ := h
  have h1 : (W.S ++ [some ds])[k]? = some (some xs) := h1
  have h2 : (W.as ++ [(p, kd)])[k]? = some (b, kd') := h2
  by_cases hk : k < W.S.length
  · rw [List.getElem?_append_left hk] at h1
    rw [List.getElem?_append_left (by rw [A.len]; exact hk)] at h2
    exact .inl ⟨k, xs, kd', h1, h2⟩
  · rw [List.getElem?_append_right (by rw [A.len]; omega)] at h2
    have := (List.getElem?_eq_some_iff.mp h2).1
    simp at this
    rw [show k - W.as.length = 0 by omega] at h2
    simp at h2
    exact .inr h2.1.symm
/-- a new cell of any kind -/
theorem new_cellK (A : Abs K W) {p : Addr} (hp : W.H p = none) {kd : Kd} {xs ds : List D} {us : List V} {o : HO} (hc : CelO K kd xs ds us o) (r : Reps K W ds us) :
    Nxt K W (W.S ++ [some xs]) { H := upd W.H p o, S := W.S ++ [some xs], as := W.as ++ [(p, kd)], lk := W.lk } ∧ (W.as ++ [(p, kd)])[W.S.length]? = some (p, kd) := by
  obtain ⟨N, n1, n2⟩ := new_obj A hp o
  have E : Ext W { H := upd W.H p o, S := W.S ++ [some xs], as := W.as ++ [(p, kd)], lk := W.lk } := by
    refine ⟨fun b u h n => ⟨(N.ext.keep b u h n).1, fun z => ?_, id⟩, fun k a h => ?_⟩
    · rcases live_app A z with q | q
      · exact n q
      · subst q
        rw [hp] at h
        cases h
    · show (W.as ++ [(p, kd)])[k]? = some a
      rw [List.getElem?_append_left (List.getElem?_eq_some_iff.mp h).1]
      exact h
  -- the cells, one by one
  have ap : (W.as ++ [(p, kd)])[W.S.length]? = some (p, kd) := by rw [← A.len]; simp
  have cs : ∀ {k : Nat} {ys : List D}, (W.S ++ [some xs])[k]? = some (some ys) → W.S[k]? = some (some ys) ∨ (k = W.S.length ∧ ys = xs) := fun {k ys} e => by
    by_cases hk : k < W.S.length
    · rw [List.getElem?_append_left hk] at e
      exact .inl e
    · rw [List.getElem?_append_right (by omega)] at e
      have : k - W.S.length = 0 := by
        have := (List.getElem?_eq_some_iff.mp e).1
        simp at this
        omega
      rw [this] at e
      simp at e
      exact .inr ⟨by omega, e.symm⟩
  have lb : ∀ {k : Nat} {ys : List D}, W.S[k]? = some (some ys) → ∀ {a}, (W.as ++ [(p, kd)])[k]? = some a → W.as[k]? = some a := fun {k ys} e {a} h => by
    rw [List.getElem?_append_left (by rw [A.len]; exact (List.getElem?_eq_some_iff.mp e).1)] at h
    exact h
  refine ⟨⟨rfl, rfl, ?_, E⟩, ap⟩
  refine ⟨by simp [A.len], fun i j a k1 k2 ys zs h1 h2 h3 h4 => ?_, fun k ys h => ?_, fun a h => ?_⟩
  · rcases cs h1 with q1 | ⟨q1, _⟩
    · rcases cs h2 with q2 | ⟨q2, _⟩
      · exact A.inj i j a k1 k2 ys zs q1 q2 (lb q1 h3) (lb q2 h4)
      · subst q2
        have h4 : (W.as ++ [(p, kd)])[W.S.length]? = some (a, k2) := h4
        rw [ap] at h4
        cases h4
        exact absurd ⟨i, ys, k1, q1, lb q1 h3⟩ n1
    · subst q1
      have h3 : (W.as ++ [(p, kd)])[W.S.length]? = some (a, k1) := h3
      rw [ap] at h3
      cases h3
      rcases cs h2 with q2 | ⟨q2, _⟩
      · exact absurd ⟨j, zs, k2, q2, lb q2 h4⟩ n1
      · exact q2.symm
  · rcases cs h with q | ⟨q, e⟩
    · obtain ⟨a, kd1, ds1, us1, o1, e1, e2, e3, r1⟩ := A.cell k ys q
      exact ⟨a, kd1, ds1, us1, o1, E.pre k _ e1, by show upd W.H p _ a = _; rw [upd_ne (ne_of_none e2 hp)]; exact e2, e3, Reps.ext A E _ _ r1⟩
    · subst q e
      exact ⟨p, kd, ds, us, o, ap, upd_same, hc, Reps.ext A E _ _ r⟩
  · obtain ⟨⟨us, e⟩, q2⟩ := A.res a h
    refine ⟨⟨us, by show upd W.H p _ a = _; rw [upd_ne (ne_of_none e hp)]; exact e⟩, fun z => ?_⟩
    rcases live_app A z with q | q
    · exact q2 q
    · subst q
      rw [hp] at e
      cases e
theorem new_cell (A : Abs K W) {p : Addr} (hp : W.H p = none) {ds : List D} {vs : List V} (r : Reps K W ds vs) :
    Nxt K W (W.S ++ [some ds]) { H := upd W.H p (.lst vs), S := W.S ++ [some ds], as := W.as ++ [(p, .lst)], lk := W.lk } ∧ Rep K { H := upd W.H p (.lst vs), S := W.S ++ [some ds], as := W.as ++ [(p, .lst)], lk := W.lk } (.ref W.S.length) (.ref p) := by
  obtain ⟨N, q⟩ := new_cellK A hp (kd := .lst) (xs := ds) (o := .lst vs) ⟨rfl, rfl⟩ r
  refine ⟨N, ?_⟩
  simp only [Rep]
  exact ⟨p, rfl, q⟩
theorem set_cellK (A : Abs K W) {k : Nat} {xs0 xs ds : List D} {a : Addr} {kd : Kd} {us : List V} {o : HO} (hk : W.S[k]? = some (some xs0)) (ha : W.as[k]? = some (a, kd)) (hc : CelO K kd xs ds us o) (r : Reps K W ds us) :
    Nxt K W (W.S.set k (some xs)) { W with H := upd W.H a o, S := W.S.set k (some xs) } := by
  have hkl : k < W.S.length := (List.getElem?_eq_some_iff.mp hk).1
  have la : Live W a := ⟨k, xs0, kd, hk, ha⟩
  have cs : ∀ {j : Nat} {ys : List D}, (W.S.set k (some xs))[j]? = some (some ys) → (j = k ∧ ys = xs) ∨ (j ≠ k ∧ W.S[j]? = some (some ys)) := fun {j ys} e => by
    by_cases hj : j = k
    · subst hj
      rw [List.getElem?_set_self hkl] at e
      cases e
      exact .inl ⟨rfl, rfl⟩
    · rw [List.getElem?_set_ne (Ne.symm hj)] at e
      exact .inr ⟨hj, e⟩
  have lv : ∀ b, Live { W with H := upd W.H a o, S := W.S.set k (some xs) } b → Live W b := fun b ⟨j, ys, kd', h1, h2⟩ => by
    rcases cs h1 with ⟨q, _⟩ | ⟨_, q⟩
    · subst q
      exact ⟨j, xs0, kd', hk, h2⟩
    · exact ⟨j, ys, kd', q, h2⟩
  have E : Ext W { W with H := upd W.H a o, S := W.S.set k (some xs) } := by
    refine ⟨fun b u h n => ⟨?_, fun z => n (lv b z), id⟩, fun _ _ h => h⟩
    show upd W.H a _ b = some u
    rw [upd_ne (fun z : b = a => n (by rw [z]; exact la))]
    exact h
  refine ⟨rfl, rfl, ⟨by simp [A.len], fun i j b k1 k2 xs' ys h1 h2 h3 h4 => ?_, fun j ys h => ?_, fun b h => ?_⟩, E⟩
  · have g : ∀ {i : Nat} {zs : List D}, (W.S.set k (some xs))[i]? = some (some zs) → ∃ ws, W.S[i]? = some (some ws) := fun {i zs} e => by
      rcases cs e with ⟨q, _⟩ | ⟨_, q⟩
      · subst q; exact ⟨xs0, hk⟩
      · exact ⟨zs, q⟩
    obtain ⟨w1, g1⟩ := g h1
    obtain ⟨w2, g2⟩ := g h2
    exact A.inj i j b k1 k2 w1 w2 g1 g2 h3 h4
  · rcases cs h with ⟨q, e⟩ | ⟨hj, q⟩
    · subst q e
      exact ⟨a, kd, ds, us, o, ha, upd_same, hc, Reps.ext A E _ _ r⟩
    · obtain ⟨b, kd1, ds1, us1, o1, e1, e2, e3, r1⟩ := A.cell j ys q
      refine ⟨b, kd1, ds1, us1, o1, e1, ?_, e3, Reps.ext A E _ _ r1⟩
      show upd W.H a _ b = _
      rw [upd_ne (fun z : b = a => hj (A.inj j k b kd1 kd ys xs0 q hk e1 (by rw [z]; exact ha)))]
      exact e2
  · obtain ⟨⟨us, e⟩, q⟩ := A.res b h
    refine ⟨⟨us, ?_⟩, fun z => q (lv b z)⟩
    show upd W.H a _ b = _
    rw [upd_ne (fun z : b = a => q (by rw [z]; exact la))]
    exact e
theorem set_cell (A : Abs K W) {k : Nat} {xs ds : List D} {a : Addr} {vs : List V} (hk : W.S[k]? = some (some xs)) (ha : W.as[k]? = some (a, .lst)) (r : Reps K W ds vs) :
    Nxt K W (W.S.set k (some ds)) { W with H := upd W.H a (.lst vs), S := W.S.set k (some ds) } := set_cellK A hk ha (kd := .lst) (o := .lst vs) ⟨rfl, rfl⟩ r

/-- a cell's list is settled: it changes no more -/
theorem settle_cell (A : Abs K W) {k : Nat} {xs : List D} {a : Addr} {vs : List V} (hk : W.S[k]? = some (some xs)) (ha : W.as[k]? = some (a, .lst)) (hH : W.H a = some (.lst vs)) (r : Reps K W xs vs) :
    Abs K { W with S := W.S.set k none } ∧ Ext W { W with S := W.S.set k none } ∧ Rep K { W with S := W.S.set k none } (.lst xs) (.ref a) := by
  have cs : ∀ {j : Nat} {ys : List D}, (W.S.set k none)[j]? = some (some ys) → j ≠ k ∧ W.S[j]? = some (some ys) := fun {j ys} e => by
    by_cases hj : j = k
    · subst hj
      rw [List.getElem?_set_self (List.getElem?_eq_some_iff.mp hk).1] at e
      cases e
    · rw [List.getElem?_set_ne (Ne.symm hj)] at e
      exact ⟨hj, e⟩
  have lv : ∀ b, Live { W with S := W.S.set k none } b → Live W b := fun b ⟨j, ys, kd, h1, h2⟩ => ⟨j, ys, kd, (cs h1).2, h2⟩
  have E : Ext W { W with S := W.S.set k none } := ⟨fun b o h n => ⟨h, fun z => n (lv b z), id⟩, fun _ _ h => h⟩
  refine ⟨⟨by simp [A.len], fun i j b k1 k2 ys zs h1 h2 h3 h4 => A.inj i j b k1 k2 ys zs (cs h1).2 (cs h2).2 h3 h4, fun j ys h => ?_, fun b h => ?_⟩, E, ?_⟩
  · obtain ⟨b, kd, ds, us, o, e1, e2, e3, r1⟩ := A.cell j ys (cs h).2
    exact ⟨b, kd, ds, us, o, e1, e2, e3, Reps.ext A E _ _ r1⟩
  · obtain ⟨h1, h2⟩ := A.res b h
    exact ⟨h1, fun z => h2 (lv b z)⟩
  · simp only [Rep]
    refine ⟨a, vs, rfl, hH, ?_, fun z => (A.res a z).2 ⟨k, xs, _, hk, ha⟩, Reps.ext A E _ _ r⟩
    rintro ⟨j, ys, kd, h1, h2⟩
    obtain ⟨h3, h4⟩ := cs h1
    exact h3 (A.inj j k a kd .lst ys xs h4 hk h2 ha)
/-! ### a list under work: its place is locked -/
theorem res_start (A : Abs K W) {p : Addr} (hp : W.H p = none) : Abs K { W with H := upd W.H p (.lst []), lk := fun a => a = p ∨ W.lk a } ∧ Ext W { W with H := upd W.H p (.lst []), lk := fun a => a = p ∨ W.lk a } := by
  obtain ⟨N, n1, n2⟩ := new_obj A hp (.lst [])
  have E : Ext W { W with H := upd W.H p (.lst []), lk := fun a => a = p ∨ W.lk a } := by
    refine ⟨fun b u h n => ⟨(N.ext.keep b u h n).1, n, fun z q => ?_⟩, fun _ _ h => h⟩
    rcases q with q | q
    · subst q
      rw [hp] at h
      cases h
    · exact z q
  refine ⟨⟨A.len, A.inj, fun k xs e => ?_, fun a h => ?_⟩, E⟩
  · obtain ⟨a, kd, ds, vs, o, e1, e2, e3, r⟩ := A.cell k xs e
    exact ⟨a, kd, ds, vs, o, e1, by show upd W.H p _ a = _; rw [upd_ne (ne_of_none e2 hp)]; exact e2, e3, Reps.ext A E _ _ r⟩
  · rcases h with h | h
    · subst h
      exact ⟨⟨[], upd_same⟩, n1⟩
    · obtain ⟨⟨vs, e⟩, n⟩ := A.res a h
      exact ⟨⟨vs, by show upd W.H p _ a = _; rw [upd_ne (ne_of_none e hp)]; exact e⟩, n⟩
mutual
theorem Rep.upd (A : Abs K W) {p : Addr} (hl : W.lk p) (us : List V) : ∀ (d : D) (v : V), Rep K W d v → Rep K { W with H := upd W.H p (.lst us) } d v
  | .non, v, h => by simpa only [Rep] using h
  | .bl b, v, h => by simpa only [Rep] using h
  | .int i, v, h => by simpa only [Rep] using h
  | .str s, v, h => by simpa only [Rep] using h
  | .ty n, v, h => by simpa only [Rep] using h
  | .dic t ks ds, v, h => by
    simp only [Rep] at h ⊢
    obtain ⟨a, us', o, e, h, h2, h3, n, r⟩ := h
    refine ⟨a, us', o, e, ?_, h2, h3, n, Reps.upd A hl us ds us' r⟩
    obtain ⟨⟨ws, e2⟩, _⟩ := A.res p hl
    rw [upd_ne (ne_of h e2 (fun z => dicO_nolst h3 z))]
    exact h
  | .set is, v, h => by
    simp only [Rep] at h ⊢
    obtain ⟨a, n, e, h⟩ := h
    refine ⟨a, n, e, ?_⟩
    obtain ⟨⟨ws, e2⟩, _⟩ := A.res p hl
    rw [upd_ne (ne_of h e2 (fun z => nomatch z))]
    exact h
  | .exc c, v, h => by
    simp only [Rep] at h ⊢
    obtain ⟨a, C, φ, e, h0, h, h2⟩ := h
    refine ⟨a, C, φ, e, h0, ?_, h2⟩
    obtain ⟨⟨ws, e2⟩, _⟩ := A.res p hl
    rw [upd_ne (ne_of h e2 (fun z => nomatch z))]
    exact h
  | .obj c k, v, h => by simpa only [Rep] using h
  | .dct t k, v, h => by simpa only [Rep] using h
  | .ref k, v, h => by simpa only [Rep] using h
  | .tup ds, v, h => by
    simp only [Rep] at h ⊢
    obtain ⟨a, vs, e, h, r⟩ := h
    refine ⟨a, vs, e, ?_, Reps.upd A hl us ds vs r⟩
    obtain ⟨⟨ws, e2⟩, _⟩ := A.res p hl
    rw [upd_ne (ne_of h e2 (fun z => nomatch z))]
    exact h
  | .lst ds, v, h => by
    simp only [Rep] at h ⊢
    obtain ⟨a, vs, e, h, n, l, r⟩ := h
    refine ⟨a, vs, e, ?_, n, l, Reps.upd A hl us ds vs r⟩
    rw [upd_ne (fun z : a = p => l (by rw [z]; exact hl))]
    exact h
  | .fro ds, v, h => by
    simp only [Rep] at h ⊢
    obtain ⟨a, vs, e, h, r⟩ := h
    refine ⟨a, vs, e, ?_, Reps.upd A hl us ds vs r⟩
    rcases h with ⟨o, h⟩ | h
    · obtain ⟨⟨ws, e2⟩, _⟩ := A.res p hl
      refine .inl ⟨o, ?_⟩
      rw [upd_ne (ne_of h e2 (fun z => nomatch z))]
      exact h
    · exact .inr h
theorem Reps.upd (A : Abs K W) {p : Addr} (hl : W.lk p) (us : List V) : ∀ (ds : List D) (vs : List V), Reps K W ds vs → Reps K { W with H := upd W.H p (.lst us) } ds vs
  | [], vs, h => by simpa only [Reps] using h
  | d :: ds, vs, h => by
    simp only [Reps] at h ⊢
    obtain ⟨v, r, e, h1, h2⟩ := h
    exact ⟨v, r, e, Rep.upd A hl us d v h1, Reps.upd A hl us ds r h2⟩
end
theorem res_upd (A : Abs K W) {p : Addr} (hl : W.lk p) (us : List V) : Abs K { W with H := upd W.H p (.lst us) } := by
  obtain ⟨⟨ws, e0⟩, nl⟩ := A.res p hl
  refine ⟨A.len, A.inj, fun k xs e => ?_, fun a h => ?_⟩
  · obtain ⟨a, kd, ds, vs, o, e1, e2, e3, r⟩ := A.cell k xs e
    refine ⟨a, kd, ds, vs, o, e1, ?_, e3, Reps.upd A hl us _ _ r⟩
    show L2.upd W.H p _ a = _
    rw [upd_ne (fun z : a = p => nl (by rw [← z]; exact ⟨k, xs, kd, e, e1⟩))]
    exact e2
  · obtain ⟨⟨vs, e⟩, n⟩ := A.res a h
    refine ⟨?_, n⟩
    by_cases ha : a = p
    · subst ha
      exact ⟨us, upd_same⟩
    · exact ⟨vs, by show L2.upd W.H p _ a = _; rw [upd_ne ha]; exact e⟩
mutual
theorem Rep.lkm {l : Addr → Prop} (hl : ∀ a, l a → W.lk a) : ∀ (d : D) (v : V), Rep K W d v → Rep K { W with lk := l } d v
  | .non, v, h => by simpa only [Rep] using h
  | .bl b, v, h => by simpa only [Rep] using h
  | .int i, v, h => by simpa only [Rep] using h
  | .str s, v, h => by simpa only [Rep] using h
  | .ty n, v, h => by simpa only [Rep] using h
  | .dic t ks ds, v, h => by
    simp only [Rep] at h ⊢
    obtain ⟨a, us, o, e, h, h2, h3, n, r⟩ := h
    exact ⟨a, us, o, e, h, h2, h3, n, Reps.lkm hl ds us r⟩
  | .set is, v, h => by simpa only [Rep] using h
  | .exc c, v, h => by simpa only [Rep] using h
  | .obj c k, v, h => by simpa only [Rep] using h
  | .dct t k, v, h => by simpa only [Rep] using h
  | .ref k, v, h => by simpa only [Rep] using h
  | .tup ds, v, h => by
    simp only [Rep] at h ⊢
    obtain ⟨a, vs, e, h, r⟩ := h
    exact ⟨a, vs, e, h, Reps.lkm hl ds vs r⟩
  | .lst ds, v, h => by
    simp only [Rep] at h ⊢
    obtain ⟨a, vs, e, h, n, k, r⟩ := h
    exact ⟨a, vs, e, h, n, fun z => k (hl a z), Reps.lkm hl ds vs r⟩
  | .fro ds, v, h => by
    simp only [Rep] at h ⊢
    obtain ⟨a, vs, e, h, r⟩ := h
    exact ⟨a, vs, e, h, Reps.lkm hl ds vs r⟩
theorem Reps.lkm {l : Addr → Prop} (hl : ∀ a, l a → W.lk a) : ∀ (ds : List D) (vs : List V), Reps K W ds vs → Reps K { W with lk := l } ds vs
  | [], vs, h => by simpa only [Reps] using h
  | d :: ds, vs, h => by
    simp only [Reps] at h ⊢
    obtain ⟨v, r, e, h1, h2⟩ := h
    exact ⟨v, r, e, Rep.lkm hl d v h1, Reps.lkm hl ds r h2⟩
end
theorem res_end (A : Abs K W) {l : Addr → Prop} (hl : ∀ a, l a → W.lk a) : Abs K { W with lk := l } :=
  ⟨A.len, A.inj, fun k xs e => let ⟨a, kd, ds, vs, o, e1, e2, e3, r⟩ := A.cell k xs e; ⟨a, kd, ds, vs, o, e1, e2, e3, Reps.lkm hl _ _ r⟩, fun a h => A.res a (hl a h)⟩
end
end AG
namespace AG
open PySem PySem.Spec PyProof.Rows L2

def Sl (K : PySem.W.Frag) (W : Wd) (ρ : Env) (σ : L2.St) : Prop := ρ.length = σ.length ∧ ∀ (i : Nat) (d : D), ρ[i]? = some (some d) → ∃ v, σ[i]? = some (some v) ∧ Rep K W d v
theorem Sl.ext {K : PySem.W.Frag} {W W' : Wd} {ρ : Env} {σ : L2.St} (A : Abs K W) (E : Ext W W') (h : Sl K W ρ σ) : Sl K W' ρ σ :=
  ⟨h.1, fun i d e => let ⟨v, h1, h2⟩ := h.2 i d e; ⟨v, h1, Rep.ext A E d v h2⟩⟩
theorem Sl.extL {K : PySem.W.Frag} {W W' : Wd} {ρ : Env} {σ : L2.St} (A : Abs K W) (E : ExtL W W') (h : Sl K W ρ σ) : Sl K W' ρ σ :=
  ⟨h.1, fun i d e => let ⟨v, h1, h2⟩ := h.2 i d e; ⟨v, h1, Rep.extL A E d v h2⟩⟩
theorem Sl.set {K : PySem.W.Frag} {W : Wd} {ρ : Env} {σ : L2.St} {d : D} {v : V} (h : Sl K W ρ σ) (i : Nat) (r : Rep K W d v) : Sl K W (ρ.set i (some d)) (σ.set i (some v)) := by
  refine ⟨by simp [h.1], fun j d' e => ?_⟩
  by_cases hj : j = i
  · subst hj
    have hl : j < ρ.length := by
      have := (List.getElem?_eq_some_iff.mp e).1
      simpa using this
    rw [List.getElem?_set_self hl] at e
    cases e
    exact ⟨v, by rw [List.getElem?_set_self (by rw [← h.1]; exact hl)], r⟩
  · rw [List.getElem?_set_ne (Ne.symm hj)] at e
    obtain ⟨v', h1, h2⟩ := h.2 j d' e
    exact ⟨v', by rw [List.getElem?_set_ne (Ne.symm hj)]; exact h1, h2⟩
/-! ### readings -/
section
variable (K : PySem.W.Frag)
def tI (m : Env → M D) : TE := fun σ H Q => ∃ (W : Wd) (ρ : Env), W.H = H ∧ Abs K W ∧ Sl K W ρ σ ∧ ∃ d S', m ρ W.S = .ok d S' ∧ ∀ W' v, Nxt K W S' W' → Rep K W' d v → Q v W'.H
def tT (m : Env → M Bool) : TT := fun σ H Q => ∃ (W : Wd) (ρ : Env), W.H = H ∧ Abs K W ∧ Sl K W ρ σ ∧ ∃ k S', m ρ W.S = .ok k S' ∧ ∀ W', Nxt K W S' W' → Q k W'.H
def tAs (m : Env → M (List D)) : TA := fun σ H Q => ∃ (W : Wd) (ρ : Env), W.H = H ∧ Abs K W ∧ Sl K W ρ σ ∧ ∃ ds S', m ρ W.S = .ok ds S' ∧ ∀ W' vs, Nxt K W S' W' → Reps K W' ds vs → Q vs W'.H
def tOi (m : Env → M (Option Int)) : TO := fun σ H Q => ∃ (W : Wd) (ρ : Env), W.H = H ∧ Abs K W ∧ Sl K W ρ σ ∧ ∃ o S', m ρ W.S = .ok o S' ∧ ∀ W', Nxt K W S' W' → Q o W'.H
end
section
variable {X : Cx} {a b c e : Expr} {ta : TE} {pos : Pos} {ma mb mc : Env → M D}
theorem _root_.L2.PE.weak {t t' : TE} (h : PE X e t) (w : ∀ σ H Q, t' σ H Q → t σ H Q) : PE X e t' := ⟨fun pins s σ H Q I q => h.run pins s σ H Q I (w σ H Q q)⟩
theorem _root_.L2.PT.weak {t t' : TT} (h : PT X e t) (w : ∀ σ H Q, t' σ H Q → t σ H Q) : PT X e t' := ⟨fun pins s σ H Q I q => h.run pins s σ H Q I (w σ H Q q)⟩
theorem _root_.L2.PW.weak {t t' : TT} (h : PW X e t) (w : ∀ σ H Q, t' σ H Q → t σ H Q) : PW X e t' := ⟨fun wh pins s σ H Q I q => h.run wh pins s σ H Q I (w σ H Q q)⟩
theorem _root_.L2.PA.weak {es : List Expr} {t t' : TA} (h : PA X es t) (w : ∀ σ H Q, t' σ H Q → t σ H Q) : PA X es t' := ⟨fun p pins s σ H Q I q => h.run p pins s σ H Q I (w σ H Q q)⟩
theorem _root_.L2.PS.weak {st : Stmt} {t t' : TS} (h : PS X st t) (w : ∀ D σ H, t' D σ H → t D σ H) : PS X st t' := ⟨fun pins s σ H D I q => h.run pins s σ H D I (w D σ H q)⟩
theorem _root_.L2.PSs.weak {st : List Stmt} {t t' : TS} (h : PSs X st t) (w : ∀ D σ H, t' D σ H → t D σ H) : PSs X st t' := ⟨fun pins s σ H D I q => h.run pins s σ H D I (w D σ H q)⟩

/-- a rule of two values, by data -/
def OpOk (K : PySem.W.Frag) (r : R2) (g : D → D → M D) : Prop :=
  ∀ (W : Wd) (d1 d2 : D) (v1 v2 : V) (d : D) (S' : Sto) (Q : VK), Abs K W → Rep K W d1 v1 → Rep K W d2 v2 → g d1 d2 W.S = .ok d S' → (∀ W' v, Nxt K W S' W' → Rep K W' d v → Q v W'.H) → r v1 v2 W.H Q
theorem s_op2 {r : R2} {g : D → D → M D} (hk : OpOk X.K r g) : ∀ σ H Q, tI X.K (fun ρ => bnd (ma ρ) fun x => bnd (mb ρ) fun y => g x y) σ H Q → tOp r (tI X.K ma) (tI X.K mb) σ H Q := by
  rintro σ H Q ⟨W, ρ, rfl, A, sl, d, S', e, k⟩
  obtain ⟨x, S1, e1, e⟩ := bnd_ok e
  obtain ⟨y, S2, e2, e⟩ := bnd_ok e
  refine ⟨W, ρ, rfl, A, sl, x, S1, e1, fun W1 v1 N1 r1 => ?_⟩
  refine ⟨W1, ρ, rfl, N1.ab, sl.ext A N1.ext, y, S2, by rw [N1.st]; exact e2, fun W2 v2 N2 r2 => ?_⟩
  exact hk W2 x y v1 v2 d S' Q N2.ab (Rep.ext N1.ab N2.ext _ _ r1) r2 (by rw [N2.st]; exact e) fun W3 v N3 r3 => k W3 v ((N1.trans N2).trans N3) r3
theorem s_bin {op : Operator} {r : R2} {g : D → D → M D} (ho : OpR X (binaryOp op) r) (hk : OpOk X.K r g) (ha : PE X a (tI X.K ma)) (hb : PE X b (tI X.K mb)) :
    PE X (.BinOp a op b pos) (tI X.K fun ρ => bnd (ma ρ) fun x => bnd (mb ρ) fun y => g x y) := (pe_op ho ha hb).weak (s_op2 hk)
theorem rep_int {K : PySem.W.Frag} {W : Wd} {i : Int} {v : V} (h : Rep K W (.int i) v) : v = .int i := by simpa only [Rep] using h
theorem rep_bl {K : PySem.W.Frag} {W : Wd} {i : Bool} {v : V} (h : Rep K W (.bl i) v) : v = .bl i := by simpa only [Rep] using h
theorem int_rep {K : PySem.W.Frag} {W : Wd} (i : Int) : Rep K W (.int i) (.int i) := by simp only [Rep]
theorem bl_rep {K : PySem.W.Frag} {W : Wd} (i : Bool) : Rep K W (.bl i) (.bl i) := by simp only [Rep]
theorem str_rep {K : PySem.W.Frag} {W : Wd} (i : Str) : Rep K W (.str i) (.str i) := by simp only [Rep]
theorem small_le {n : Nat} (h : AG.small n = true) : n ≤ 1000000 := of_decide_eq_true h
theorem line_1M {n : Nat} (h : n ≤ 3000000) : n ≤ sizeLine := by rw [sizeLine_eq]; omega
theorem big_lt {i : Int} (h : big i = true) : i.natAbs < 2 ^ 200 := of_decide_eq_true h
theorem and2 {a b : Bool} (h : (a && b) = true) : a = true ∧ b = true := by
  cases a <;> cases b <;> simp_all
theorem ret_inv {α : Type} {a b : α} {S S' : Sto} (h : ret a S = .ok b S') : a = b ∧ S = S' := ret_ok h

/-! ### the operators -/
def rAdd (K : PySem.W.Frag) : R2 := fun x y H Q => (∃ i j, x = .int i ∧ y = .int j ∧ Q (.int (i + j)) H) ∨ (rCatA K x y H Q ∨ rCat x y H Q)
theorem o_add : OpR X (binaryOp .Add) (rAdd X.K) := OpR.or op_add (OpR.or op_catA op_cat)
theorem k_add {K : PySem.W.Frag} : OpOk K (rAdd K) (binD .Add) := by
  intro W d1 d2 v1 v2 d S' Q A r1 r2 e k
  change addD d1 d2 W.S = _ at e
  unfold addD at e
  split at e
  · obtain ⟨rfl, rfl⟩ := ret_ok e
    rw [rep_int r1, rep_int r2]
    exact .inl ⟨_, _, rfl, rfl, k W _ (Nxt.refl A) (int_rep _)⟩
  · rename_i xs ys
    obtain ⟨c, e⟩ := need_ok e
    obtain ⟨rfl, rfl⟩ := ret_ok e
    obtain ⟨c1, c2⟩ := and2 c
    have r1' := r1
    have r2' := r2
    simp only [Rep] at r1 r2
    obtain ⟨p, vs, rfl, hp, q1⟩ := r1
    obtain ⟨p2, us, rfl, hp2, q2⟩ := r2
    refine .inr (.inl ⟨p, p2, vs, us, rfl, rfl, SqT.of hp, SqT.of hp2, ?_, fun z => ?_, fun z z2 => ?_, fun z z2 q hq => ?_⟩)
    · rw [reps_len _ _ q1, reps_len _ _ q2]
      have := small_le c1; have := small_le c2
      exact line_1M (by omega)
    · subst z
      have hx : xs = [] := by
        have := reps_len _ _ q1
        cases xs with
        | nil => rfl
        | cons _ _ => simp at this
      subst hx
      exact k W _ (Nxt.refl A) (by simpa using r2')
    · subst z2
      have hx : ys = [] := by
        have := reps_len _ _ q2
        cases ys with
        | nil => rfl
        | cons _ _ => simp at this
      subst hx
      exact k W _ (Nxt.refl A) (by simpa using r1')
    · obtain ⟨N, r⟩ := new_tup A hq (reps_app _ _ _ _ q1 q2)
      exact k _ _ N r
  · obtain ⟨c, e⟩ := need_ok e
    obtain ⟨rfl, rfl⟩ := ret_ok e
    obtain ⟨c1, c2⟩ := and2 c
    simp only [Rep] at r1 r2
    obtain ⟨p, vs, rfl, hp, _, _, q1⟩ := r1
    obtain ⟨p2, us, rfl, hp2, _, _, q2⟩ := r2
    refine .inr (.inr ⟨p, p2, vs, us, rfl, rfl, hp, hp2, ?_, fun q hq => ?_⟩)
    · rw [reps_len _ _ q1, reps_len _ _ q2]
      have := small_le c1; have := small_le c2
      exact line_1M (by omega)
    · obtain ⟨N, r⟩ := new_lst A hq (reps_app _ _ _ _ q1 q2)
      exact k _ _ N r
  · cases e
theorem o_sub : OpR X (binaryOp .Sub) (rI0 fun i j => .int (i - j)) := op_sub
theorem k_sub {K : PySem.W.Frag} : OpOk K (rI0 fun i j => .int (i - j)) (binD .Sub) := by
  intro W d1 d2 v1 v2 d S' Q A r1 r2 e k
  change subD d1 d2 W.S = _ at e
  unfold subD at e
  split at e
  · obtain ⟨rfl, rfl⟩ := ret_ok e
    rw [rep_int r1, rep_int r2]
    exact ⟨_, _, rfl, rfl, k W _ (Nxt.refl A) (int_rep _)⟩
  · cases e
theorem k_div {K : PySem.W.Frag} : OpOk K (rI CDivW fun i j => .int (i / j)) (binD .FloorDiv) := by
  intro W d1 d2 v1 v2 d S' Q A r1 r2 e k
  change divD d1 d2 W.S = _ at e
  unfold divD at e
  split at e
  · obtain ⟨c, e⟩ := need_ok e
    obtain ⟨rfl, rfl⟩ := ret_ok e
    obtain ⟨c1, c2⟩ := and2 c
    rw [rep_int r1, rep_int r2]
    exact ⟨_, _, rfl, rfl, wide_div (of_decide_eq_true c1) (big_lt c2) (by decide) (by decide), k W _ (Nxt.refl A) (int_rep _)⟩
  · cases e
theorem k_mod {K : PySem.W.Frag} : OpOk K (rI (fun _ j => 0 < j) fun i j => .int (i % j)) (binD .Mod) := by
  intro W d1 d2 v1 v2 d S' Q A r1 r2 e k
  change modD d1 d2 W.S = _ at e
  unfold modD at e
  split at e
  · obtain ⟨c, e⟩ := need_ok e
    obtain ⟨rfl, rfl⟩ := ret_ok e
    rw [rep_int r1, rep_int r2]
    exact ⟨_, _, rfl, rfl, of_decide_eq_true c, k W _ (Nxt.refl A) (int_rep _)⟩
  · cases e
theorem k_pow {K : PySem.W.Frag} : OpOk K (rI CPow fun i j => .int (i ^ j.toNat)) (binD .Pow) := by
  intro W d1 d2 v1 v2 d S' Q A r1 r2 e k
  change powD d1 d2 W.S = _ at e
  unfold powD at e
  split at e
  · obtain ⟨c, e⟩ := need_ok e
    obtain ⟨rfl, rfl⟩ := ret_ok e
    obtain ⟨c, c3⟩ := and2 c
    obtain ⟨c1, c2⟩ := and2 c
    rw [rep_int r1, rep_int r2]
    have := of_decide_eq_true c2
    exact ⟨_, _, rfl, rfl, ⟨of_decide_eq_true c1, by omega, of_decide_eq_true c3⟩, k W _ (Nxt.refl A) (int_rep _)⟩
  · cases e
theorem k_band {K : PySem.W.Frag} : OpOk K (rI0 fun i j => .int (Builtin.bitAnd i j)) (binD .BitAnd) := by
  intro W d1 d2 v1 v2 d S' Q A r1 r2 e k
  change bandD d1 d2 W.S = _ at e
  unfold bandD at e
  split at e
  · obtain ⟨rfl, rfl⟩ := ret_ok e
    rw [rep_int r1, rep_int r2]
    exact ⟨_, _, rfl, rfl, k W _ (Nxt.refl A) (int_rep _)⟩
  · cases e
set_option maxHeartbeats 4000000 in
theorem tuple_mul1 (l : Addr) (items : Array Value) (n : Nat) (dd : Option Addr) (sl : Array (Option Value)) (x : Int) (u : Tok) (c0 : (decide (x < -(2 ^ 63)) || decide (x ≥ 2 ^ 63)) = false) (c1 : (items.isEmpty || x == 1) = true) :
    Meets (Builtin.«tuple.__mul__» ⟨[.ref l, .int x u], []⟩) (fun _ R s => s.heap.get? l = some { cls := .type "tuple", dict := dd, data := .seq items n, slots := sl } ∧
      R (.ok (.ret (Value.ref l))) s) :=
  .of_wp fun prog w A R s h => by
    obtain ⟨hp, g, d, tk, os⟩ := s
    obtain ⟨hl, h⟩ := h
    have f1 := AutoSeq1.idx_int
    wp_walk using wpAny_loadPart' hl
    repeat (first
      | (refine wpAny_ite_false (decide_eq_false (by rw [c0]; exact Bool.false_ne_true)) ?_; wp_walk using wpAny_loadPart' hl)
      | (refine wpAny_ite_true (decide_eq_true c1) ?_; wp_walk using wpAny_loadPart' hl))
    exact ⟨_, rfl, h⟩
/-- a tuple once, or an empty one: it itself -/
def rOneT (K : PySem.W.Frag) : R2 := fun x y H Q => ∃ l k xs, x = .ref l ∧ y = .int k ∧ SqT K H l xs ∧ (xs = [] ∨ k = 1) ∧ -1000000 ≤ k ∧ k ≤ 1000000 ∧ Q x H
theorem op_oneT : OpR X (binaryOp .Mult) (rOneT X.K) := by
  intro pins s σ H x y v u Q I rx ry h
  obtain ⟨l, k, xs, rfl, rfl, hT, hk, h1, h2, q⟩ := h
  cases rx
  obtain ⟨t, rfl⟩ := ry
  obtain ⟨its, r, ⟨⟨cls, dd, data, sl⟩, ho, hc, n, hd⟩, hs⟩ := I.tuple hT
  simp only at hc hd
  subst hc hd
  have hle : its.length = xs.length := r.length.symm
  have c0 : (decide (k < -(2 ^ 63)) || decide (k ≥ 2 ^ 63)) = false := by
    rw [decide_eq_false (by omega), decide_eq_false (by omega)] <;> rfl
  have c1 : (its.toArray.isEmpty || k == 1) = true := by
    rcases hk with hk | hk
    · subst hk
      have : its = [] := List.eq_nil_of_length_eq_zero (by simpa using hle)
      subst this
      rfl
    · subst hk
      simp
  exact wpAny_binaryOp_repeat_ref (T := "tuple") (U := "int") (by decide) ⟨_, ho, rfl⟩ (fun s' => typeIs_int s' k t) noFill_tuple_mul F.fills_int_mul F.slot_int_rmul repeat_tuple F.slot_int_index.lookup
    (call_meets F.slot_int_rmul (typeIs_int s k t) F.entry_int_rmul (F.args_int_rmul_2 _ _) (int_rmul_tuple k t l its.toArray n dd sl)
      ⟨ho, rfl, ⟨_, ho, rfl⟩, call_meets F.slot_tuple_mul ⟨_, ho, rfl⟩ F.entry_tuple_mul (F.args_tuple_mul_2 _ _) (tuple_mul1 l its.toArray n dd sl k t c0 c1) ⟨ho, .ref l, H, I, rfl, q⟩⟩)
def rMul (K : PySem.W.Frag) : R2 := fun x y H Q => rI CMulW (fun i j => .int (i * j)) x y H Q ∨ (rRepT K x y H Q ∨ (rOneT K x y H Q ∨ rRep x y H Q))
theorem o_mul : OpR X (binaryOp .Mult) (rMul X.K) := OpR.or op_mulW (OpR.or op_repT (OpR.or op_oneT op_rep))
theorem reps_flat {K : PySem.W.Frag} {W : Wd} {ds : List D} {vs : List V} (r : Reps K W ds vs) : ∀ n : Nat, Reps K W (List.replicate n ds).flatten (List.replicate n vs).flatten
  | 0 => by simp [Reps]
  | n + 1 => by
    rw [List.replicate_succ, List.replicate_succ, List.flatten_cons, List.flatten_cons]
    exact reps_app _ _ _ _ r (reps_flat r n)
theorem k_mul {K : PySem.W.Frag} : OpOk K (rMul K) (binD .Mult) := by
  intro W d1 d2 v1 v2 d S' Q A r1 r2 e k
  change mulD d1 d2 W.S = _ at e
  unfold mulD at e
  split at e
  · obtain ⟨c, e⟩ := need_ok e
    obtain ⟨rfl, rfl⟩ := ret_ok e
    obtain ⟨c1, c2⟩ := and2 c
    rw [rep_int r1, rep_int r2]
    exact .inl ⟨_, _, rfl, rfl, wide_mul (big_lt c1) (big_lt c2) (by decide) (by decide) (by decide), k W _ (Nxt.refl A) (int_rep _)⟩
  · rename_i xs n
    obtain ⟨c, e⟩ := need_ok e
    obtain ⟨rfl, rfl⟩ := ret_ok e
    obtain ⟨c, c4⟩ := and2 c
    obtain ⟨c, c3⟩ := and2 c
    obtain ⟨c1, c2⟩ := and2 c
    rw [rep_int r2]
    simp only [Rep] at r1
    obtain ⟨p, vs, rfl, hp, q1⟩ := r1
    have hl := reps_len _ _ q1
    have hne : xs = [] → vs = [] := by
      intro z
      subst z
      exact List.eq_nil_of_length_eq_zero hl
    by_cases h1 : xs = [] ∨ n = 1
    · have h0 := of_decide_eq_true c1
      have h9 := of_decide_eq_true c3
      refine .inr (.inr (.inl ⟨p, n, vs, rfl, rfl, SqT.of hp, h1.imp hne id, h0, by omega, ?_⟩))
      have e1 : (List.replicate n.toNat xs).flatten = xs := by
        rcases h1 with h1 | h1
        · subst h1; simp
        · subst h1; simp
      rw [e1] at k
      exact k W _ (Nxt.refl A) (by simp only [Rep]; exact ⟨p, vs, rfl, hp, q1⟩)
    · have h2 : xs ≠ [] ∧ n ≠ 1 := ⟨fun z => h1 (.inl z), fun z => h1 (.inr z)⟩
      have h3 : 1 ≤ n := by
        rcases Bool.or_eq_true_iff.mp c2 with z | z
        · exact absurd (List.isEmpty_iff.mp z) h2.1
        · exact of_decide_eq_true z
      refine .inr (.inl ⟨p, n, vs, rfl, rfl, SqT.of hp, fun z => h2.1 (List.eq_nil_of_length_eq_zero (by rw [← hl, z]; rfl)), by omega, of_decide_eq_true c3, by rw [hl]; exact of_decide_eq_true c4, fun q hq => ?_⟩)
      obtain ⟨N, r⟩ := new_tup A hq (reps_flat q1 n.toNat)
      exact k _ _ N r
  · rename_i xs n
    obtain ⟨c, e⟩ := need_ok e
    obtain ⟨rfl, rfl⟩ := ret_ok e
    obtain ⟨c, c3⟩ := and2 c
    obtain ⟨c1, c2⟩ := and2 c
    have h1 := of_decide_eq_true c1
    have h2 := of_decide_eq_true c2
    have h3 := of_decide_eq_true c3
    rw [rep_int r2]
    simp only [Rep] at r1
    obtain ⟨p, vs, rfl, hp, _, _, q1⟩ := r1
    have hl := reps_len _ _ q1
    refine .inr (.inr (.inr ⟨p, n, vs, rfl, rfl, hp, by omega, by omega, by rw [hl]; exact line_1M (by omega), fun q hq => ?_⟩))
    obtain ⟨N, r⟩ := new_lst A hq (reps_flat q1 n.toNat)
    exact k _ _ N r
  · cases e
theorem mulLD_ok {K : PySem.W.Frag} {m : Bool} {W : Wd} {d1 d2 : D} {v1 v2 : V} {d : D} {S' : Sto} {Q : VK} (A : Abs K W) (r1 : Rep K W d1 v1) (r2 : Rep K W d2 v2) (e : mulLD m d1 d2 W.S = .ok d S') (k : ∀ W' v, Nxt K W S' W' → Rep K W' d v → Q v W'.H) : rMul K v1 v2 W.H Q := by
  unfold mulLD at e
  obtain ⟨d0, S1, e1, e⟩ := bnd_ok e
  unfold mulD at e1
  split at e1
  · obtain ⟨c, e1⟩ := need_ok e1
    obtain ⟨rfl, rfl⟩ := ret_ok e1
    cases e
  · obtain ⟨c, e1⟩ := need_ok e1
    obtain ⟨rfl, rfl⟩ := ret_ok e1
    cases e
  · rename_i xs n
    obtain ⟨c, e1⟩ := need_ok e1
    obtain ⟨rfl, rfl⟩ := ret_ok e1
    obtain ⟨c, c3⟩ := and2 c
    obtain ⟨c1, c2⟩ := and2 c
    have h1 := of_decide_eq_true c1
    have h2 := of_decide_eq_true c2
    have h3 := of_decide_eq_true c3
    rw [rep_int r2]
    simp only [Rep] at r1
    obtain ⟨p, vs, rfl, hp, _, _, q1⟩ := r1
    have hl := reps_len _ _ q1
    refine .inr (.inr (.inr ⟨p, n, vs, rfl, rfl, hp, by omega, by omega, by rw [hl]; exact line_1M (by omega), fun q hq => ?_⟩))
    cases m with
    | false =>
      obtain ⟨rfl, rfl⟩ := ret_ok (show ret _ W.S = _ from e)
      obtain ⟨N, r⟩ := new_lst A hq (reps_flat q1 n.toNat)
      exact k _ _ N r
    | true =>
      simp only [if_true] at e
      cases e
      obtain ⟨N, r⟩ := new_cell A hq (reps_flat q1 n.toNat)
      exact k _ _ N r
  · cases e1

/-! ### comparisons -/
def OpB (K : PySem.W.Frag) (r : R2) (g : D → D → M Bool) : Prop := OpOk K r (fun x y => bnd (g x y) fun k => ret (.bl k))
theorem opB_of {K : PySem.W.Frag} {r : R2} {g : D → D → M Bool}
    (h : ∀ (W : Wd) (d1 d2 : D) (v1 v2 : V) (c : Bool) (S' : Sto) (Q : VK), Abs K W → Rep K W d1 v1 → Rep K W d2 v2 → g d1 d2 W.S = .ok c S' → (∀ W', Nxt K W S' W' → Q (.bl c) W'.H) → r v1 v2 W.H Q) : OpB K r g := by
  intro W d1 d2 v1 v2 d S' Q A r1 r2 e k
  obtain ⟨c, S1, e1, e2⟩ := bnd_ok e
  obtain ⟨rfl, rfl⟩ := ret_ok e2
  exact h W d1 d2 v1 v2 c S1 Q A r1 r2 e1 fun W' N => k W' _ N (bl_rep _)
theorem s_cmp {op : CmpOp} {r : R2} {g : D → D → M Bool} (ho : OpR X (compareOp op) r) (hk : OpB X.K r g) (ha : PE X a (tI X.K ma)) (hb : PE X b (tI X.K mb)) (hm : behindInMarks op b = false) :
    PE X (.Compare a [op] [b] pos) (tI X.K fun ρ => bnd (ma ρ) fun x => bnd (mb ρ) fun y => bnd (g x y) fun k => ret (.bl k)) := (pe_cmpR ho ha hb hm).weak (s_op2 hk)
/-- the test of a value that is a bool -/
theorem tT_of {m : Env → M Bool} {t : TE} (h : ∀ σ H Q, tI X.K (fun ρ => bnd (m ρ) fun k => ret (.bl k)) σ H Q → t σ H Q) : ∀ σ H Q, tT X.K m σ H Q → tTest t σ H Q := by
  rintro σ H Q ⟨W, ρ, rfl, A, sl, k, S', e, q⟩
  refine h σ W.H _ ⟨W, ρ, rfl, A, sl, .bl k, S', bnd_mk e rfl, fun W' v N r => ?_⟩
  rw [rep_bl r]
  exact ⟨k, rfl, q W' N⟩
theorem bnd_assoc {α β γ : Type} (m : M α) (f : α → M β) (g : β → M γ) : bnd (bnd m f) g = bnd m fun x => bnd (f x) g := by
  funext S
  unfold bnd
  cases m S <;> rfl
theorem bnd_ret {α β : Type} (a : α) (f : α → M β) : bnd (ret a) f = f a := rfl
theorem bnd_bad {α β : Type} (f : α → M β) : bnd bad f = bad := rfl
theorem t_cmp {op : CmpOp} {r : R2} {g : D → D → M Bool} (ho : OpR X (compareOp op) r) (hk : OpB X.K r g) (ha : PE X a (tI X.K ma)) (hb : PE X b (tI X.K mb)) (hm : behindInMarks op b = false) :
    PT X (.Compare a [op] [b] pos) (tT X.K fun ρ => bnd (ma ρ) fun x => bnd (mb ρ) fun y => g x y) := by
  refine (pt_cmpR ho ha hb hm).weak (tT_of (t := tOp r (tI X.K ma) (tI X.K mb)) fun σ H Q h => s_op2 hk σ H Q ?_)
  simpa only [bnd_assoc] using h
theorem chain_ok {r r' : R2} {g g' : D → D → M Bool} (hk : OpB X.K r g) (hk' : OpB X.K r' g') : ∀ σ H Q,
    tI X.K (fun ρ => bnd (ma ρ) fun x => bnd (mb ρ) fun y => bnd (g x y) fun k => if k then bnd (mc ρ) fun z => bnd (g' y z) fun k' => ret (.bl k') else ret (.bl false)) σ H Q → tChain r r' (tI X.K ma) (tI X.K mb) (tI X.K mc) σ H Q := by
  rintro σ H Q ⟨W, ρ, rfl, A, sl, d, S', e, k⟩
  obtain ⟨x, S1, e1, e⟩ := bnd_ok e
  obtain ⟨y, S2, e2, e⟩ := bnd_ok e
  obtain ⟨c, S3, e3, e⟩ := bnd_ok e
  refine ⟨W, ρ, rfl, A, sl, x, S1, e1, fun W1 v1 N1 r1 => ?_⟩
  refine ⟨W1, ρ, rfl, N1.ab, sl.ext A N1.ext, y, S2, by rw [N1.st]; exact e2, fun W2 v2 N2 r2 => ?_⟩
  refine hk W2 x y v1 v2 (.bl c) S3 _ N2.ab (Rep.ext N1.ab N2.ext _ _ r1) r2 (by rw [N2.st]; exact bnd_mk e3 rfl) fun W3 v3 N3 r3 => ?_
  rw [rep_bl r3]
  refine ⟨c, rfl, ?_⟩
  cases c with
  | true =>
    simp only [if_true] at e ⊢
    obtain ⟨z, S4, e4, e⟩ := bnd_ok e
    have N13 := N2.trans N3
    refine ⟨W3, ρ, rfl, N3.ab, (sl.ext A N1.ext).ext N1.ab N13.ext, z, S4, by rw [N3.st]; exact e4, fun W4 v4 N4 r4 => ?_⟩
    exact hk' W4 y z v2 v4 d S' Q N4.ab (Rep.ext N2.ab (N3.trans N4).ext _ _ r2) r4 (by rw [N4.st]; exact e) fun W5 v N5 r5 => k W5 v ((N1.trans N13).trans (N4.trans N5)) r5
  | false =>
    simp only [Bool.false_eq_true, if_false] at e ⊢
    obtain ⟨rfl, rfl⟩ := ret_ok e
    exact k W3 _ ((N1.trans N2).trans N3) (bl_rep _)
theorem rep_dp {K : PySem.W.Frag} {W : Wd} : (∀ (d : D) (v : V) (p : PyData), Rep K W d v → toPy d = some p → Dp K W.H v p) ∧ True := by
  refine ⟨?_, trivial⟩
  intro d
  induction d using D.rec (motive_2 := fun ds => ∀ (vs : List V) (ps : List PyData), Reps K W ds vs → toPys ds = some ps → DpAll K W.H vs ps) with
  | non => intro v p h e; simp only [Rep] at h; simp only [toPy, Option.some.injEq] at e; subst h e; exact .non
  | bl b => intro v p h e; simp only [Rep] at h; simp only [toPy, Option.some.injEq] at e; subst h e; exact .bl b
  | int i => intro v p h e; simp only [Rep] at h; simp only [toPy, Option.some.injEq] at e; subst h e; exact .int i
  | str s => intro v p h e; simp only [Rep] at h; simp only [toPy, Option.some.injEq] at e; subst h e; exact .str s
  | tup xs ih =>
    intro v p h e
    simp only [Rep] at h
    obtain ⟨a, vs, rfl, hp, r⟩ := h
    simp only [toPy] at e
    cases q : toPys xs with
    | none => rw [q] at e; cases e
    | some ps => rw [q] at e; cases e; exact .tup (SqT.of hp) (ih vs ps r q)
  | lst xs ih =>
    intro v p h e
    simp only [Rep] at h
    obtain ⟨a, vs, rfl, hp, _, _, r⟩ := h
    simp only [toPy] at e
    cases q : toPys xs with
    | none => rw [q] at e; cases e
    | some ps => rw [q] at e; cases e; exact .lst (SqL.of hp) (ih vs ps r q)
  | fro xs ih => intro v p h e; simp only [toPy] at e; cases e
  | ref k => intro v p h e; simp only [toPy] at e; cases e
  | ty n => intro v p h e; simp only [toPy] at e; cases e
  | dic t ks vs ih => intro v p h e; simp only [toPy] at e; cases e
  | obj c k => intro v p h e; simp only [toPy] at e; cases e
  | dct t k => intro v p h e; simp only [toPy] at e; cases e
  | set is => intro v p h e; simp only [toPy] at e; cases e
  | exc c => intro v p h e; simp only [toPy] at e; cases e
  | nil => rename_i vs ps h e; simp only [Reps] at h; simp only [toPys, Option.some.injEq] at e; subst h e; exact .nil
  | cons d ds ih1 ih2 =>
    rename_i vs ps h e
    simp only [Reps] at h
    obtain ⟨v, r, rfl, h1, h2⟩ := h
    simp only [toPys] at e
    cases q : toPy d with
    | none => rw [q] at e; cases e
    | some p =>
      cases q2 : toPys ds with
      | none => rw [q, q2] at e; cases e
      | some ps' => rw [q, q2] at e; cases e; exact .cons (ih1 v p h1 q) (ih2 r ps' h2 q2)
theorem reps_dp {K : PySem.W.Frag} {W : Wd} : ∀ (xs : List D) (vs : List V) (ps : List PyData), Reps K W xs vs → toPys xs = some ps → DpAll K W.H vs ps
  | [], vs, ps, h, e => by simp only [Reps] at h; simp only [toPys, Option.some.injEq] at e; subst h e; exact .nil
  | d :: ds, vs, ps, h, e => by
    simp only [Reps] at h
    obtain ⟨v, r, rfl, h1, h2⟩ := h
    simp only [toPys] at e
    cases q : toPy d with
    | none => rw [q] at e; cases e
    | some p =>
      cases q2 : toPys ds with
      | none => rw [q, q2] at e; cases e
      | some ps' => rw [q, q2] at e; cases e; exact .cons (rep_dp.1 d v p h1 q) (reps_dp ds r ps' h2 q2)
theorem eqG_ok {a b : D} {S S' : Sto} {c : Bool} (e : eqG a b S = .ok c S') : ∃ p q, toPy a = some p ∧ toPy b = some q ∧ SeqAt.shaped p = true ∧ SeqAt.shaped q = true ∧ c = PyData.eqv p q ∧ S' = S := by
  unfold eqG at e
  cases h1 : toPy a with
  | none => rw [h1] at e; cases e
  | some p =>
    cases h2 : toPy b with
    | none => rw [h1, h2] at e; cases e
    | some q =>
      rw [h1, h2] at e
      obtain ⟨c1, e⟩ := need_ok e
      obtain ⟨c1, c2⟩ := and2 c1
      obtain ⟨e1, e2⟩ := ret_ok e
      exact ⟨p, q, rfl, rfl, c1, c2, e1.symm, e2.symm⟩
def rEq2 (K : PySem.W.Frag) : R2 := fun x y H Q => rEq x y H Q ∨ rEqD K x y H Q
def rNe2 (K : PySem.W.Frag) : R2 := fun x y H Q => rNe x y H Q ∨ rNeD K x y H Q
theorem o_eq (hu : X.A.units + 64 < cLine) : OpR X (compareOp .Eq) (rEq2 X.K) := OpR.or op_eq (op_eqD hu)
theorem o_ne (hu : X.A.units + 64 < cLine) : OpR X (compareOp .NotEq) (rNe2 X.K) := OpR.or op_ne (op_neD hu)
/-- two data compared -/
theorem eqD_two {K : PySem.W.Frag} {W : Wd} {a b : D} {v1 v2 : V} {S' : Sto} {c : Bool} (r1 : Rep K W a v1) (r2 : Rep K W b v2) (e : eqD a b W.S = .ok c S') : S' = W.S ∧ ((scal v1 v2 = true ∧ c = decide (v1 = v2)) ∨ ∃ p q, Dp K W.H v1 p ∧ Dp K W.H v2 q ∧ SeqAt.shaped p = true ∧ SeqAt.shaped q = true ∧ c = PyData.eqv p q) := by
  unfold eqD at e
  split at e
  · obtain ⟨e1, e2⟩ := ret_ok e
    rw [rep_int r1, rep_int r2]
    refine ⟨e2.symm, .inl ⟨rfl, ?_⟩⟩
    rw [← e1, dec_int, Bool.beq_eq_decide_eq]
  · obtain ⟨e1, e2⟩ := ret_ok e
    simp only [Rep] at r1 r2
    subst r1 r2
    refine ⟨e2.symm, .inl ⟨rfl, ?_⟩⟩
    rw [← e1, dec_str, Bool.beq_eq_decide_eq]
  · obtain ⟨e1, e2⟩ := ret_ok e
    rw [rep_bl r1, rep_bl r2]
    refine ⟨e2.symm, .inl ⟨rfl, ?_⟩⟩
    rw [← e1, dec_bl, Bool.beq_eq_decide_eq]
  · obtain ⟨p, q, e1, e2, c1, c2, h, hS⟩ := eqG_ok e
    exact ⟨hS, .inr ⟨p, q, rep_dp.1 _ _ _ r1 e1, rep_dp.1 _ _ _ r2 e2, c1, c2, h⟩⟩
theorem k_eq {K : PySem.W.Frag} : OpB K (rEq2 K) (cmpD .Eq) := opB_of fun W d1 d2 v1 v2 c S' Q A r1 r2 e k => by
  obtain ⟨rfl, h⟩ := eqD_two r1 r2 (show eqD d1 d2 W.S = _ from e)
  rcases h with ⟨h1, rfl⟩ | ⟨p, q, h1, h2, h3, h4, rfl⟩
  · exact .inl ⟨h1, k W (Nxt.refl A)⟩
  · exact .inr ⟨p, q, h1, h2, h3, h4, k W (Nxt.refl A)⟩
theorem notB_ok {m : M Bool} {S S' : Sto} {c : Bool} (e : notB m S = .ok c S') : m S = .ok (!c) S' := by
  unfold notB at e
  obtain ⟨c', S1, h, e3⟩ := bnd_ok e
  obtain ⟨rfl, rfl⟩ := ret_ok e3
  rw [Bool.not_not]
  exact h
theorem k_ne {K : PySem.W.Frag} : OpB K (rNe2 K) (cmpD .NotEq) := opB_of fun W d1 d2 v1 v2 c S' Q A r1 r2 e k => by
  obtain ⟨rfl, h⟩ := eqD_two r1 r2 (notB_ok (show notB (eqD d1 d2) W.S = _ from e))
  rcases h with ⟨h1, h⟩ | ⟨p, q, h1, h2, h3, h4, h⟩
  · refine .inl ⟨h1, ?_⟩
    rw [← h, Bool.not_not]
    exact k W (Nxt.refl A)
  · refine .inr ⟨p, q, h1, h2, h3, h4, ?_⟩
    rw [← h, Bool.not_not]
    exact k W (Nxt.refl A)
theorem k_lt {K : PySem.W.Frag} : OpB K (rI0 fun i j => .bl (decide (i < j))) (cmpD .Lt) := opB_of fun W d1 d2 v1 v2 c S' Q A r1 r2 e k => by
  change ltD d1 d2 W.S = _ at e
  unfold ltD at e
  split at e
  · obtain ⟨rfl, rfl⟩ := ret_ok e
    rw [rep_int r1, rep_int r2]
    exact ⟨_, _, rfl, rfl, k W (Nxt.refl A)⟩
  · cases e
theorem k_le {K : PySem.W.Frag} : OpB K (rI0 fun i j => .bl (decide (i ≤ j))) (cmpD .LtE) := opB_of fun W d1 d2 v1 v2 c S' Q A r1 r2 e k => by
  change leD d1 d2 W.S = _ at e
  unfold leD at e
  split at e
  · obtain ⟨rfl, rfl⟩ := ret_ok e
    rw [rep_int r1, rep_int r2]
    exact ⟨_, _, rfl, rfl, k W (Nxt.refl A)⟩
  · cases e
theorem k_gt {K : PySem.W.Frag} : OpB K (rI0 fun i j => .bl (decide (j < i))) (cmpD .Gt) := opB_of fun W d1 d2 v1 v2 c S' Q A r1 r2 e k => by
  change ltD d2 d1 W.S = _ at e
  unfold ltD at e
  split at e
  · obtain ⟨rfl, rfl⟩ := ret_ok e
    rw [rep_int r1, rep_int r2]
    exact ⟨_, _, rfl, rfl, k W (Nxt.refl A)⟩
  · cases e
theorem k_ge {K : PySem.W.Frag} : OpB K (rI0 fun i j => .bl (decide (j ≤ i))) (cmpD .GtE) := opB_of fun W d1 d2 v1 v2 c S' Q A r1 r2 e k => by
  change leD d2 d1 W.S = _ at e
  unfold leD at e
  split at e
  · obtain ⟨rfl, rfl⟩ := ret_ok e
    rw [rep_int r1, rep_int r2]
    exact ⟨_, _, rfl, rfl, k W (Nxt.refl A)⟩
  · cases e
def rIs2 : R2 := fun x y H Q => rIsB x y H Q ∨ (y = .non ∧ Q (.bl (decide (x = .non))) H)
def rIsn2 : R2 := fun x y H Q => rNotB x y H Q ∨ (y = .non ∧ Q (.bl (!decide (x = .non))) H)
theorem o_is : OpR X (compareOp .Is) rIs2 := OpR.or op_isBl op_isN
theorem o_isn : OpR X (compareOp .IsNot) rIsn2 := OpR.or op_notBl op_notN
theorem rep_non {K : PySem.W.Frag} {W : Wd} {d : D} {v : V} (r : Rep K W d v) : decide (v = .non) = isNonD d := by
  cases d <;> simp only [Rep] at r
  case non => subst r; rfl
  case bl => subst r; rfl
  case int => subst r; rfl
  case str => subst r; rfl
  case ty => subst r; rfl
  all_goals (obtain ⟨a, r⟩ := r)
  case tup => obtain ⟨_, rfl, _⟩ := r; rfl
  case lst => obtain ⟨_, rfl, _⟩ := r; rfl
  case fro => obtain ⟨_, rfl, _⟩ := r; rfl
  case ref => obtain ⟨rfl, _⟩ := r; rfl
  case obj => obtain ⟨rfl, _⟩ := r; rfl
  case dct => obtain ⟨rfl, _⟩ := r; rfl
  case set => obtain ⟨_, rfl, _⟩ := r; rfl
  case dic => obtain ⟨_, _, rfl, _⟩ := r; rfl
  case exc => obtain ⟨_, _, rfl, _⟩ := r; rfl
theorem isD_ok {a b : D} {S S' : Sto} {c : Bool} (e : isD a b S = .ok c S') : S' = S ∧ ((∃ i j, a = .bl i ∧ b = .bl j ∧ c = decide (i = j)) ∨ (b = .non ∧ c = isNonD a)) := by
  unfold isD at e
  split at e
  · split at e
    · obtain ⟨e1, e2⟩ := ret_ok e
      exact ⟨e2.symm, .inl ⟨_, _, rfl, rfl, e1.symm⟩⟩
    · cases e
  · obtain ⟨e1, e2⟩ := ret_ok e
    exact ⟨e2.symm, .inr ⟨rfl, e1.symm⟩⟩
  · cases e
theorem k_is {K : PySem.W.Frag} : OpB K rIs2 (cmpD .Is) := opB_of fun W d1 d2 v1 v2 c S' Q A r1 r2 e k => by
  obtain ⟨rfl, ⟨i, j, rfl, rfl, rfl⟩ | ⟨rfl, rfl⟩⟩ := isD_ok (show isD d1 d2 W.S = _ from e)
  · rw [rep_bl r1, rep_bl r2]
    exact .inl ⟨_, _, rfl, rfl, k W (Nxt.refl A)⟩
  · refine .inr ⟨by simpa only [Rep] using r2, ?_⟩
    rw [rep_non r1]
    exact k W (Nxt.refl A)
theorem k_isn {K : PySem.W.Frag} : OpB K rIsn2 (cmpD .IsNot) := opB_of fun W d1 d2 v1 v2 c S' Q A r1 r2 e k => by
  obtain ⟨rfl, ⟨i, j, rfl, rfl, h⟩ | ⟨rfl, h⟩⟩ := isD_ok (notB_ok (show notB (isD d1 d2) W.S = _ from e))
  · rw [rep_bl r1, rep_bl r2]
    refine .inl ⟨_, _, rfl, rfl, ?_⟩
    rw [← h, Bool.not_not]
    exact k W (Nxt.refl A)
  · refine .inr ⟨by simpa only [Rep] using r2, ?_⟩
    rw [rep_non r1, ← h, Bool.not_not]
    exact k W (Nxt.refl A)
def rInD2 (K : PySem.W.Frag) (n : Bool) : R2 := fun x y H Q => ∃ d ds, Dp K H x d ∧ (Dp K H y (.list ds) ∨ Dp K H y (.tuple ds)) ∧ SeqAt.shaped d = true ∧ SeqAt.shaped (.list ds) = true ∧ Q (.bl ((ds.any fun z => PyData.eqv z d) != n)) H
theorem o_in (hu : X.A.units + 65 < cLine) : OpR X (compareOp .In) (rInD2 X.K false) := by
  intro pins s σ H x y v u Q I rx ry h
  obtain ⟨d, ds, hd, he, sd, se, q⟩ := h
  rw [Bool.bne_false] at q
  obtain ⟨as, r1⟩ := Dp.reads I d x v hd rx
  rcases he with he | he
  · obtain ⟨bs, r2⟩ := Dp.reads I (.list ds) y u he ry
    exact SeqAt.in_list_reads r2 r1 (SeqAt.canLay_of_shaped se) (SeqAt.canLay_of_shaped sd) (room_in_shaped sd hu) ⟨.bl _, H, I, rfl, q⟩
  · obtain ⟨bs, r2⟩ := Dp.reads I (.tuple ds) y u he ry
    exact SeqAt.in_tuple_reads r2 r1 (SeqAt.canLay_of_shaped se) (SeqAt.canLay_of_shaped sd) (room_in_shaped sd hu) ⟨.bl _, H, I, rfl, q⟩
theorem o_nin (hu : X.A.units + 65 < cLine) : OpR X (compareOp .NotIn) (rInD2 X.K true) := by
  intro pins s σ H x y v u Q I rx ry h
  obtain ⟨d, ds, hd, he, sd, se, q⟩ := h
  rw [Bool.bne_true] at q
  obtain ⟨as, r1⟩ := Dp.reads I d x v hd rx
  rcases he with he | he
  · obtain ⟨bs, r2⟩ := Dp.reads I (.list ds) y u he ry
    exact SeqAt.notIn_list_reads r2 r1 (SeqAt.canLay_of_shaped se) (SeqAt.canLay_of_shaped sd) (room_in_shaped sd hu) ⟨.bl _, H, I, rfl, q⟩
  · obtain ⟨bs, r2⟩ := Dp.reads I (.tuple ds) y u he ry
    exact SeqAt.notIn_tuple_reads r2 r1 (SeqAt.canLay_of_shaped se) (SeqAt.canLay_of_shaped sd) (room_in_shaped sd hu) ⟨.bl _, H, I, rfl, q⟩
/-- what a list's cell is -/
theorem getC_ok {K : PySem.W.Frag} {W : Wd} (A : Abs K W) {k : Nat} {xs : List D} {S' : Sto} {v : V} (r : Rep K W (.ref k) v) (e : getC k W.S = .ok xs S') : S' = W.S ∧ W.S[k]? = some (some xs) ∧ ∃ p vs, v = .ref p ∧ W.as[k]? = some (p, .lst) ∧ W.H p = some (.lst vs) ∧ Reps K W xs vs := by
  unfold getC at e
  split at e
  · rename_i ys h
    cases e
    obtain ⟨a, kd, ds, vs, o, h1, h2, h4, q⟩ := A.cell k _ h
    simp only [Rep] at r
    obtain ⟨b, rfl, h3⟩ := r
    rw [h1] at h3
    cases h3
    obtain ⟨rfl, rfl⟩ := h4
    exact ⟨rfl, h, a, vs, rfl, h1, h2, q⟩
  · cases e
theorem hasD_two {K : PySem.W.Frag} {W : Wd} (A : Abs K W) {a b : D} {v1 v2 : V} {S' : Sto} {c : Bool} (r1 : Rep K W a v1) (r2 : Rep K W b v2) (e : hasD a b W.S = .ok c S') : S' = W.S ∧ ∃ p ps, Dp K W.H v1 p ∧ (Dp K W.H v2 (.list ps) ∨ Dp K W.H v2 (.tuple ps)) ∧ SeqAt.shaped p = true ∧ SeqAt.shaped (.list ps) = true ∧ c = ps.any fun z => PyData.eqv z p := by
  unfold hasD at e
  obtain ⟨xs, S1, e1, e⟩ := bnd_ok e
  have key : S1 = W.S ∧ ∃ p vs, v2 = .ref p ∧ (W.H p = some (.lst vs) ∨ W.H p = some (.tup vs)) ∧ Reps K W xs vs := by
    unfold listD at e1
    split at e1
    · rename_i k
      obtain ⟨rfl, _, p, vs, rfl, _, h3, h4⟩ := getC_ok A r2 e1
      exact ⟨rfl, p, vs, rfl, .inl h3, h4⟩
    · obtain ⟨rfl, rfl⟩ := ret_ok e1
      simp only [Rep] at r2
      obtain ⟨p, vs, rfl, h1, _, _, h2⟩ := r2
      exact ⟨rfl, p, vs, rfl, .inl h1, h2⟩
    · obtain ⟨rfl, rfl⟩ := ret_ok e1
      simp only [Rep] at r2
      obtain ⟨p, vs, rfl, h1, h2⟩ := r2
      exact ⟨rfl, p, vs, rfl, .inr h1, h2⟩
    · cases e1
  obtain ⟨rfl, p, vs, rfl, h1, h2⟩ := key
  cases h3 : toPy a with
  | none => rw [h3] at e; cases e
  | some q =>
    cases h4 : toPys xs with
    | none => rw [h3, h4] at e; cases e
    | some ps =>
      rw [h3, h4] at e
      obtain ⟨c1, e⟩ := need_ok e
      obtain ⟨c1, c2⟩ := and2 c1
      obtain ⟨e1, e2⟩ := ret_ok e
      exact ⟨e2.symm, q, ps, rep_dp.1 _ _ _ r1 h3, h1.imp (fun h1 => .lst (SqL.of h1) (reps_dp xs vs ps h2 h4)) (fun h1 => .tup (SqT.of h1) (reps_dp xs vs ps h2 h4)), c1, c2, e1.symm⟩
theorem k_in {K : PySem.W.Frag} : OpB K (rInD2 K false) (cmpD .In) := opB_of fun W d1 d2 v1 v2 c S' Q A r1 r2 e k => by
  obtain ⟨rfl, p, ps, h1, h2, h3, h4, rfl⟩ := hasD_two A r1 r2 (show hasD d1 d2 W.S = _ from e)
  exact ⟨p, ps, h1, h2, h3, h4, by rw [Bool.bne_false]; exact k W (Nxt.refl A)⟩
theorem k_nin {K : PySem.W.Frag} : OpB K (rInD2 K true) (cmpD .NotIn) := opB_of fun W d1 d2 v1 v2 c S' Q A r1 r2 e k => by
  obtain ⟨rfl, p, ps, h1, h2, h3, h4, h⟩ := hasD_two A r1 r2 (notB_ok (show notB (hasD d1 d2) W.S = _ from e))
  refine ⟨p, ps, h1, h2, h3, h4, ?_⟩
  rw [Bool.bne_true, ← h, Bool.not_not]
  exact k W (Nxt.refl A)
end
end AG
namespace AG
open PySem PySem.Spec PyProof.Rows L2

/-! ### how long a datum's text is -/
theorem join_len : ∀ ts : List Str, (Str.join ", " ts).length ≤ (ts.map fun t => t.length + 2).sum
  | [] => Nat.zero_le _
  | [x] => by
    show x.length ≤ _
    simp
  | x :: y :: r => by
    have ih := join_len (y :: r)
    have e : Str.join (", " : Str) (x :: y :: r) = x ++ (", " : Str) ++ Str.join ", " (y :: r) := rfl
    have h2 : ((", " : Str)).length = 2 := by decide +kernel
    rw [e, strLen_append, strLen_append, List.map_cons, List.sum_cons, h2]
    omega
mutual
theorem shown_le : ∀ p : PyData, p.showable = true → cost p ≤ 1000000 → p.shown.length ≤ cost p
  | .none, _, _ => by simp only [PyData.shown, cost]; decide +kernel
  | .bool b, _, _ => by simp only [PyData.shown, cost]; cases b <;> decide +kernel
  | .int i, _, h => by
    simp only [PyData.shown, cost] at h ⊢
    have h1 : (Str.ofString (toString i)).length = (toString i).length := PySem.ofString_length _
    rw [h1]
    split at h
    · rename_i hi
      rw [if_pos hi]
      have := int_text_length_le10 (a := i) (k := 6) (by decide) (Nat.lt_of_lt_of_le hi (by decide))
      omega
    · rename_i h0
      rw [if_neg h0]
      split at h
      · rename_i hi
        rw [if_pos hi]
        have := int_text_length_le10 (a := i) (k := 40) (by decide) (Nat.lt_of_lt_of_le hi (by decide))
        omega
      · omega
  | .str x, _, h => by
    simp only [PyData.shown, cost] at h ⊢
    split at h
    · rename_i hx
      rw [if_pos hx]
      have h2 := PySem.StrLaws.reprText_len x (fun c hc => by
        have h3 := of_decide_eq_true (List.all_eq_true.mp hx c hc)
        exact Nat.lt_of_lt_of_le h3 (by decide))
      omega
    · omega
  | .list xs, hs, h => by
    simp only [PyData.shown, cost, PyData.showable] at h hs ⊢
    rw [listText_eq_join, strLen_append, strLen_append]
    have := showns_le xs hs (by omega)
    have := join_len (PyData.shownAll xs)
    have e1 : (("[" : Str)).length = 1 := by decide +kernel
    have e2 : (("]" : Str)).length = 1 := by decide +kernel
    omega
  | .tuple xs, hs, h => by
    simp only [PyData.shown, cost, PyData.showable, tupleText] at h hs ⊢
    rw [strLen_append, strLen_append]
    have := showns_le xs hs (by omega)
    have := join_len (PyData.shownAll xs)
    have e1 : (("(" : Str)).length = 1 := by decide +kernel
    have e2 : (Str.ofString (if (PyData.shownAll xs).length == 1 then ",)" else ")")).length ≤ 2 := by
      split <;> decide +kernel
    omega
  | .dict _, _, h => by simp only [cost] at h; omega
theorem showns_le : ∀ ps : List PyData, PyData.showableAll ps = true → costs ps ≤ 1000000 → ((PyData.shownAll ps).map fun t => t.length + 2).sum ≤ costs ps
  | [], _, _ => by simp [PyData.shownAll, costs]
  | x :: xs, hs, h => by
    simp only [PyData.showableAll, costs, PyData.shownAll, List.map_cons, List.sum_cons] at h hs ⊢
    obtain ⟨h1, h2⟩ := and2 hs
    have := shown_le x h1 (by omega)
    have := showns_le xs h2 (by omega)
    omega
end
mutual
theorem dp_nodict {K : PySem.W.Frag} {H : Hp} : ∀ (p : PyData) (v : V), Dp K H v p → p.hasDict = false
  | .none, _, _ => by simp only [PyData.hasDict]
  | .bool b, _, _ => by simp only [PyData.hasDict]
  | .int i, _, _ => by simp only [PyData.hasDict]
  | .str x, _, _ => by simp only [PyData.hasDict]
  | .list xs, v, h => by cases h with | lst _ h => simp only [PyData.hasDict]; exact dps_nodict _ _ h
  | .tuple xs, v, h => by cases h with | tup _ h => simp only [PyData.hasDict]; exact dps_nodict _ _ h
  | .dict kvs, v, h => by cases h
theorem dps_nodict {K : PySem.W.Frag} {H : Hp} : ∀ (ps : List PyData) (vs : List V), DpAll K H vs ps → PyData.hasDictAll ps = false
  | [], _, _ => by simp only [PyData.hasDictAll]
  | x :: xs, vs, h => by
    cases h with
    | cons h1 h2 => simp only [PyData.hasDictAll, dp_nodict x _ h1, dps_nodict xs _ h2, Bool.or_false]
end

section
variable {X : Cx}
def rRepr (K : PySem.W.Frag) : List V → Hp → VK → Prop := fun xs H Q => ∃ x p, xs = [x] ∧ Dp K H x p ∧ p.showable = true ∧ cost p ≤ 1000000 ∧ p.depth ≤ 60 ∧ Q (.str p.shown) H
/-- repr of a datum -/
theorem call_repr_dat (hg : X.A.guards = some []) (hu : X.A.units + 64 < cLine) : CallR X (.builtin "repr") (rRepr X.K) := by
  intro pins s σ H xs us Q I r h
  obtain ⟨x, p, rfl, hd, hs, hc, hdp, q⟩ := h
  obtain ⟨u, rfl, rx⟩ := vals1 r
  have hz : p.shown.length ≤ sizeLine := by
    have := shown_le p hs hc
    rw [sizeLine_eq]
    omega
  have hnd := dp_nodict p x hd
  have go : ∀ a, x = .ref a → wpAny (model X.prog X.w) X.A (call (.builtin "repr") [u]) (EP X pins σ Q) X.xe s := fun a ha => by
    subst ha
    obtain ⟨as, hr⟩ := Dp.reads I p _ u hd rx
    cases rx
    refine repr_of_reads' hr hs (PyData.noDict_hsm hnd) hg (by omega) (fun _ _ e => e) (fun h' w tk hk => ?_) hz
    exact ⟨.str p.shown, H, I.kept hk, ⟨w, rfl⟩, q⟩
  cases hd with
  | non =>
    cases rx
    refine PySem.P.repr_of_none ?_
    have e : PyData.none.shown = ("None" : Str) := by simp only [PyData.shown]
    rw [e] at q
    exact ⟨.str _, H, I.tok _, ⟨_, rfl⟩, q⟩
  | bl b =>
    cases rx
    refine PySem.P.repr_of_bool ?_
    have e : (PyData.bool b).shown = ((if b then "True" else "False" : Str)) := by simp only [PyData.shown]
    rw [e] at q
    refine ⟨.str _, H, I.tok _, ⟨_, rfl⟩, ?_⟩
    cases b <;> exact q
  | int i =>
    obtain ⟨t, rfl⟩ := rx
    have hz' : i.natAbs.log2 < 1920 := by simpa only [PyData.showable, decide_eq_true_eq] using hs
    refine PySem.P.repr_of_int hz' ?_
    have e : (PyData.int i).shown = ((toString i : String) : Str) := by simp only [PyData.shown]
    rw [e] at q
    exact ⟨.str _, H, I.tok _, ⟨_, rfl⟩, q⟩
  | str z =>
    obtain ⟨t, rfl⟩ := rx
    have e : (PyData.str z).shown = reprText z := by simp only [PyData.shown]
    rw [e] at q hz
    refine PySem.P.repr_of_str ?_ hz
    exact ⟨.str _, H, I.tok _, ⟨_, rfl⟩, q⟩
  | lst h1 h2 => exact go _ rfl
  | tup h1 h2 => exact go _ rfl

/-! ### calls of builtins, by data -/
def CallOk (K : PySem.W.Frag) (r : List V → Hp → VK → Prop) (g : List D → M D) : Prop :=
  ∀ (W : Wd) (ds : List D) (vs : List V) (d : D) (S' : Sto) (Q : VK), Abs K W → Reps K W ds vs → g ds W.S = .ok d S' → (∀ W' v, Nxt K W S' W' → Rep K W' d v → Q v W'.H) → r vs W.H Q
theorem s_call {r : List V → Hp → VK → Prop} {g : List D → M D} {mas : Env → M (List D)} (hk : CallOk X.K r g) : ∀ σ H Q, tI X.K (fun ρ => bnd (mas ρ) g) σ H Q → tCB r (tAs X.K mas) σ H Q := by
  rintro σ H Q ⟨W, ρ, rfl, A, sl, d, S', e, k⟩
  obtain ⟨ds, S1, e1, e⟩ := bnd_ok e
  refine ⟨W, ρ, rfl, A, sl, ds, S1, e1, fun W1 vs N1 r1 => ?_⟩
  exact hk W1 ds vs d S' Q N1.ab r1 (by rw [N1.st]; exact e) fun W2 v N2 r2 => k W2 v (N1.trans N2) r2
theorem reps1 {K : PySem.W.Frag} {W : Wd} {d : D} {vs : List V} (h : Reps K W [d] vs) : ∃ v, vs = [v] ∧ Rep K W d v := by
  simp only [Reps] at h
  obtain ⟨v, r, rfl, h1, h2⟩ := h
  subst h2
  exact ⟨v, rfl, h1⟩
theorem reps2 {K : PySem.W.Frag} {W : Wd} {d e : D} {vs : List V} (h : Reps K W [d, e] vs) : ∃ v w, vs = [v, w] ∧ Rep K W d v ∧ Rep K W e w := by
  simp only [Reps] at h
  obtain ⟨v, r, rfl, h1, w, r', rfl, h2, h3⟩ := h
  subst h3
  exact ⟨v, w, rfl, h1, h2⟩
theorem SqF.toL {K : PySem.W.Frag} {H : Hp} {a : Addr} {vs : List V} (h : SqF K H a vs) : SqL K H a vs := by
  rcases h with ⟨o, h⟩ | h
  · exact .inl (.inr ⟨o, h⟩)
  · rcases h with h | h
    · rcases h with h | ⟨o, h⟩ <;> cases h
    · exact .inr h
/-- what a sequence is -/
theorem items_ok {K : PySem.W.Frag} {W : Wd} (A : Abs K W) {d : D} {v : V} {xs : List D} {S' : Sto} (r : Rep K W d v) (e : itemsD d W.S = .ok xs S') : S' = W.S ∧ ∃ p vs, v = .ref p ∧ (SqL K W.H p vs ∨ (SqT K W.H p vs ∧ d = .tup xs)) ∧ Reps K W xs vs := by
  cases d with
  | tup ys =>
    obtain ⟨rfl, rfl⟩ := ret_ok (show ret ys W.S = _ from e)
    simp only [Rep] at r
    obtain ⟨p, vs, rfl, hp, q⟩ := r
    exact ⟨rfl, p, vs, rfl, .inr ⟨SqT.of hp, rfl⟩, q⟩
  | lst ys =>
    obtain ⟨rfl, rfl⟩ := ret_ok (show ret ys W.S = _ from e)
    simp only [Rep] at r
    obtain ⟨p, vs, rfl, hp, _, _, q⟩ := r
    exact ⟨rfl, p, vs, rfl, .inl (SqL.of hp), q⟩
  | fro ys =>
    obtain ⟨rfl, rfl⟩ := ret_ok (show ret ys W.S = _ from e)
    simp only [Rep] at r
    obtain ⟨p, vs, rfl, hp, q⟩ := r
    exact ⟨rfl, p, vs, rfl, .inl hp.toL, q⟩
  | ref k =>
    obtain ⟨rfl, _, a, vs, rfl, _, h2, q⟩ := getC_ok A r (show getC k W.S = .ok xs S' from e)
    exact ⟨rfl, a, vs, rfl, .inl (SqL.of h2), q⟩
  | _ => cases e
theorem one_arg_ok {g : D → M D} {f : List D → M D} (hf : ∀ ds, f ds = match ds with
  | [a] => g a
  | _ => bad) {ds : List D} {S S' : Sto} {d : D} (e : f ds S = .ok d S') : ∃ a, ds = [a] ∧ g a S = .ok d S' := by
  rw [hf] at e
  split at e
  · exact ⟨_, rfl, e⟩
  · cases e
theorem ok_len {K : PySem.W.Frag} : CallOk K (fun xs H Q => ∃ p ys, xs = [.ref p] ∧ (SqL K H p ys ∨ SqT K H p ys) ∧ Q (.int ys.length) H) (biD .len) := by
  intro W ds vs d S' Q A r e k
  change lenB ds W.S = _ at e
  unfold lenB at e
  split at e
  · obtain ⟨xs, S1, e1, e⟩ := bnd_ok e
    obtain ⟨rfl, rfl⟩ := ret_ok e
    obtain ⟨v, rfl, r1⟩ := reps1 r
    obtain ⟨rfl, p, us, rfl, hq, q⟩ := items_ok A r1 e1
    refine ⟨p, us, rfl, hq.imp id fun z => z.1, ?_⟩
    rw [reps_len _ _ q]
    exact k W _ (Nxt.refl A) (int_rep _)
  · cases e
theorem ok_max {K : PySem.W.Frag} : CallOk K (fun xs H Q => ∃ i j, xs = [.int i, .int j] ∧ Q (.int (if j > i then j else i)) H) (biD .max2) := by
  intro W ds vs d S' Q A r e k
  change maxB ds W.S = _ at e
  unfold maxB at e
  split at e
  · obtain ⟨rfl, rfl⟩ := ret_ok e
    obtain ⟨v, w, rfl, r1, r2⟩ := reps2 r
    rw [rep_int r1, rep_int r2]
    exact ⟨_, _, rfl, k W _ (Nxt.refl A) (int_rep _)⟩
  · cases e
theorem ok_min {K : PySem.W.Frag} : CallOk K (fun xs H Q => ∃ i j, xs = [.int i, .int j] ∧ Q (.int (if j < i then j else i)) H) (biD .min2) := by
  intro W ds vs d S' Q A r e k
  change minB ds W.S = _ at e
  unfold minB at e
  split at e
  · obtain ⟨rfl, rfl⟩ := ret_ok e
    obtain ⟨v, w, rfl, r1, r2⟩ := reps2 r
    rw [rep_int r1, rep_int r2]
    exact ⟨_, _, rfl, k W _ (Nxt.refl A) (int_rep _)⟩
  · cases e
theorem ok_tup {K : PySem.W.Frag} : CallOk K (fun xs H Q => ∃ p ys, xs = [.ref p] ∧ ((SqL K H p ys ∧ ∀ l, H l = none → Q (.ref l) (upd H l (.tup ys))) ∨ (SqT K H p ys ∧ Q (.ref p) H))) (biD .tup) := by
  intro W ds vs d S' Q A r e k
  change tupB ds W.S = _ at e
  unfold tupB at e
  split at e
  · obtain ⟨xs, S1, e1, e⟩ := bnd_ok e
    obtain ⟨rfl, rfl⟩ := ret_ok e
    obtain ⟨v, rfl, r1⟩ := reps1 r
    obtain ⟨rfl, p, us, rfl, hq, q⟩ := items_ok A r1 e1
    refine ⟨p, us, rfl, ?_⟩
    rcases hq with hq | ⟨hq, rfl⟩
    · refine .inl ⟨hq, fun l hl => ?_⟩
      obtain ⟨N, rr⟩ := new_tup A hl q
      exact k _ _ N rr
    · exact .inr ⟨hq, k W _ (Nxt.refl A) r1⟩
  · cases e
theorem ok_lst {K : PySem.W.Frag} : CallOk K (fun xs H Q => ∃ p ys, xs = [.ref p] ∧ (SqL K H p ys ∨ SqT K H p ys) ∧ ∀ l, H l = none → Q (.ref l) (upd H l (.lst ys))) (biD .lst) := by
  intro W ds vs d S' Q A r e k
  change lstB ds W.S = _ at e
  unfold lstB at e
  split at e
  · obtain ⟨xs, S1, e1, e⟩ := bnd_ok e
    obtain ⟨rfl, rfl⟩ := ret_ok e
    obtain ⟨v, rfl, r1⟩ := reps1 r
    obtain ⟨rfl, p, us, rfl, hq, q⟩ := items_ok A r1 e1
    refine ⟨p, us, rfl, hq.imp id fun z => z.1, fun l hl => ?_⟩
    obtain ⟨N, rr⟩ := new_lst A hl q
    exact k _ _ N rr
  · cases e
theorem ok_repr {K : PySem.W.Frag} : CallOk K (rRepr K) (biD .repr) := by
  intro W ds vs d S' Q A r e k
  change reprB ds W.S = _ at e
  unfold reprB at e
  split at e
  · rename_i a
    obtain ⟨v, rfl, r1⟩ := reps1 r
    unfold reprD at e
    cases hp : toPy a with
    | some p =>
      rw [hp] at e
      obtain ⟨c, e⟩ := need_ok e
      obtain ⟨rfl, rfl⟩ := ret_ok e
      obtain ⟨c, c3⟩ := and2 c
      obtain ⟨c1, c2⟩ := and2 c
      exact ⟨v, p, rfl, rep_dp.1 _ _ _ r1 hp, c1, of_decide_eq_true c2, of_decide_eq_true c3, k W _ (Nxt.refl A) (str_rep _)⟩
    | none => rw [hp] at e; cases e
  · cases e
theorem all_bools {K : PySem.W.Frag} {W : Wd} : ∀ (xs : List D) (vs : List V) (b : Bool), Reps K W xs vs → allD xs = some b → ∃ bs : List Bool, vs = bs.map V.bl ∧ bs.all id = b
  | [], vs, b, h, e => by
    simp only [Reps] at h
    subst h
    cases e
    exact ⟨[], rfl, rfl⟩
  | x :: xs, vs, b, h, e => by
    simp only [Reps] at h
    obtain ⟨v, r, rfl, h1, h2⟩ := h
    cases x with
    | bl c =>
      simp only [allD] at e
      cases q : allD xs with
      | none => rw [q] at e; cases e
      | some c' =>
        rw [q] at e
        cases e
        obtain ⟨bs, e1, e2⟩ := all_bools xs r c' h2 q
        rw [rep_bl h1, e1]
        exact ⟨c :: bs, rfl, by rw [List.all_cons, e2]; rfl⟩
    | _ => simp only [allD] at e; cases e
theorem ok_all {K : PySem.W.Frag} : CallOk K (rAll K) (biD .all) := by
  intro W ds vs d S' Q A r e k
  change allB ds W.S = _ at e
  unfold allB at e
  split at e
  · rename_i xs
    obtain ⟨c, S1, e1, e⟩ := bnd_ok e
    obtain ⟨rfl, rfl⟩ := ret_ok e
    obtain ⟨e2, rfl⟩ := opt_ok e1
    obtain ⟨v, rfl, r1⟩ := reps1 r
    simp only [Rep] at r1
    obtain ⟨p, us, rfl, hp, _, _, q⟩ := r1
    obtain ⟨bs, rfl, rfl⟩ := all_bools xs us c q e2
    exact ⟨p, bs, rfl, SqL.of hp, k W _ (Nxt.refl A) (bl_rep _)⟩
  · cases e

/-! ### index, slice -/
theorem atI_rep {K : PySem.W.Frag} {W : Wd} {xs : List D} {vs : List V} {i : Int} {d : D} (r : Reps K W xs vs) (h : L2.atI xs i = some d) : ∃ v, L2.atI vs i = some v ∧ Rep K W d v := by
  unfold L2.atI at h ⊢
  rw [reps_len _ _ r]
  cases q : L2.ixN xs.length i with
  | none => rw [q] at h; cases h
  | some j =>
    rw [q] at h
    exact reps_get _ _ j r d h
theorem k_ix {K : PySem.W.Frag} : OpOk K (rIx K) ixD := by
  intro W d1 d2 v1 v2 d S' Q A r1 r2 e k
  unfold ixD at e
  split at e
  · obtain ⟨xs, S1, e1, e⟩ := bnd_ok e
    obtain ⟨e2, rfl⟩ := opt_ok e
    obtain ⟨rfl, p, us, rfl, hq, q⟩ := items_ok A r1 e1
    obtain ⟨v, h1, h2⟩ := atI_rep q e2
    rw [rep_int r2]
    have fin := k W v (Nxt.refl A) h2
    rcases hq with hq | ⟨hq, _⟩
    · exact .inl ⟨p, us, _, v, rfl, rfl, hq, h1, fin⟩
    · exact .inr (.inl ⟨p, us, _, v, rfl, rfl, hq, h1, fin⟩)
  · cases e
theorem s_ix {a b : Expr} {ma mb : Env → M D} {pos : Pos} (ha : PE X a (tI X.K ma)) (hb : PE X b (tI X.K mb)) (hs : PlainIx b) : PE X (.Subscript a b pos) (tI X.K fun ρ => bnd (ma ρ) fun x => bnd (mb ρ) fun y => ixD x y) :=
  (pe_ix ix_seq ha hb hs).weak (s_op2 k_ix)
def rSl (K : PySem.W.Frag) : V → Option Int → Option Int → Hp → VK → Prop := fun x lo hi H Q => rSlA K x lo hi H Q ∨ rSlL K x lo hi H Q
theorem sl_all : SlR X (rSl X.K) := SlR.or sl_tupA sl_list
theorem reps_cut {K : PySem.W.Frag} {W : Wd} {xs : List D} {vs : List V} (r : Reps K W xs vs) (lo hi : Option Int) : Reps K W (cutD xs lo hi) (cutV vs lo hi) := by
  unfold cutD cutV
  rw [reps_len _ _ r]
  exact reps_take _ _ _ (reps_drop _ _ _ r)
theorem mkL_ok {K : PySem.W.Frag} {W : Wd} (A : Abs K W) {m : Bool} {xs : List D} {vs : List V} (r : Reps K W xs vs) {p : Addr} (hp : W.H p = none) {d : D} {S' : Sto} (e : mkL m xs W.S = .ok d S') :
    ∃ W', W'.H = upd W.H p (.lst vs) ∧ Nxt K W S' W' ∧ Rep K W' d (.ref p) := by
  unfold mkL at e
  split at e
  · cases e
    obtain ⟨N, q⟩ := new_cell A hp r
    exact ⟨_, rfl, N, q⟩
  · cases e
    obtain ⟨N, q⟩ := new_lst A hp r
    exact ⟨_, rfl, N, q⟩
theorem k_sl {K : PySem.W.Frag} {W : Wd} (A : Abs K W) {m : Bool} {d : D} {v : V} {lo hi : Option Int} {y : D} {S' : Sto} {Q : VK} (r : Rep K W d v) (e : slD m d lo hi W.S = .ok y S') (k : ∀ W' u, Nxt K W S' W' → Rep K W' y u → Q u W'.H) : rSl K v lo hi W.H Q := by
  unfold slD at e
  split at e
  · rename_i xs
    obtain ⟨rfl, rfl⟩ := ret_ok e
    have r' := r
    simp only [Rep] at r
    obtain ⟨p, vs, rfl, hp, q⟩ := r
    refine .inl ⟨p, vs, rfl, SqT.of hp, fun z => ?_, fun z l hl => ?_⟩
    · have e1 : cutD xs lo hi = xs := by
        unfold cutD
        rw [reps_len _ _ q] at z
        rw [z.1, z.2]
        simp
      rw [e1] at k
      exact k W _ (Nxt.refl A) r'
    · obtain ⟨N, rr⟩ := new_tup A hl (reps_cut q lo hi)
      exact k _ _ N rr
  · simp only [Rep] at r
    obtain ⟨p, vs, rfl, hp, _, _, q⟩ := r
    refine .inr ⟨p, vs, rfl, SqL.of hp, fun l hl => ?_⟩
    obtain ⟨W', h1, N, rr⟩ := mkL_ok A (reps_cut q lo hi) hl e
    rw [← h1]
    exact k _ _ N rr
  · simp only [Rep] at r
    obtain ⟨p, vs, rfl, hp, q⟩ := r
    refine .inr ⟨p, vs, rfl, hp.toL, fun l hl => ?_⟩
    obtain ⟨W', h1, N, rr⟩ := mkL_ok A (reps_cut q lo hi) hl e
    rw [← h1]
    exact k _ _ N rr
  · obtain ⟨xs, S1, e1, e⟩ := bnd_ok e
    obtain ⟨rfl, _, p, vs, rfl, _, hp, q⟩ := getC_ok A r e1
    refine .inr ⟨p, vs, rfl, SqL.of hp, fun l hl => ?_⟩
    obtain ⟨W', h1, N, rr⟩ := mkL_ok A (reps_cut q lo hi) hl e
    rw [← h1]
    exact k _ _ N rr
  · cases e
theorem s_sl {m : Bool} {e : Expr} {lo hi : Option Expr} {ma : Env → M D} {ml mh : Env → M (Option Int)} {p2 pos : Pos} (ha : PE X e (tI X.K ma)) (hl : PO X lo (tOi X.K ml)) (hh : PO X hi (tOi X.K mh)) :
    PE X (.Subscript e (.Slice lo hi none p2) pos) (tI X.K fun ρ => bnd (ma ρ) fun x => bnd (ml ρ) fun l => bnd (mh ρ) fun h => slD m x l h) := by
  refine (pe_slice sl_all ha hl hh).weak ?_
  rintro σ H Q ⟨W, ρ, rfl, A, sl, d, S', e, k⟩
  obtain ⟨x, S1, e1, e⟩ := bnd_ok e
  obtain ⟨l, S2, e2, e⟩ := bnd_ok e
  obtain ⟨h, S3, e3, e⟩ := bnd_ok e
  refine ⟨W, ρ, rfl, A, sl, x, S1, e1, fun W1 v1 N1 r1 => ?_⟩
  refine ⟨W1, ρ, rfl, N1.ab, sl.ext A N1.ext, l, S2, by rw [N1.st]; exact e2, fun W2 N2 => ?_⟩
  refine ⟨W2, ρ, rfl, N2.ab, (sl.ext A N1.ext).ext N1.ab N2.ext, h, S3, by rw [N2.st]; exact e3, fun W3 N3 => ?_⟩
  exact k_sl N3.ab (Rep.ext N1.ab (N2.trans N3).ext _ _ r1) (by rw [N3.st]; exact e) fun W4 v N4 r4 => k W4 v ((N1.trans N2).trans (N3.trans N4)) r4
end
end AG
namespace AG
open PySem PySem.Spec PyProof.Rows L2
section
variable {X : Cx} {a b c e : Expr} {pos : Pos} {ma mb mc : Env → M D}
/-! ### names, constants -/
theorem getV_ok {ρ : Env} {i : Nat} {d : D} {S S' : Sto} (e : getV ρ i S = .ok d S') : ρ[i]? = some (some d) ∧ S = S' := by
  unfold getV at e
  cases h : ρ[i]? with
  | none => rw [h] at e; cases e
  | some o =>
    rw [h] at e
    cases o with
    | none => cases e
    | some d' =>
      obtain ⟨rfl, rfl⟩ := ret_ok e
      exact ⟨rfl, rfl⟩
theorem s_var {i : Nat} {x : Str} (hN : X.N[i]? = some x) (hv : Vis X.env.scope x) (hd : (x == ("__debug__" : Str)) = false) (hcd : (x == ("__classdict__" : Str)) = false) : PE X (.Name x pos) (tI X.K fun ρ => getV ρ i) := by
  refine (pe_var hN hv hd hcd).weak ?_
  rintro σ H Q ⟨W, ρ, rfl, A, sl, d, S', e, k⟩
  obtain ⟨h, rfl⟩ := getV_ok e
  obtain ⟨v, h1, h2⟩ := sl.2 i _ h
  exact ⟨v, h1, k W v (Nxt.refl A) h2⟩
theorem s_const {v : V} {d : D} (h : PE X e (tC v)) (hr : ∀ W, Rep X.K W d v) : PE X e (tI X.K fun _ => ret d) := by
  refine h.weak ?_
  rintro σ H Q ⟨W, ρ, rfl, A, sl, d', S', e, k⟩
  obtain ⟨rfl, rfl⟩ := ret_ok e
  exact k W v (Nxt.refl A) (hr W)
theorem s_neg (ha : PE X a (tI X.K ma)) : PE X (.UnaryOp .USub a pos) (tI X.K fun ρ => bnd (ma ρ) fun x => match x with
    | .int i => ret (.int (-i))
    | _ => bad) := by
  refine (pe_un un_neg ha).weak ?_
  rintro σ H Q ⟨W, ρ, rfl, A, sl, d, S', e, k⟩
  obtain ⟨x, S1, e1, e⟩ := bnd_ok e
  refine ⟨W, ρ, rfl, A, sl, x, S1, e1, fun W1 v N r => ?_⟩
  split at e
  · obtain ⟨rfl, rfl⟩ := ret_ok e
    rw [rep_int r]
    exact ⟨_, rfl, k W1 _ N (int_rep _)⟩
  · cases e
/-! ### and, or, not, if -/
variable {rest : List Expr}
theorem s_and (ha : PE X a (tI X.K ma)) (hb : PE X (.BoolOp .And (b :: rest) pos) (tI X.K mb)) : PE X (.BoolOp .And (a :: b :: rest) pos) (tI X.K fun ρ => bnd (ma ρ) fun x => match x with
    | .bl true => mb ρ
    | .bl false => ret (.bl false)
    | _ => bad) := by
  refine (pe_and ha hb).weak ?_
  rintro σ H Q ⟨W, ρ, rfl, A, sl, d, S', e, k⟩
  obtain ⟨x, S1, e1, e⟩ := bnd_ok e
  refine ⟨W, ρ, rfl, A, sl, x, S1, e1, fun W1 v N r => ?_⟩
  split at e
  · rw [rep_bl r]
    refine ⟨true, rfl, iteT ⟨W1, ρ, rfl, N.ab, sl.ext A N.ext, d, S', by rw [N.st]; exact e, fun W2 v2 N2 r2 => k W2 v2 (N.trans N2) r2⟩⟩
  · obtain ⟨rfl, rfl⟩ := ret_ok e
    rw [rep_bl r]
    exact ⟨false, rfl, iteF (k W1 _ N (bl_rep _))⟩
  · cases e
theorem s_or (ha : PE X a (tI X.K ma)) (hb : PE X (.BoolOp .Or (b :: rest) pos) (tI X.K mb)) : PE X (.BoolOp .Or (a :: b :: rest) pos) (tI X.K fun ρ => bnd (ma ρ) fun x => match x with
    | .bl false => mb ρ
    | .bl true => ret (.bl true)
    | _ => bad) := by
  refine (pe_or ha hb).weak ?_
  rintro σ H Q ⟨W, ρ, rfl, A, sl, d, S', e, k⟩
  obtain ⟨x, S1, e1, e⟩ := bnd_ok e
  refine ⟨W, ρ, rfl, A, sl, x, S1, e1, fun W1 v N r => ?_⟩
  split at e
  · rw [rep_bl r]
    refine ⟨false, rfl, iteF ⟨W1, ρ, rfl, N.ab, sl.ext A N.ext, d, S', by rw [N.st]; exact e, fun W2 v2 N2 r2 => k W2 v2 (N.trans N2) r2⟩⟩
  · obtain ⟨rfl, rfl⟩ := ret_ok e
    rw [rep_bl r]
    exact ⟨true, rfl, iteT (k W1 _ N (bl_rep _))⟩
  · cases e
theorem s_not (ha : PE X a (tI X.K ma)) : PE X (.UnaryOp .Not a pos) (tI X.K fun ρ => bnd (ma ρ) fun x => match x with
    | .bl b => ret (.bl (!b))
    | _ => bad) := by
  refine (pe_not ha).weak ?_
  rintro σ H Q ⟨W, ρ, rfl, A, sl, d, S', e, k⟩
  obtain ⟨x, S1, e1, e⟩ := bnd_ok e
  refine ⟨W, ρ, rfl, A, sl, x, S1, e1, fun W1 v N r => ?_⟩
  split at e
  · obtain ⟨rfl, rfl⟩ := ret_ok e
    rw [rep_bl r]
    exact ⟨_, rfl, k W1 _ N (bl_rep _)⟩
  · cases e
variable {na nb nc : Env → M Bool}
theorem s_ife (hc : PT X c (tT X.K nc)) (ha : PE X a (tI X.K ma)) (hb : PE X b (tI X.K mb)) : PE X (.IfExp c a b pos) (tI X.K fun ρ => bnd (nc ρ) fun k => if k then ma ρ else mb ρ) := by
  refine (pe_ifExp hc ha hb).weak ?_
  rintro σ H Q ⟨W, ρ, rfl, A, sl, d, S', e, k⟩
  obtain ⟨x, S1, e1, e⟩ := bnd_ok e
  refine ⟨W, ρ, rfl, A, sl, x, S1, e1, fun W1 N => ?_⟩
  cases x with
  | true =>
    simp only [if_true] at e ⊢
    exact ⟨W1, ρ, rfl, N.ab, sl.ext A N.ext, d, S', by rw [N.st]; exact e, fun W2 v2 N2 r2 => k W2 v2 (N.trans N2) r2⟩
  | false =>
    simp only [Bool.false_eq_true, if_false] at e ⊢
    exact ⟨W1, ρ, rfl, N.ab, sl.ext A N.ext, d, S', by rw [N.st]; exact e, fun W2 v2 N2 r2 => k W2 v2 (N.trans N2) r2⟩
/-! ### tests -/
theorem w_and1 (ha : PT X a (tT X.K na)) : PW X (.BoolOp .And [a] pos) (tT X.K na) := pw_and1 ha
theorem w_and (ha : PT X a (tT X.K na)) (hb : PW X (.BoolOp .And (b :: rest) pos) (tT X.K nb)) : PW X (.BoolOp .And (a :: b :: rest) pos) (tT X.K fun ρ => bnd (na ρ) fun k => if k then nb ρ else ret false) := by
  refine (pw_and ha hb).weak ?_
  rintro σ H Q ⟨W, ρ, rfl, A, sl, d, S', e, k⟩
  obtain ⟨x, S1, e1, e⟩ := bnd_ok e
  refine ⟨W, ρ, rfl, A, sl, x, S1, e1, fun W1 N => ?_⟩
  cases x with
  | true =>
    simp only [if_true] at e ⊢
    exact ⟨W1, ρ, rfl, N.ab, sl.ext A N.ext, d, S', by rw [N.st]; exact e, fun W2 N2 => k W2 (N.trans N2)⟩
  | false =>
    simp only [Bool.false_eq_true, if_false] at e ⊢
    obtain ⟨rfl, rfl⟩ := ret_ok e
    exact k W1 N
theorem w_or (ha : PT X a (tT X.K na)) (hb : PW X (.BoolOp .Or (b :: rest) pos) (tT X.K nb)) : PW X (.BoolOp .Or (a :: b :: rest) pos) (tT X.K fun ρ => bnd (na ρ) fun k => if k then ret true else nb ρ) := by
  refine (pw_or ha hb).weak ?_
  rintro σ H Q ⟨W, ρ, rfl, A, sl, d, S', e, k⟩
  obtain ⟨x, S1, e1, e⟩ := bnd_ok e
  refine ⟨W, ρ, rfl, A, sl, x, S1, e1, fun W1 N => ?_⟩
  cases x with
  | false =>
    simp only [Bool.false_eq_true, if_false] at e ⊢
    exact ⟨W1, ρ, rfl, N.ab, sl.ext A N.ext, d, S', by rw [N.st]; exact e, fun W2 N2 => k W2 (N.trans N2)⟩
  | true =>
    simp only [if_true] at e ⊢
    obtain ⟨rfl, rfl⟩ := ret_ok e
    exact k W1 N
/-- a test of and, or is one whatever its whole -/
theorem w_of {op : BoolOp} {vs : List Expr} {t : TT} (h : PT X (.BoolOp op vs pos) t) : PW X (.BoolOp op vs pos) t := ⟨fun wh pins s σ H Q I q => h.run pins s σ H Q I q⟩
theorem t_not (ha : PT X a (tT X.K na)) : PT X (.UnaryOp .Not a pos) (tT X.K fun ρ => bnd (na ρ) fun k => ret (!k)) := by
  refine (pt_not ha).weak ?_
  rintro σ H Q ⟨W, ρ, rfl, A, sl, d, S', e, k⟩
  obtain ⟨x, S1, e1, e⟩ := bnd_ok e
  obtain ⟨rfl, rfl⟩ := ret_ok e
  exact ⟨W, ρ, rfl, A, sl, x, S1, e1, fun W1 N => k W1 N⟩
theorem t_chain {op op' : CmpOp} {r r' : R2} {g g' : D → D → M Bool} (ho : OpR X (compareOp op) r) (ho' : OpR X (compareOp op') r') (hk : OpB X.K r g) (hk' : OpB X.K r' g') (ha : PE X a (tI X.K ma)) (hb : PE X b (tI X.K mb)) (hc : PE X c (tI X.K mc))
    (hm : behindInMarks op b = false) (hm' : behindInMarks op' c = false) :
    PT X (.Compare a [op, op'] [b, c] pos) (tT X.K fun ρ => bnd (ma ρ) fun x => bnd (mb ρ) fun y => bnd (g x y) fun k => if k then bnd (mc ρ) fun z => g' y z else ret false) := by
  refine (pt_chain ho ho' ha hb hc (by first | exact hm | exact hm')).weak (tT_of (t := tChain r r' (tI X.K ma) (tI X.K mb) (tI X.K mc)) fun σ H Q h => chain_ok hk hk' σ H Q ?_)
  have e : (fun ρ => bnd (bnd (ma ρ) fun x => bnd (mb ρ) fun y => bnd (g x y) fun k => if k then bnd (mc ρ) fun z => g' y z else ret false) fun k => ret (D.bl k)) =
      (fun ρ => bnd (ma ρ) fun x => bnd (mb ρ) fun y => bnd (g x y) fun k => if k then bnd (mc ρ) fun z => bnd (g' y z) fun k' => ret (D.bl k') else ret (.bl false)) := by
    funext ρ
    simp only [bnd_assoc]
    congr 1
    funext x
    congr 1
    funext y
    congr 1
    funext k
    cases k with
    | true => simp only [if_true, bnd_assoc]
    | false => simp only [Bool.false_eq_true, if_false, bnd_ret]
  rw [← e]
  exact h
theorem s_chain {op op' : CmpOp} {r r' : R2} {g g' : D → D → M Bool} (ho : OpR X (compareOp op) r) (ho' : OpR X (compareOp op') r') (hk : OpB X.K r g) (hk' : OpB X.K r' g') (ha : PE X a (tI X.K ma)) (hb : PE X b (tI X.K mb)) (hc : PE X c (tI X.K mc))
    (hm : behindInMarks op b = false) (hm' : behindInMarks op' c = false) :
    PE X (.Compare a [op, op'] [b, c] pos) (tI X.K fun ρ => bnd (ma ρ) fun x => bnd (mb ρ) fun y => bnd (g x y) fun k => if k then bnd (mc ρ) fun z => bnd (g' y z) fun k' => ret (.bl k') else ret (.bl false)) :=
  (pe_chain ho ho' ha hb hc (by first | exact hm | exact hm')).weak (chain_ok hk hk')
theorem empty_len {α β : Type} {xs : List α} {ys : List β} (h : xs.length = ys.length) : xs.isEmpty = ys.isEmpty := by
  cases xs <;> cases ys <;> simp_all
/-- by its truth -/
theorem t_tru (ha : PE X a (tI X.K ma)) (he : ∀ whole, isTrue a X.env whole = (do let v ← whole; standAt a.pos; holding [v] (truthy v))) : PT X a (tT X.K fun ρ => bnd (ma ρ) truD) := by
  refine (pt_truth ha he).weak ?_
  rintro σ H Q ⟨W, ρ, rfl, A, sl, d, S', e, k⟩
  obtain ⟨x, S1, e1, e⟩ := bnd_ok e
  refine ⟨W, ρ, rfl, A, sl, x, S1, e1, fun W1 v N r => ?_⟩
  unfold truD at e
  split at e
  · obtain ⟨rfl, rfl⟩ := ret_ok e
    rw [rep_bl r]
    exact ⟨_, rfl, k W1 N⟩
  · obtain ⟨rfl, rfl⟩ := ret_ok e
    simp only [Rep] at r
    subst r
    exact ⟨_, rfl, k W1 N⟩
  · obtain ⟨rfl, rfl⟩ := ret_ok e
    rw [rep_int r]
    exact ⟨_, rfl, k W1 N⟩
  · obtain ⟨rfl, rfl⟩ := ret_ok e
    simp only [Rep] at r
    obtain ⟨p, vs, rfl, hp, q⟩ := r
    refine ⟨_, .inr (.inl ⟨vs, SqT.of hp, rfl⟩), ?_⟩
    rw [empty_len (reps_len _ _ q)]
    exact k W1 N
  · obtain ⟨rfl, rfl⟩ := ret_ok e
    simp only [Rep] at r
    obtain ⟨p, vs, rfl, hp, _, _, q⟩ := r
    refine ⟨_, .inl ⟨vs, SqL.of hp, rfl⟩, ?_⟩
    rw [empty_len (reps_len _ _ q)]
    exact k W1 N
  · rename_i s
    obtain ⟨c, e⟩ := need_ok e
    obtain ⟨rfl, rfl⟩ := ret_ok e
    have r : v = .str s := by simpa only [Rep] using r
    subst r
    have := small_le c
    refine ⟨_, ⟨line_1M (by omega), ?_⟩, k W1 N⟩
    by_cases h : s.length = 0
    · rw [h]; rfl
    · rw [show ((s.length : Int) != 0) = true from bne_iff_ne.mpr (by omega), show (s.length != 0) = true from bne_iff_ne.mpr h]
  · cases e
/-- a value that is a bool, as a test -/
theorem t_bool {n : Env → M Bool} (ha : PE X a (tI X.K fun ρ => bnd (n ρ) fun k => ret (.bl k))) (he : ∀ whole, isTrue a X.env whole = (do let v ← whole; standAt a.pos; holding [v] (truthy v))) : PT X a (tT X.K n) := by
  refine (pt_val ha he).weak ?_
  exact tT_of (t := tI X.K fun ρ => bnd (n ρ) fun k => ret (.bl k)) fun σ H Q h => h
/-! ### lists of expressions -/
variable {es : List Expr} {me : Env → M D} {ms : Env → M (List D)}
theorem s_nil : PA X [] (tAs X.K fun _ => ret []) := by
  refine pa_nil.weak ?_
  rintro σ H Q ⟨W, ρ, rfl, A, sl, d, S', e, k⟩
  obtain ⟨rfl, rfl⟩ := ret_ok e
  exact k W [] (Nxt.refl A) (by simp only [Reps])
theorem s_cons (ha : PE X e (tI X.K me)) (hr : PA X es (tAs X.K ms)) (hs : starEach (e :: es) X.env = (false, eval e X.env) :: starEach es X.env) : PA X (e :: es) (tAs X.K fun ρ => bnd (me ρ) fun x => bnd (ms ρ) fun xs => ret (x :: xs)) := by
  refine (pa_cons ha hr hs).weak ?_
  rintro σ H Q ⟨W, ρ, rfl, A, sl, d, S', e, k⟩
  obtain ⟨x, S1, e1, e⟩ := bnd_ok e
  obtain ⟨xs, S2, e2, e⟩ := bnd_ok e
  obtain ⟨rfl, rfl⟩ := ret_ok e
  refine ⟨W, ρ, rfl, A, sl, x, S1, e1, fun W1 v N r => ?_⟩
  refine ⟨W1, ρ, rfl, N.ab, sl.ext A N.ext, xs, S2, by rw [N.st]; exact e2, fun W2 vs N2 r2 => ?_⟩
  exact k W2 _ (N.trans N2) (by simp only [Reps]; exact ⟨v, vs, rfl, Rep.ext N.ab N2.ext _ _ r, r2⟩)
theorem s_tup {x1} (h : PA X es (tAs X.K ms)) : PE X (.Tuple es x1 pos) (tI X.K fun ρ => bnd (ms ρ) fun xs => need (small xs.length) (ret (.tup xs))) := by
  refine (pe_tup h).weak ?_
  rintro σ H Q ⟨W, ρ, rfl, A, sl, d, S', e, k⟩
  obtain ⟨xs, S1, e1, e⟩ := bnd_ok e
  obtain ⟨c, e⟩ := need_ok e
  obtain ⟨rfl, rfl⟩ := ret_ok e
  refine ⟨W, ρ, rfl, A, sl, xs, S1, e1, fun W1 vs N r => ⟨?_, fun p hp => ?_⟩⟩
  · rw [reps_len _ _ r]
    have := small_le c
    exact line_1M (by omega)
  · obtain ⟨N2, r2⟩ := new_tup N.ab hp r
    exact k _ _ (N.at_ N2) r2
theorem s_lst {m : Bool} (h : PA X es (tAs X.K ms)) : PE X (.List es pos) (tI X.K fun ρ => bnd (ms ρ) fun xs => need (small xs.length) (mkL m xs)) := by
  refine (pe_lst h).weak ?_
  rintro σ H Q ⟨W, ρ, rfl, A, sl, d, S', e, k⟩
  obtain ⟨xs, S1, e1, e⟩ := bnd_ok e
  obtain ⟨c, e⟩ := need_ok e
  refine ⟨W, ρ, rfl, A, sl, xs, S1, e1, fun W1 vs N r => ⟨?_, fun p hp => ?_⟩⟩
  · rw [reps_len _ _ r]
    have := small_le c
    exact line_1M (by omega)
  · obtain ⟨W2, h1, N2, r2⟩ := mkL_ok N.ab r hp (m := m) (by rw [N.st]; exact e)
    rw [← h1]
    exact k _ _ (N.trans N2) r2
/-! ### parts of slices -/
theorem s_no : PO X none (tOi X.K fun _ => ret none) := ⟨fun pins s σ H Q I h => po_none.run pins s σ H Q I (by
  obtain ⟨W, ρ, rfl, A, sl, d, S', e, k⟩ := h
  obtain ⟨rfl, rfl⟩ := ret_ok e
  exact k W (Nxt.refl A))⟩
theorem s_yes (ha : PE X e (tI X.K me)) : PO X (some e) (tOi X.K fun ρ => bnd (me ρ) fun x => match x with
    | .int i => ret (some i)
    | _ => bad) := ⟨fun pins s σ H Q I h => (po_some ha).run pins s σ H Q I (by
  obtain ⟨W, ρ, rfl, A, sl, d, S', e, k⟩ := h
  obtain ⟨x, S1, e1, e⟩ := bnd_ok e
  refine ⟨W, ρ, rfl, A, sl, x, S1, e1, fun W1 v N r => ?_⟩
  split at e
  · obtain ⟨rfl, rfl⟩ := ret_ok e
    rw [rep_int r]
    exact ⟨_, rfl, k W1 N⟩
  · cases e)⟩
/-! ### ranges, isinstance, pop -/
theorem rgV_eq (n : Int) (h : 0 ≤ n) : rgV 0 n = (List.range n.toNat).map fun k => V.int (0 + (k : Nat)) := by
  unfold rgV
  rw [Int.sub_zero]
theorem s_lrg {m : Bool} {p p2 pos2 : Pos} (hc : X.calm = true) (hg : Gl X "list") (hm : X.mg "list" = none) (hg2 : Gl X "range") (hm2 : X.mg "range" = none) (ha : PE X a (tI X.K ma)) (na : starEach [a] X.env = (false, eval a X.env) :: starEach [] X.env) :
    PE X (.Call (.Name "list" p) [.Call (.Name "range" p2) [a] [] pos2] [] pos) (tI X.K fun ρ => bnd (ma ρ) fun x => match x with
    | .int n => need (decide (0 ≤ n) && decide (n ≤ 1000000)) (mkL m (rngL 0 n.toNat))
    | _ => bad) := by
  refine (pe_listRg hc hg hm (prg_1 hg2 hm2 ha na)).weak ?_
  rintro σ H Q ⟨W, ρ, rfl, A, sl, d, S', e, k⟩
  obtain ⟨x, S1, e1, e⟩ := bnd_ok e
  refine ⟨W, ρ, rfl, A, sl, x, S1, e1, fun W1 v N r => ?_⟩
  split at e
  · rename_i n
    obtain ⟨c, e⟩ := need_ok e
    obtain ⟨c1, c2⟩ := and2 c
    have h1 := of_decide_eq_true c1
    have h2 := of_decide_eq_true c2
    rw [rep_int r]
    refine ⟨n, rfl, RgOk.of_le (by decide) (by omega) (by decide) h1, fun q hq => ?_⟩
    rw [rgV_eq n h1]
    obtain ⟨W2, h1, N2, r2⟩ := mkL_ok N.ab (reps_rng 0 n.toNat) hq (m := m) (by rw [N.st]; exact e)
    rw [← h1]
    exact k _ _ (N.trans N2) r2
  · cases e
theorem s_trg {p p2 pos2 : Pos} (hc : X.calm = true) (hg : Gl X "tuple") (hm : X.mg "tuple" = none) (hg2 : Gl X "range") (hm2 : X.mg "range" = none) (ha : PE X a (tI X.K ma)) (na : starEach [a] X.env = (false, eval a X.env) :: starEach [] X.env) :
    PE X (.Call (.Name "tuple" p) [.Call (.Name "range" p2) [a] [] pos2] [] pos) (tI X.K fun ρ => bnd (ma ρ) fun x => match x with
    | .int n => need (decide (0 ≤ n) && decide (n ≤ 1000000)) (ret (.tup (rngL 0 n.toNat)))
    | _ => bad) := by
  refine (pe_tupRg hc hg hm (prg_1 hg2 hm2 ha na)).weak ?_
  rintro σ H Q ⟨W, ρ, rfl, A, sl, d, S', e, k⟩
  obtain ⟨x, S1, e1, e⟩ := bnd_ok e
  refine ⟨W, ρ, rfl, A, sl, x, S1, e1, fun W1 v N r => ?_⟩
  split at e
  · rename_i n
    obtain ⟨c, e⟩ := need_ok e
    obtain ⟨rfl, rfl⟩ := ret_ok e
    obtain ⟨c1, c2⟩ := and2 c
    have h1 := of_decide_eq_true c1
    have h2 := of_decide_eq_true c2
    rw [rep_int r]
    refine ⟨n, rfl, RgOk.of_le (by decide) (by omega) (by decide) h1, fun q hq => ?_⟩
    rw [rgV_eq n h1]
    obtain ⟨N2, r2⟩ := new_tup N.ab hq (reps_rng 0 n.toNat)
    exact k _ _ (N.at_ N2) r2
  · cases e
theorem setC_ok {k : Nat} {xs ys : List D} {S S' : Sto} (h : S[k]? = some (some ys)) {u : Unit} (e : setC k xs S = .ok u S') : S' = S.set k (some xs) := by
  unfold setC at e
  rw [h] at e
  cases e
  rfl
theorem seqIx_nat {j : Nat} {n : Nat} (h : j < n) : seqIndex? (j : Int) n = some j := (L2.ixN_seq (show L2.ixN n (j : Int) = some j by
  unfold L2.ixN
  rw [if_pos (by omega), if_pos (by omega)]
  rfl)).1
end
end AG
namespace AG
open PySem PySem.Spec PyProof.Rows L2
section
variable {X : Cx} {a b c e : Expr} {pos : Pos} {ma mb mc : Env → M D}
/-! ### o.pop(i), isinstance -/
theorem isC_ok {K : PySem.W.Frag} {W : Wd} (A : Abs K W) {d : D} {v : V} {S' : Sto} {u : Unit} (r : Rep K W d v) (e : isC d W.S = .ok u S') : S' = W.S ∧ tyV K "list" v W.H := by
  unfold isC at e
  split at e
  · obtain ⟨xs, S1, e1, e⟩ := bnd_ok e
    obtain ⟨_, rfl⟩ := ret_ok e
    obtain ⟨rfl, h, p, vs, rfl, h1, h2, q⟩ := getC_ok A r e1
    exact ⟨rfl, .inl ⟨rfl, vs, SqL.of h2⟩⟩
  · cases e
theorem k_pop {K : PySem.W.Frag} {W : Wd} (A : Abs K W) {x y d : D} {v w : V} {S' : Sto} {Q : VK} (r : Rep K W x v) (r3 : Rep K W y w) (e : popD x y W.S = .ok d S') (k : ∀ W' u, Nxt K W S' W' → Rep K W' d u → Q u W'.H) : rPopAt v [w] W.H Q := by
  unfold popD at e
  split at e
  · rename_i c j
    obtain ⟨xs, S4, e4, e⟩ := bnd_ok e
    obtain ⟨rfl, hk, p, us, rfl, h1, h2, q⟩ := getC_ok A r e4
    cases hx : xs[j.toNat]? with
    | none => rw [hx] at e; cases e
    | some z =>
      rw [hx] at e
      obtain ⟨cc, e⟩ := need_ok e
      obtain ⟨c1, c2⟩ := and2 cc
      have h0 := of_decide_eq_true c1
      have h9 := of_decide_eq_true c2
      obtain ⟨_, S5, e5, e⟩ := bnd_ok e
      obtain ⟨rfl, rfl⟩ := ret_ok e
      have e6 := setC_ok hk e5
      obtain ⟨w', hw, rw'⟩ := reps_get _ _ _ q _ hx
      have hlen := reps_len _ _ q
      have hj : j.toNat < xs.length := (List.getElem?_eq_some_iff.mp hx).1
      rw [rep_int r3]
      have hse := seqIx_nat (j := j.toNat) (n := us.length) (by rw [hlen]; exact hj)
      rw [Int.toNat_of_nonneg h0] at hse
      refine ⟨p, us, j, j.toNat, w', rfl, rfl, h2, by omega, by omega, hse, hw, ?_⟩
      have N3 := set_cell A hk h1 (reps_erase j.toNat _ _ q)
      rw [← e6] at N3
      exact k _ w' N3 (Rep.ext A N3.ext _ _ rw')
  · cases e
theorem s_pop {o i : Expr} {mo mi : Env → M D} {apos cpos : Pos} (ho : PE X o (tI X.K mo)) (hi : PE X i (tI X.K mi)) (hbase : attributeBase o "pop" X.env (eval o X.env) = eval o X.env) (hline : (apos.endLine == cpos.line) = true)
    (hs : starEach [i] X.env = (false, eval i X.env) :: starEach [] X.env) : PE X (.Call (.Attribute o "pop" apos) [i] [] cpos) (tI X.K fun ρ => bnd (mo ρ) fun x => bnd (isC x) fun _ => bnd (mi ρ) fun y => popD x y) := by
  refine (pe_bm PySem.F.plainAttrs_list PySem.F.slot_list_pop PySem.F.type_list_pop mt_popAt ho (s_cons hi s_nil hs) hbase (by rw [hs]; rfl) hline hs rfl).weak ?_
  rintro σ H Q ⟨W, ρ, rfl, A, sl, d, S', e, k⟩
  obtain ⟨x, S1, e1, e⟩ := bnd_ok e
  obtain ⟨_, S2, e2, e⟩ := bnd_ok e
  obtain ⟨y, S3, e3, e⟩ := bnd_ok e
  refine ⟨W, ρ, rfl, A, sl, x, S1, e1, fun W1 v N r => ?_⟩
  rw [← N.st] at e2
  obtain ⟨h, ty⟩ := isC_ok N.ab r e2
  rw [h] at e3
  refine ⟨ty, W1, ρ, rfl, N.ab, sl.ext A N.ext, [y], S3, bnd_mk e3 rfl, fun W2 vs N2 r2 => ?_⟩
  obtain ⟨w, rfl, r3⟩ := reps1 r2
  exact k_pop N2.ab (Rep.ext N.ab N2.ext _ _ r) r3 (by rw [N2.st]; exact e) fun W3 u N3 r4 => k W3 u ⟨N3.st, N3.lk.trans (N2.lk.trans N.lk), N3.ab, (N.ext.trans N2.ext).trans N3.ext⟩ r4
theorem k_idx {K : PySem.W.Frag} {W : Wd} (A : Abs K W) {x y d : D} {v w : V} {S' : Sto} {Q : VK} (r : Rep K W x v) (r3 : Rep K W y w) (e : idxD x y W.S = .ok d S') (k : ∀ W' u, Nxt K W S' W' → Rep K W' d u → Q u W'.H) : rIndexD K v [w] W.H Q := by
  unfold idxD at e
  split at e
  · rename_i c
    obtain ⟨xs, S4, e4, e⟩ := bnd_ok e
    obtain ⟨rfl, hk, p, us, rfl, h1, h2, q⟩ := getC_ok A r e4
    cases h3 : toPy y with
    | none => rw [h3] at e; cases e
    | some z =>
      cases h4 : toPys xs with
      | none => rw [h3, h4] at e; cases e
      | some ps =>
        rw [h3, h4] at e
        obtain ⟨c1, e⟩ := need_ok e
        obtain ⟨c1, c2⟩ := and2 c1
        obtain ⟨e1, e2⟩ := opt_ok e
        subst e2
        obtain ⟨j, hj, rfl⟩ := Option.map_eq_some_iff.mp e1
        obtain ⟨hl, hz, hno⟩ := List.findIdx?_eq_some_iff_getElem.mp hj
        refine ⟨p, w, z, ps, j, ps[j], rfl, rfl, .lst (SqL.of h2) (reps_dp xs us ps q h4), rep_dp.1 _ _ _ r3 h3, c2, c1, List.getElem?_eq_getElem hl, hz, fun m z' hm hz' => ?_, k W _ (Nxt.refl A) (int_rep _)⟩
        have := hno m hm
        obtain ⟨hl2, rfl⟩ := List.getElem?_eq_some_iff.mp hz'
        simpa using this
  · cases e
theorem s_idx {o i : Expr} {mo mi : Env → M D} {apos cpos : Pos} (hu : X.A.units + 65 < cLine) (ho : PE X o (tI X.K mo)) (hi : PE X i (tI X.K mi)) (hbase : attributeBase o "index" X.env (eval o X.env) = eval o X.env) (hline : (apos.endLine == cpos.line) = true)
    (hs : starEach [i] X.env = (false, eval i X.env) :: starEach [] X.env) : PE X (.Call (.Attribute o "index" apos) [i] [] cpos) (tI X.K fun ρ => bnd (mo ρ) fun x => bnd (isC x) fun _ => bnd (mi ρ) fun y => idxD x y) := by
  refine (pe_bm PySem.F.plainAttrs_list PySem.F.slot_list_index PySem.F.type_list_index (mt_indexD hu) ho (s_cons hi s_nil hs) hbase (by rw [hs]; rfl) hline hs rfl).weak ?_
  rintro σ H Q ⟨W, ρ, rfl, A, sl, d, S', e, k⟩
  obtain ⟨x, S1, e1, e⟩ := bnd_ok e
  obtain ⟨_, S2, e2, e⟩ := bnd_ok e
  obtain ⟨y, S3, e3, e⟩ := bnd_ok e
  refine ⟨W, ρ, rfl, A, sl, x, S1, e1, fun W1 v N r => ?_⟩
  rw [← N.st] at e2
  obtain ⟨h, ty⟩ := isC_ok N.ab r e2
  rw [h] at e3
  refine ⟨ty, W1, ρ, rfl, N.ab, sl.ext A N.ext, [y], S3, bnd_mk e3 rfl, fun W2 vs N2 r2 => ?_⟩
  obtain ⟨w, rfl, r3⟩ := reps1 r2
  exact k_idx N2.ab (Rep.ext N.ab N2.ext _ _ r) r3 (by rw [N2.st]; exact e) fun W3 u N3 r4 => k W3 u ⟨N3.st, N3.lk.trans (N2.lk.trans N.lk), N3.ab, (N.ext.trans N2.ext).trans N3.ext⟩ r4
theorem boot_ty : ∀ T : Ty5, bootBuiltins (Str.ofString T.name) = some (.type T.name) := by
  intro T; cases T <;> decide +kernel
theorem isi_ok {K : PySem.W.Frag} {W : Wd} {d : D} {v : V} {T : Ty5} {S S' : Sto} {k : Bool} (r : Rep K W d v) (e : isiD d T S = .ok k S') : S = S' ∧ ∃ t, TyX K W.H v t ∧ PySem.W.kitOne K t (.type T.name) = some k := by
  unfold isiD at e
  split at e
  · obtain ⟨rfl, rfl⟩ := ret_ok e
    simp only [Rep] at r
    subst r
    exact ⟨rfl, _, .base .non, kit_ty (by cases T <;> decide +kernel)⟩
  · obtain ⟨rfl, rfl⟩ := ret_ok e
    rw [rep_bl r]
    exact ⟨rfl, _, .base (.bl _), kit_ty (by cases T <;> decide +kernel)⟩
  · obtain ⟨rfl, rfl⟩ := ret_ok e
    rw [rep_int r]
    exact ⟨rfl, _, .base (.int _), kit_ty (by cases T <;> decide +kernel)⟩
  · obtain ⟨rfl, rfl⟩ := ret_ok e
    simp only [Rep] at r
    subst r
    exact ⟨rfl, _, .base (.str _), kit_ty (by cases T <;> decide +kernel)⟩
  · obtain ⟨rfl, rfl⟩ := ret_ok e
    simp only [Rep] at r
    obtain ⟨p, vs, rfl, hp, q⟩ := r
    exact ⟨rfl, _, .base (.tup hp), kit_ty (by cases T <;> decide +kernel)⟩
  · obtain ⟨rfl, rfl⟩ := ret_ok e
    simp only [Rep] at r
    obtain ⟨p, vs, rfl, hp, _, _, q⟩ := r
    exact ⟨rfl, _, .base (.lst hp), kit_ty (by cases T <;> decide +kernel)⟩
  · obtain ⟨rfl, rfl⟩ := ret_ok e
    simp only [Rep] at r
    obtain ⟨p, us, o, rfl, hp, _, h3, _, _⟩ := r
    obtain ⟨l, _, rfl⟩ := dicO_K h3
    exact ⟨rfl, _, .base (.dK hp), kit_ty (by cases T <;> decide +kernel)⟩
  · cases e
theorem s_isi {p pT : Pos} {T : Ty5} (hg : Gl X "isinstance") (hm : X.mg "isinstance" = none) (hgT : Gl X (Str.ofString T.name)) (hmT : X.mg (Str.ofString T.name) = none) (ha : PE X a (tI X.K ma))
    (hs : starEach [a, .Name (Str.ofString T.name) pT] X.env = (false, eval a X.env) :: starEach [.Name (Str.ofString T.name) pT] X.env) :
    PE X (.Call (.Name "isinstance" p) [a, .Name (Str.ofString T.name) pT] [] pos) (tI X.K fun ρ => bnd (ma ρ) fun x => bnd (isiD x T) fun k => ret (.bl k)) := by
  have hT : PE X (.Name (Str.ofString T.name) pT) (tC (.ty T.name)) := pe_bltn hgT hmT (boot_ty T) rfl (by cases T <;> decide) (by cases T <;> decide)
  refine (pe_callB call_isi hg hm PyProof.Rows.boot_isinstance (pa_cons ha (pa_cons hT pa_nil rfl) hs) (by decide) (by decide) hs rfl).weak ?_
  rintro σ H Q ⟨W, ρ, rfl, A, sl, d, S', e, k⟩
  obtain ⟨x, S1, e1, e⟩ := bnd_ok e
  obtain ⟨c, S2, e2, e⟩ := bnd_ok e
  obtain ⟨rfl, rfl⟩ := ret_ok e
  refine ⟨W, ρ, rfl, A, sl, x, S1, e1, fun W1 v N r => ?_⟩
  obtain ⟨rfl, t, h1, h2⟩ := isi_ok r e2
  exact ⟨v, .ty T.name, t, .type T.name, c, rfl, .ty _, h1, h2, k W1 _ N (bl_rep _)⟩
/-! ### what is walked -/
def Walks (K : PySem.W.Frag) (J : L2.It) (xs : List D) (W0 : Wd) : Prop := ∀ W, Abs K W → ExtL W0 W → ∀ i : Nat,
  (∀ d, xs[i]? = some d → J.go i W.H ∧ ∀ v H', J.yld i W.H v H' → ∃ W1, W1.H = H' ∧ Nxt K W W.S W1 ∧ Rep K W1 d v) ∧ (xs.length ≤ i → J.stop i W.H)
def tIt (K : PySem.W.Frag) (m : Env → M (List D)) : TI := fun σ H R => ∃ (W : Wd) (ρ : Env), W.H = H ∧ Abs K W ∧ Sl K W ρ σ ∧ ∃ xs S', m ρ W.S = .ok xs S' ∧ ∀ W' J, Nxt K W S' W' → Walks K J xs W' → R J W'.H
theorem _root_.L2.PI.weak {tg iter : Expr} {t t' : TI} (h : PI X tg iter t) (w : ∀ σ H R, t' σ H R → t σ H R) : PI X tg iter t' := ⟨fun pins s σ H R I q => h.run pins s σ H R I (w σ H R q)⟩
theorem PI_or {tg iter : Expr} {t t' : TI} (h : PI X tg iter t) (h' : PI X tg iter t') : PI X tg iter (fun σ H R => t σ H R ∨ t' σ H R) := ⟨fun pins s σ H R I q => q.elim (h.run pins s σ H R I) (h'.run pins s σ H R I)⟩
theorem walks_tup {K : PySem.W.Frag} {W : Wd} (A : Abs K W) {p : Addr} {vs : List V} {xs : List D} (hp : W.H p = some (.tup vs)) (q : Reps K W xs vs) : Walks K (Itt K p) xs W := by
  intro W' A' E i
  have h1 := (E.keep p _ hp (A.nolive hp (fun z => z)) (A.nolk hp (fun _ z => nomatch z))).1
  have q' := Reps.extL A E _ _ q
  have hl := reps_len _ _ q'
  refine ⟨fun d hd => ?_, fun hi => ⟨vs, SqT.of h1, by omega⟩⟩
  obtain ⟨v, h2, h3⟩ := reps_get _ _ i q' d hd
  refine ⟨⟨vs, v, SqT.of h1, h2⟩, fun w H' hy => ?_⟩
  obtain ⟨rfl, hy⟩ := hy
  have := hy vs (SqT.of h1)
  rw [h2] at this
  cases this
  exact ⟨W', rfl, Nxt.refl A', h3⟩
theorem walks_lst {K : PySem.W.Frag} {W : Wd} (A : Abs K W) {p : Addr} {vs : List V} {xs : List D} (hp : W.H p = some (.lst vs)) (hn : ¬ Live W p) (hk : ¬ W.lk p) (q : Reps K W xs vs) : Walks K (Itl K p) xs W := by
  intro W' A' E i
  have h1 := (E.keep p _ hp hn hk).1
  have q' := Reps.extL A E _ _ q
  have hl := reps_len _ _ q'
  refine ⟨fun d hd => ?_, fun hi => ⟨vs, SqL.of h1, by omega⟩⟩
  obtain ⟨v, h2, h3⟩ := reps_get _ _ i q' d hd
  refine ⟨⟨vs, v, SqL.of h1, h2⟩, fun w H' hy => ?_⟩
  obtain ⟨rfl, hy⟩ := hy
  have := hy vs (SqL.of h1)
  rw [h2] at this
  cases this
  exact ⟨W', rfl, Nxt.refl A', h3⟩
theorem rngL_get (i : Int) (n k : Nat) : (rngL i n)[k]? = if k < n then some (.int (i + (k : Nat))) else none := by
  unfold rngL
  rw [List.getElem?_map]
  by_cases h : k < n
  · rw [if_pos h, List.getElem?_range h]
    rfl
  · rw [if_neg h, List.getElem?_eq_none (by simpa using h)]
    rfl
theorem rngL_len (i : Int) (n : Nat) : (rngL i n).length = n := by unfold rngL; simp
theorem walks_rng {K : PySem.W.Frag} {W : Wd} (lo : Int) (n : Nat) : Walks K (Itr lo n) (rngL lo n) W := by
  intro W' A' E i
  refine ⟨fun d hd => ?_, fun hi => ?_⟩
  · rw [rngL_get] at hd
    split at hd
    · rename_i h
      cases hd
      refine ⟨h, fun w H' hy => ?_⟩
      obtain ⟨rfl, rfl⟩ := hy
      exact ⟨W', rfl, Nxt.refl A', int_rep _⟩
    · cases hd
  · rw [rngL_len] at hi
    exact hi
theorem i_seq {tg : Expr} (ha : PE X a (tI X.K ma)) : PI X tg a (tIt X.K fun ρ => bnd (ma ρ) fun x => match x with
    | .tup xs => ret xs
    | .lst xs => ret xs
    | _ => bad) := by
  refine (PI_or (pi_tup ha) (pi_list ha)).weak ?_
  rintro σ H R ⟨W, ρ, rfl, A, sl, xs, S', e, k⟩
  obtain ⟨x, S1, e1, e⟩ := bnd_ok e
  cases x with
  | tup ys =>
    obtain ⟨rfl, rfl⟩ := ret_ok (show ret ys S1 = _ from e)
    refine .inl ⟨W, ρ, rfl, A, sl, _, S1, e1, fun W1 v N r => ?_⟩
    simp only [Rep] at r
    obtain ⟨p, vs, rfl, hp, q⟩ := r
    exact ⟨p, rfl, ⟨vs, SqT.of hp⟩, k W1 _ N (walks_tup N.ab hp q)⟩
  | lst ys =>
    obtain ⟨rfl, rfl⟩ := ret_ok (show ret ys S1 = _ from e)
    refine .inr ⟨W, ρ, rfl, A, sl, _, S1, e1, fun W1 v N r => ?_⟩
    simp only [Rep] at r
    obtain ⟨p, vs, rfl, hp, hn, hk, q⟩ := r
    exact ⟨p, rfl, ⟨vs, SqL.of hp⟩, k W1 _ N (walks_lst N.ab hp hn hk q)⟩
  | _ => cases e
theorem okR_b {i : Int} (h : okR i = true) : -4000000000000000000 ≤ i ∧ i ≤ 4000000000000000000 := by
  obtain ⟨h1, h2⟩ := and2 h
  exact ⟨of_decide_eq_true h1, of_decide_eq_true h2⟩
theorem i_rng {tg : Expr} {p : Pos} (hg : Gl X "range") (hm : X.mg "range" = none) (ha : PE X a (tI X.K ma)) (hs : starEach [a] X.env = (false, eval a X.env) :: starEach [] X.env) :
    PI X tg (.Call (.Name "range" p) [a] [] pos) (tIt X.K fun ρ => bnd (ma ρ) fun x => match x with
    | .int n => need (okR n) (ret (rngL 0 n.toNat))
    | _ => bad) := by
  refine (pi_range1 hg hm (s_cons ha s_nil hs) hs).weak ?_
  rintro σ H R ⟨W, ρ, rfl, A, sl, xs, S', e, k⟩
  obtain ⟨x, S1, e1, e⟩ := bnd_ok e
  refine ⟨W, ρ, rfl, A, sl, [x], S1, bnd_mk e1 rfl, fun W1 vs N r => ?_⟩
  obtain ⟨v, rfl, r1⟩ := reps1 r
  split at e
  · obtain ⟨c, e⟩ := need_ok e
    obtain ⟨rfl, rfl⟩ := ret_ok e
    have := okR_b c
    rw [rep_int r1]
    exact ⟨_, rfl, by omega, by omega, k W1 _ N (walks_rng 0 _)⟩
  · cases e
theorem i_rng2 {tg : Expr} {p : Pos} (hg : Gl X "range") (hm : X.mg "range" = none) (ha : PE X a (tI X.K ma)) (hb : PE X b (tI X.K mb)) (hs : starEach [a, b] X.env = (false, eval a X.env) :: starEach [b] X.env) (hs2 : starEach [b] X.env = (false, eval b X.env) :: starEach [] X.env) :
    PI X tg (.Call (.Name "range" p) [a, b] [] pos) (tIt X.K fun ρ => bnd (ma ρ) fun x => bnd (mb ρ) fun y => bnd (ints2 x y) fun p => need (okR p.1 && okR p.2) (ret (rngL p.1 (p.2 - p.1).toNat))) := by
  refine (pi_range2 hg hm (s_cons ha (s_cons hb s_nil hs2) hs) (by rw [hs, hs2]; rfl) hs2).weak ?_
  rintro σ H R ⟨W, ρ, rfl, A, sl, xs, S', e, k⟩
  obtain ⟨x, S1, e1, e⟩ := bnd_ok e
  obtain ⟨y, S2, e2, e⟩ := bnd_ok e
  obtain ⟨⟨i, j⟩, S3, e3, e⟩ := bnd_ok e
  refine ⟨W, ρ, rfl, A, sl, [x, y], S2, bnd_mk e1 (bnd_mk (bnd_mk e2 rfl) rfl), fun W1 vs N r => ?_⟩
  obtain ⟨v, w, rfl, r1, r2⟩ := reps2 r
  unfold ints2 at e3
  split at e3
  · obtain ⟨h, rfl⟩ := ret_ok e3
    cases h
    obtain ⟨c, e⟩ := need_ok e
    obtain ⟨rfl, rfl⟩ := ret_ok e
    obtain ⟨c1, c2⟩ := and2 c
    have := okR_b c1
    have := okR_b c2
    rw [rep_int r1, rep_int r2]
    exact ⟨_, _, rfl, ⟨by omega, by omega, by omega, by omega⟩, k W1 _ N (walks_rng _ _)⟩
  · cases e3
/-! ### targets -/
def tgs : Tg → List Nat
  | .name i => [i]
  | .tup is => is
  | .pair i is => i :: is
def TgOk (K : PySem.W.Frag) (g : TG) (tg : Tg) : Prop := ∀ (W : Wd) (d : D) (v : V) (ρ ρ' : Env) (σ : L2.St) (Q : L2.St → Hp → Prop), Abs K W → Rep K W d v → Sl K W ρ σ → asg tg d ρ = some ρ' →
  (∀ σ', Sl K W ρ' σ' → (∀ vs, (∀ i ∈ tgs tg, i ∈ vs) → wipe σ' vs = wipe σ vs) → Q σ' W.H) → g v σ W.H Q
theorem wipe_get (σ : L2.St) (j : Nat) : ∀ vs : List Nat, (wipe σ vs)[j]? = if j ∈ vs then (σ[j]?).map (fun _ => none) else σ[j]?
  | [] => by simp [wipe]
  | v :: vs => by
    unfold wipe
    by_cases h : v = j
    · subst h
      rw [if_pos (List.mem_cons_self ..)]
      by_cases hv : v < σ.length
      · rw [List.getElem?_set_self (by rw [wipe_length]; exact hv), List.getElem?_eq_getElem hv]
        rfl
      · rw [List.getElem?_eq_none (by simpa [wipe_length] using hv), List.getElem?_eq_none (by simpa using hv)]
        rfl
    · rw [List.getElem?_set_ne h, wipe_get σ j vs]
      by_cases h2 : j ∈ vs
      · rw [if_pos h2, if_pos (List.mem_cons_of_mem _ h2)]
      · rw [if_neg h2, if_neg (by simp only [List.mem_cons, not_or]; exact ⟨fun z => h z.symm, h2⟩)]
theorem wipe_set (σ : L2.St) (i : Nat) (x : Option V) (vs : List Nat) (h : i ∈ vs) : wipe (σ.set i x) vs = wipe σ vs := by
  apply List.ext_getElem?
  intro j
  rw [wipe_get, wipe_get]
  by_cases hj : j ∈ vs
  · rw [if_pos hj, if_pos hj]
    by_cases e : i = j
    · subst e
      by_cases hl : i < σ.length
      · rw [List.getElem?_set_self hl, List.getElem?_eq_getElem hl]
        rfl
      · rw [List.getElem?_eq_none (by simpa using hl), List.getElem?_eq_none (by simpa using hl)]
    · rw [List.getElem?_set_ne e]
  · rw [if_neg hj, if_neg hj, List.getElem?_set_ne (fun e : i = j => hj (by rw [← e]; exact h))]
theorem wipe_wipe (σ : L2.St) (vs : List Nat) : wipe (wipe σ vs) vs = wipe σ vs := by
  apply List.ext_getElem?
  intro j
  rw [wipe_get, wipe_get]
  by_cases hj : j ∈ vs
  · rw [if_pos hj, if_pos hj, Option.map_map]
    rfl
  · rw [if_neg hj, if_neg hj]
theorem wipeD_get (ρ : Env) (j : Nat) (d : D) : ∀ vs : List Nat, (wipeD ρ vs)[j]? = some (some d) → j ∉ vs ∧ ρ[j]? = some (some d)
  | [], h => ⟨by simp, h⟩
  | v :: vs, h => by
    unfold wipeD at h
    by_cases e : v = j
    · subst e
      by_cases hl : v < (wipeD ρ vs).length
      · rw [List.getElem?_set_self hl] at h; cases h
      · rw [List.getElem?_eq_none (by simpa using hl)] at h; cases h
    · rw [List.getElem?_set_ne e] at h
      obtain ⟨h1, h2⟩ := wipeD_get ρ j d vs h
      exact ⟨by simp only [List.mem_cons, not_or]; exact ⟨fun z => e z.symm, h1⟩, h2⟩
theorem wipeD_len (ρ : Env) : ∀ vs : List Nat, (wipeD ρ vs).length = ρ.length
  | [] => rfl
  | v :: vs => by unfold wipeD; rw [List.length_set, wipeD_len ρ vs]
theorem Sl.wipe {K : PySem.W.Frag} {W : Wd} {ρ : Env} {σ : L2.St} (h : Sl K W ρ σ) (vs : List Nat) : Sl K W (wipeD ρ vs) (L2.wipe σ vs) := by
  refine ⟨by rw [wipeD_len, wipe_length]; exact h.1, fun j d e => ?_⟩
  obtain ⟨h1, h2⟩ := wipeD_get ρ j d vs e
  obtain ⟨v, h3, h4⟩ := h.2 j d h2
  exact ⟨v, by rw [wipe_get, if_neg h1]; exact h3, h4⟩
theorem tg_name {K : PySem.W.Frag} (i : Nat) : TgOk K (gName i) (.name i) := by
  intro W d v ρ ρ' σ Q A r sl e k
  have e : some (ρ.set i (some d)) = some ρ' := e
  cases e
  exact k _ (sl.set i r) fun vs h => wipe_set σ i _ vs (h i (by simp [tgs]))
theorem tg_pre {K : PySem.W.Frag} : True := trivial
def gNames : List Nat → TGs
  | [] => gNil
  | i :: is => gCons (gName i) (gNames is)
theorem names_ok {K : PySem.W.Frag} {W : Wd} : ∀ (is : List Nat) (ds : List D) (us : List V) (ρ ρ' : Env) (σ : L2.St) (Q : L2.St → Hp → Prop), Reps K W ds us → Sl K W ρ σ → setAll is ds ρ = some ρ' →
    (∀ σ', Sl K W ρ' σ' → (∀ vs, (∀ i ∈ is, i ∈ vs) → wipe σ' vs = wipe σ vs) → Q σ' W.H) → gNames is us σ W.H Q
  | [], [], us, ρ, ρ', σ, Q, r, sl, e, k => by
    simp only [Reps] at r
    cases e
    exact ⟨r, k σ sl fun _ _ => rfl⟩
  | i :: is, d :: ds, us, ρ, ρ', σ, Q, r, sl, e, k => by
    simp only [Reps] at r
    obtain ⟨v, us', rfl, r1, r2⟩ := r
    refine ⟨v, us', rfl, ?_⟩
    show gNames is us' (σ.set i (some v)) W.H Q
    refine names_ok is ds us' _ ρ' _ Q r2 (sl.set i r1) e fun σ' sl' h => k σ' sl' fun vs hv => ?_
    rw [h vs fun j hj => hv j (List.mem_cons_of_mem _ hj)]
    exact wipe_set σ i _ vs (hv i (List.mem_cons_self ..))
  | [], _ :: _, _, _, _, _, _, _, _, e, _ => by cases e
  | _ :: _, [], _, _, _, _, _, _, _, e, _ => by cases e
theorem setAll_len : ∀ (is : List Nat) (ds : List D) (ρ ρ' : Env), setAll is ds ρ = some ρ' → ds.length = is.length
  | [], [], _, _, _ => rfl
  | i :: is, d :: ds, ρ, ρ', e => by
    have e : setAll is ds (ρ.set i (some d)) = some ρ' := e
    rw [List.length_cons, List.length_cons, setAll_len is ds _ ρ' e]
  | [], _ :: _, _, _, e => by cases e
  | _ :: _, [], _, _, e => by cases e
theorem tg_tup {K : PySem.W.Frag} (is : List Nat) : TgOk K (gTup K is.length (gNames is)) (.tup is) := by
  intro W d v ρ ρ' σ Q A r sl e k
  cases d with
  | tup ds =>
    have e : setAll is ds ρ = some ρ' := e
    simp only [Rep] at r
    obtain ⟨p, us, rfl, hp, q⟩ := r
    refine ⟨p, us, rfl, SqT.of hp, ?_, names_ok is ds us ρ ρ' σ Q q sl e k⟩
    rw [reps_len _ _ q]
    exact setAll_len is ds ρ ρ' e
  | _ => cases e
theorem tg_pair {K : PySem.W.Frag} (i : Nat) (is : List Nat) : TgOk K (gTup K 2 (gCons (gName i) (gCons (gTup K is.length (gNames is)) gNil))) (.pair i is) := by
  intro W d v ρ ρ' σ Q A r sl e k
  cases d with
  | tup ds =>
    match ds, e with
    | [x, .tup ds2], e =>
      have e : setAll is ds2 (ρ.set i (some x)) = some ρ' := e
      simp only [Rep, Reps] at r
      obtain ⟨p, us, rfl, hp, v1, r1, rfl, h1, v2, r2, rfl, h2, rfl⟩ := r
      obtain ⟨p2, us2, rfl, hp2, q2⟩ := h2
      refine ⟨p, _, rfl, SqT.of hp, rfl, v1, _, rfl, ?_⟩
      refine ⟨.ref p2, [], rfl, ?_⟩
      refine ⟨p2, us2, rfl, SqT.of hp2, ?_, ?_⟩
      · rw [reps_len _ _ q2]
        exact setAll_len is ds2 _ ρ' e
      · refine names_ok is ds2 us2 _ ρ' _ _ q2 (sl.set i h1) e fun σ' sl' h => ⟨rfl, k σ' sl' fun vs hv => ?_⟩
        rw [h vs fun j hj => hv j (by simp only [tgs]; exact List.mem_cons_of_mem _ hj)]
        exact wipe_set σ i _ vs (hv i (by simp only [tgs]; exact List.mem_cons_self ..))
  | _ => cases e
end
end AG
namespace AG
open PySem PySem.Spec PyProof.Rows L2 RZ
/-! ### type(x) == T -/
section
variable {X : Cx} {a b c e : Expr} {pos : Pos} {ma mb mc : Env → M D}
theorem meta_kn {n : String} (h : knTy.contains n = true) (s' : Shared) : s'.TypeIs (.type n) "type" := by
  have h : n ∈ knTy := by simpa using h
  simp only [knTy, List.mem_cons, List.not_mem_nil, or_false] at h
  rcases h with h | h | h | h | h | h | h <;> subst h
  · exact PySem.TypeEq.meta_NoneType s'
  · exact PySem.TypeEq.meta_bool s'
  · exact PySem.TypeEq.meta_int s'
  · exact PySem.TypeEq.meta_str s'
  · exact PySem.TypeEq.meta_tuple s'
  · exact PySem.TypeEq.meta_list s'
  · exact PySem.TypeEq.meta_dict s'
def rEqTy : R2 := fun x y H Q => ∃ s t, x = .ty s ∧ y = .ty t ∧ knTy.contains s = true ∧ knTy.contains t = true ∧ Q (.bl (decide (s = t))) H
theorem o_eqTy : OpR X (compareOp .Eq) rEqTy := by
  intro pins s σ H x y v u Q I rx ry h
  obtain ⟨n, m, rfl, rfl, h1, h2, q⟩ := h
  cases rx
  cases ry
  by_cases hnm : n = m
  · subst hnm
    refine PySem.TypeEq.eq_type_same (meta_kn h1) ⟨.bl _, H, I, rfl, ?_⟩
    simpa using q
  · refine PySem.TypeEq.eq_type_other (meta_kn h1) (meta_kn h2) (by rw [Bool.eq_false_iff]; intro z; exact hnm (by have := eq_of_beq z; cases this; rfl)) ⟨.bl _, H, I, rfl, ?_⟩
    rw [decide_eq_false hnm] at q
    exact q
theorem k_eqTy {K : PySem.W.Frag} : OpB K rEqTy tyEq := opB_of fun W d1 d2 v1 v2 c S' Q A r1 r2 e k => by
  unfold tyEq at e
  split at e
  · obtain ⟨c, e⟩ := need_ok e
    obtain ⟨c1, c2⟩ := and2 c
    obtain ⟨rfl, rfl⟩ := ret_ok e
    simp only [Rep] at r1 r2
    exact ⟨_, _, r1, r2, c1, c2, k W (Nxt.refl A)⟩
  · cases e
/-- what a datum's type is -/
inductive TyE (H : Hp) : V → String → Prop
  | non : TyE H .non "NoneType"
  | bl (b : Bool) : TyE H (.bl b) "bool"
  | of {v : V} {T : String} (h : Ty4 H v T) : TyE H v T
  | dK {a : Addr} {kvs} (e : H a = some (.dK kvs)) : TyE H (.ref a) "dict"
def rTyE : List V → Hp → VK → Prop := fun xs H Q => ∃ (x : V) (T : String), xs = [x] ∧ TyE H x T ∧ Q (.ty T) H
theorem call_tyE : CallR X (.type "type") rTyE := by
  intro pins s σ H xs us Q I r h
  obtain ⟨x, T, rfl, t, q⟩ := h
  obtain ⟨u, rfl, rx⟩ := vals1 r
  have key : s.TypeIs u T ∧ (Value.type T == Value.type "builtin_function_or_method") = false := by
    cases t with
    | non => cases rx; exact ⟨rfl, by decide +kernel⟩
    | bl b => cases rx; exact ⟨rfl, by decide +kernel⟩
    | of h => exact h.is I rx
    | dK e =>
      cases rx
      obtain ⟨_, _, vs, _, o, es, ep, h1, h2, _⟩ := I.hok _ _ e
      exact ⟨⟨o, h1, h2.1⟩, by decide +kernel⟩
  exact call_type_of key.1 key.2 ⟨.ty T, H, I, rfl, q⟩
theorem ok_typ {K : PySem.W.Frag} : CallOk K rTyE (fun ds => match ds with
    | [a] => typD a
    | _ => bad) := by
  intro W ds vs d S' Q A r e k
  change (match ds with
    | [a] => typD a
    | _ => bad) W.S = _ at e
  split at e
  · obtain ⟨v, rfl, r'⟩ := reps1 r
    have r := r'
    unfold typD at e
    split at e <;> first | (cases e; done) | skip
    all_goals (obtain ⟨rfl, rfl⟩ := ret_ok e)
    · simp only [Rep] at r; subst r; exact ⟨_, _, rfl, .non, k W _ (Nxt.refl A) (by simp only [Rep])⟩
    · rw [rep_bl r]; exact ⟨_, _, rfl, .bl _, k W _ (Nxt.refl A) (by simp only [Rep])⟩
    · rw [rep_int r]; exact ⟨_, _, rfl, .of (.int _), k W _ (Nxt.refl A) (by simp only [Rep])⟩
    · simp only [Rep] at r; subst r; exact ⟨_, _, rfl, .of (.str _), k W _ (Nxt.refl A) (by simp only [Rep])⟩
    · simp only [Rep] at r
      obtain ⟨p, vs, rfl, hp, q⟩ := r
      exact ⟨_, _, rfl, .of (.tup hp), k W _ (Nxt.refl A) (by simp only [Rep])⟩
    · simp only [Rep] at r
      obtain ⟨p, vs, rfl, hp, _, _, q⟩ := r
      exact ⟨_, _, rfl, .of (.lst hp), k W _ (Nxt.refl A) (by simp only [Rep])⟩
    · simp only [Rep] at r
      obtain ⟨p, us, o, rfl, hp, _, h3, _, _⟩ := r
      obtain ⟨l, _, rfl⟩ := dicO_K h3
      exact ⟨_, _, rfl, .dK hp, k W _ (Nxt.refl A) (by simp only [Rep])⟩
  · cases e
theorem pe_typ {p : Pos} (hg : Gl X "type") (hm : X.mg "type" = none) (ha : PE X a (tI X.K ma)) (hs : starEach [a] X.env = (false, eval a X.env) :: starEach [] X.env) : PE X (.Call (.Name "type" p) [a] [] pos) (tI X.K fun ρ => bnd (ma ρ) typD) := by
  refine (pe_callTy call_tyE hg hm (by decide +kernel) (s_cons ha s_nil hs) (by decide) (by decide) hs rfl).weak fun σ H Q h => s_call ok_typ σ H Q ?_
  have e : (fun ρ => bnd (bnd (ma ρ) fun x => bnd (ret []) fun xs => ret (x :: xs)) fun ds => match ds with
    | [a] => typD a
    | _ => bad) = fun ρ => bnd (ma ρ) typD := by
    funext ρ
    simp only [bnd_assoc, bnd_ret]
  rw [e]
  exact h
theorem pe_tyn {T : Ty5} {p : Pos} (hg : Gl X (Str.ofString T.name)) (hm : X.mg (Str.ofString T.name) = none) : PE X (.Name (Str.ofString T.name) p) (tI X.K fun _ => ret (.ty T.name)) :=
  s_const (v := .ty T.name) (pe_bltn hg hm (boot_ty T) rfl (by cases T <;> decide) (by cases T <;> decide)) fun W => by simp only [Rep]
/-! ### dicts shown -/
theorem s_dic0 : PE X (.Dict [] [] pos) (tI X.K fun _ => ret (.dic false [] [])) := by
  refine pe_dnewK.weak ?_
  rintro σ H Q ⟨W, ρ, rfl, A, sl, d', S', e, k⟩
  obtain ⟨rfl, rfl⟩ := ret_ok e
  intro p hp
  obtain ⟨N, r⟩ := new_dic A hp (t := false) (ks := []) (ds := []) (us := []) (o := .dK []) rfl rfl (by simp only [Reps])
  exact k _ _ N r
theorem s_dic1 {i j : Int} {ke ve : Expr} (hk : PE X ke (tC (.int i))) (hv : PE X ve (tC (.int j))) : PE X (.Dict [some ke] [ve] pos) (tI X.K fun _ => ret (.dic false [.i i] [.int j])) := by
  refine (pe_disp (pps_cons hk hv pps_nil) rfl rfl (by simp) (by show 1 ≤ 15; decide)).weak ?_
  rintro σ H Q ⟨W, ρ, rfl, A, sl, d', S', e, k⟩
  obtain ⟨rfl, rfl⟩ := ret_ok e
  intro p hp
  refine ⟨upd_same, [(.inl i, .int j)], rfl, by show 1 ≤ 15; decide, ?_⟩
  rw [upd_upd]
  obtain ⟨N, r⟩ := new_dic A hp (t := false) (ks := [.i i]) (ds := [.int j]) (us := [.int j]) (o := .dK [(.inl i, .int j)]) rfl rfl (reps_one (int_rep j))
  exact k _ _ N r
/-! ### t[::-1] -/
end
end AG
namespace AG
open PySem PySem.Spec PyProof.Rows L2 RZ HT
section
variable {prog : Program} {w : World} {A : Around} {E : Value → Shared → Prop} {s : Shared}
theorem sliceApplied_rev {sl : Addr} {vk : Value} {n : Nat} {Q : Int × Int × Nat → Shared → Prop} (hs : s.heap.IsSliceOf sl .none .none vk) (pk : IsPart vk (some (-1))) 
    (h : Q ((n : Int) - 1, -1, n) s) : wpAny (model prog w) A (Builtin.Slice.sliceApplied (.ref sl) (pure (n : Int))) Q E s := by
  obtain ⟨os, hos, hcs, hds⟩ := id hs
  unfold Builtin.Slice.sliceApplied Builtin.Slice.sliceFields
  refine wpAny_bind (wpAny_bind (wpAny_field hos hds (x := .none) rfl (wpAny_bind (wpAny_field hos hds (x := .none) rfl (wpAny_bind (wpAny_field hos hds (x := vk) rfl (wpAny_pure ?_)))))))
  refine wpAny_bind (slicePart_ pk ?_)
  show wpAny _ _ (if ((-1 : Int) == 0) = true then _ else _) _ _ s
  rw [if_neg (by decide)]
  refine wpAny_bind (slicePart_none (wpAny_bind (slicePart_none (wpAny_bind (wpAny_pure ?_)))))
  have e : Builtin.Slice.slicePlaces ((n : Int) - 1) (-1) (-1) = n := by
    unfold Builtin.Slice.slicePlaces
    rw [if_neg (by decide)]
    by_cases h0 : n = 0
    · subst h0; decide
    · rw [if_pos (by omega)]
      show (((n : Int) - 1 - (-1) - 1) / 1 + 1).toNat = n
      rw [Int.ediv_one]
      omega
  show wpAny _ _ (pure ((n : Int) - 1, (-1 : Int), Builtin.Slice.slicePlaces ((n : Int) - 1) (-1) (-1))) _ _ s
  rw [e]
  exact wpAny_pure h
theorem pick_rev (xs : Array Value) : ((List.range xs.size).filterMap fun (m : Nat) => xs[((xs.size : Int) - 1 + (m : Int) * (-1)).toNat]?).toArray = xs.toList.reverse.toArray := by
  congr 1
  have e : ∀ n, n ≤ xs.size → ((List.range n).filterMap fun (m : Nat) => xs[((xs.size : Int) - 1 + (m : Int) * (-1)).toNat]?) = xs.toList.reverse.take n := by
    intro n
    induction n with
    | zero => intro _; rfl
    | succ n ih =>
      intro hn
      rw [List.range_succ, List.filterMap_append, ih (by omega), List.take_add_one]
      congr 1
      have e2 : ((xs.size : Int) - 1 + (n : Int) * (-1)).toNat = xs.size - 1 - n := by omega
      rw [List.filterMap_cons, List.filterMap_nil, e2, List.getElem?_reverse (by rw [Array.length_toList]; omega), Array.length_toList, Array.getElem?_toList]
      rw [Array.getElem?_eq_getElem (by omega)]
      rfl
  rw [e xs.size (Nat.le_refl _), List.take_of_length_le (by rw [List.length_reverse, Array.length_toList]; omega)]
theorem getItem_tuple_rev {t sl : Addr} {items : Array Value} {vk : Value} {Q : Value → Shared → Prop} (ht : IsTup s.heap t items) (hs : s.heap.IsSliceOf sl .none .none vk) (pk : IsPart vk (some (-1)))
    (h : Q (.ref s.heap.objs.size) { s with heap := s.heap.push { cls := .type "tuple", data := .seq items.toList.reverse.toArray } })
    (hsz : items.size ≤ sizeLine) : wpAny (model prog w) A (getItem (.ref t) (.ref sl)) Q E s := by
  have htake : sizeOk (.seq items.toList.reverse.toArray) := by
    show (items.toList.reverse.toArray).size ≤ sizeLine
    rw [List.size_toArray, List.length_reverse, Array.length_toList]
    exact hsz
  obtain ⟨os, hos, hcs, hds⟩ := id hs
  have hTs : s.TypeIs (.ref sl) "slice" := ⟨os, hos, hcs⟩
  unfold getItem
  try with_reducible refine wpAny_holding ?_
  first | refine wpAny_bind (wpAny_pure ?_) | skip
  refine wpAny_bind (wpAny_sequenceKey ht.typeIs (by decide) ?_)
  refine wpAny_bind (wpAny_callSpecial?_slot (name := Str.ofString "__getitem__") ht.typeIs PyProof.Rows.slot_tuple_getitem
    (wpAny_call_entry PyProof.Rows.slot_tuple_getitem ht.typeIs entry_tuple_getitem ?_ (args_tuple_getitem _ _)))
  show wpAny _ _ (Builtin.Tuple.tupleItemsOf (.ref t) >>= _) _ _ s
  refine wpAny_bind (tupleItemsOf_ ht ?_)
  refine wpAny_bind (wpAny_typeOf hTs ?_)
  rw [if_pos (by decide)]
  refine wpAny_bind (sliceApplied_rev hs pk ?_)
  have hno : ¬ ((((items.size : Int) - 1) == 0 && (-1 : Int) == 1 && items.size == items.size) = true) := by
    intro q
    rw [Bool.and_eq_true, Bool.and_eq_true] at q
    exact absurd q.1.2 (by decide)
  show wpAny _ _ (if (((items.size : Int) - 1) == 0 && (-1 : Int) == 1 && items.size == items.size) = true then _ else _) _ _ s
  rw [if_neg hno, pick_rev]
  first
    | exact wpAny_bind (m := Builtin.Tuple.tupleExact _) (wpAny_newObj_type (wpAny_pure ⟨_, rfl, wpAny_pure h⟩) htake)
    | exact wpAny_bind (m := Builtin.Tuple.tupleExact _) (wpAny_newObj_type (wpAny_bind (wpAny_pure (wpAny_pure ⟨_, rfl, wpAny_pure h⟩))) htake)
    | exact wpAny_bind (wpAny_bind (m := Builtin.Tuple.tupleExact _) (wpAny_newObj_type (wpAny_pure (wpAny_pure ⟨_, rfl, wpAny_pure h⟩)) htake))
    | exact wpAny_bind (wpAny_bind (m := Builtin.Tuple.tupleExact _) (wpAny_newObj_type (wpAny_pure ⟨_, rfl, wpAny_pure h⟩) htake))
end
section
variable {X : Cx} {a e : Expr} {te : TE} {pos p2 : Pos} {ma : Env → M D}
def tRev (K : PySem.W.Frag) (te : TE) : TE := fun σ H Q => te σ H fun v H1 => ∃ a xs, v = .ref a ∧ SqT K H1 a xs ∧ ∀ p, H1 p = none → Q (.ref p) (upd H1 p (.tup xs.reverse))
theorem pe_rev {k : Expr} (he : PE X e te) (hk : PE X k (tC (.int (-1)))) : PE X (.Subscript e (.Slice none none (some k) p2) pos) (tRev X.K te) := by
  refine ⟨fun pins s σ H Q I h => ?_⟩
  refine Subscript_ (thn (he.run pins s σ H _ I h) fun v s1 ⟨x, H1, I1, r1, q1⟩ => ?_)
  refine wpAny_Slice ?_
  rw [evalPart_none]
  refine wpAny_pure (wpAny_pure ?_)
  rw [evalPart_some]
  refine thn (hk.run pins s1 σ H1 (fun z H3 => z = .int (-1) ∧ H3 = H1) I1 ⟨rfl, rfl⟩) fun vk s3 ⟨z, H3, I3, rk, hz, hH⟩ => ?_
  subst hz hH
  obtain ⟨t, rfl⟩ := rk
  obtain ⟨b, xs, rfl, hx, q⟩ := q1
  cases r1
  have I4 : Inv X pins σ H3 { s3 with heap := s3.heap.push { cls := .type "slice", data := .fields #[.none, .none, .int (-1) t] } } := I3.kept (t' := s3.toks) fun b ob q => Heap.get?_push_of_some _ q
  obtain ⟨its, r, ht, hz⟩ := I4.tuple hx
  have hg : wpAny (model X.prog X.w) X.A (getItem (.ref b) (.ref s3.heap.objs.size)) (EP X pins σ Q) X.xe { s3 with heap := s3.heap.push { cls := .type "slice", data := .fields #[.none, .none, .int (-1) t] } } := by
    refine getItem_tuple_rev ht (Heap.IsSliceOf.new ..) (.int (-1) t) ?_ (by rw [List.size_toArray, ← r.length]; exact hz)
    refine ⟨.ref (s3.heap.push { cls := .type "slice", data := .fields #[.none, .none, .int (-1) t] }).objs.size, _, I4.laid (t' := s3.toks) (o := .tup xs.reverse) (fun b ob q => Heap.get?_push_of_some _ q) (Nat.le_refl _) ?_, rfl, q _ (I4.hok.fresh (Nat.le_refl _))⟩
    refine ⟨?_, _, r.reverse, IsTup.new _ _⟩
    rw [List.length_reverse]
    exact hz
  show wpAny (model X.prog X.w) X.A (subscriptTail e (.Slice none none (some k) p2) (.ref b) (.ref s3.heap.objs.size)) (EP X pins σ Q) X.xe { s3 with heap := s3.heap.push { cls := .type "slice", data := .fields #[.none, .none, .int (-1) t] } }
  exact tail_any (ops := [.ref b, .ref s3.heap.objs.size]) ht.typeIs PyProof.Rows.slot_tuple_getitem.lookup hg (by with_unfolding_all rfl)
theorem reps_rev {K : PySem.W.Frag} {W : Wd} : ∀ (ds : List D) (vs : List V), Reps K W ds vs → Reps K W ds.reverse vs.reverse
  | [], vs, h => by simp only [Reps] at h; subst h; simp [Reps]
  | d :: ds, vs, h => by
    simp only [Reps] at h
    obtain ⟨v, r, rfl, h1, h2⟩ := h
    rw [List.reverse_cons, List.reverse_cons]
    exact reps_app _ _ _ _ (reps_rev ds r h2) (reps_one h1)
theorem pe_m1 {q : Pos} {z : Expr} (hz : PE X z (tC (.int 1))) : PE X (.UnaryOp .USub z q) (tC (.int (-1))) := (pe_un un_neg hz).weak fun σ H Q h => ⟨1, rfl, h⟩
theorem s_rev {k : Expr} (ha : PE X a (tI X.K ma)) (hk : PE X k (tC (.int (-1)))) : PE X (.Subscript a (.Slice none none (some k) p2) pos) (tI X.K fun ρ => bnd (ma ρ) revD) := by
  refine (pe_rev ha hk).weak ?_
  rintro σ H Q ⟨W, ρ, rfl, A, sl, d, S', e, k⟩
  obtain ⟨x, S1, e1, e⟩ := bnd_ok e
  refine ⟨W, ρ, rfl, A, sl, x, S1, e1, fun W1 v N r => ?_⟩
  unfold revD at e
  split at e
  · obtain ⟨c, e⟩ := need_ok e
    obtain ⟨rfl, rfl⟩ := ret_ok e
    simp only [Rep] at r
    obtain ⟨p, vs, rfl, hp, q⟩ := r
    refine ⟨p, vs, rfl, SqT.of hp, fun p2 hp2 => ?_⟩
    obtain ⟨N2, r2⟩ := new_tup N.ab hp2 (reps_rev _ _ q)
    exact k _ _ (N.at_ N2) r2
  · cases e
end
end AG
namespace AG
open PySem PySem.Spec PyProof.Rows L2
/-! ### enumerate(tuple) -/
def IteT (K : PySem.W.Frag) (a : Addr) : L2.It :=
  ⟨fun i H => ∃ (xs : List V) (x : V), SqT K H a xs ∧ xs[i]? = some x, fun i H v H' => ∃ T x, v = .ref T ∧ H T = none ∧ H' = upd H T (.tup [.int (i : Nat), x]) ∧ ∀ xs, SqT K H a xs → xs[i]? = some x, fun i H => ∃ xs : List V, SqT K H a xs ∧ xs.length ≤ i⟩
theorem wpAny_pyNext_enum_endT {prog : Program} {w : World} {A : Around} {E : Value → Shared → Prop} {s : Shared} {e it l : Addr} {i : Nat} {items : Array Value} {old : Value} {Q : Option Value → Shared → Prop} (hh : A.handled = none)
    (he : IsEnum s.heap e it i old) (hit : s.heap.IsTupleIter it l i) (hl : s.heap.IsTuple l items) (hx : items[i]? = none)
    (hQ : ∀ h', Heap.ExtBut it s.heap h' → Q none { s with heap := h' }) : wpAny (model prog w) A (pyNext (.ref e)) Q E s := by
  have hT : s.TypeIs (.ref e) "enumerate" := ⟨_, he, rfl⟩
  unfold pyNext
  refine wpAny_bind (wpAny_attempt (wpAny_callSpecial?_slot (name := Str.ofString "__next__") hT F.slot_enumerate_next
    (wpAny_call_entry F.slot_enumerate_next hT F.entry_enumerate_next ?_ (F.args_enumerate_next_1 _))))
  show wpAny _ _ (field (.ref e) 2 >>= _) _ _ _
  refine wpAny_bind (wpAny_field he rfl (x := .ref it) rfl ?_)
  refine wpAny_bind (wpAny_nextOf_tuple_end hh hit hl hx fun h' x he' hx' => ?_)
  obtain ⟨o, ho, hc⟩ := hx'
  refine wpAny_bind (wpAny_isInstance (T := "StopIteration") (b := true) ⟨o, ho, hc⟩ isSubtype_stop ?_)
  exact wpAny_pure (hQ _ he')
theorem turn_enumT {P : Program} {w : World} {K : PySem.W.Frag} {elts : List Expr} {kk : Nat} {tpos : Pos} (a e it : Addr) :
    Turn P w K (.Tuple elts kk tpos) (IteT K a) [e, it] e (fun i h => (∃ old, IsEnum h e it ((i : Nat) : Int) old) ∧ h.IsTupleIter it a i ∧ e ≠ it) where
  mem := by simp
  obj := fun i h st b hb => by
    obtain ⟨⟨old, he⟩, ⟨o, ho, hc, hd⟩, _⟩ := st
    have e' : b = e ∨ b = it := by simpa using hb
    rcases e' with z | z
    · rw [z]; exact ⟨_, he, fun v q => nomatch q⟩
    · rw [z]; exact ⟨o, ho, fun v q => by rw [hd] at q; cases q⟩
  keep := fun i h h' st k => let ⟨⟨old, he⟩, hi, hne⟩ := st; ⟨⟨old, k e (by simp) _ he⟩, hi.at fun o q => k it (by simp) o q, hne⟩
  item := by
    intro X hP hw hK hc i pins s σ H E I hf st hg
    subst hP hw hK
    obtain ⟨⟨old, he⟩, hit, hne⟩ := st
    obtain ⟨xs, x, hq, hx⟩ := hg
    obtain ⟨its, rv, p, hz⟩ := I.tuple hq
    obtain ⟨u, hu, ru⟩ := rv.get hx
    have hel : e < s.heap.objs.size := Heap.lt_size he
    have hil : it < s.heap.objs.size := by obtain ⟨_, q, _⟩ := hit; exact Heap.lt_size q
    have hat : a ≠ it := fun z => by
      obtain ⟨o, ho, hc, hd⟩ := hit
      obtain ⟨o2, ho2, hc2, _⟩ := p
      rw [z] at ho2
      rw [ho] at ho2
      cases ho2
      rw [hc] at hc2
      exact absurd hc2 (by decide +kernel)
    have hea : e ≠ a := fun z => by
      obtain ⟨o2, ho2, hc2, _⟩ := p
      rw [← z] at ho2
      rw [show s.heap.get? e = _ from he] at ho2
      cases ho2
      exact absurd (show Value.type "enumerate" = Value.type "tuple" from hc2) (by decide +kernel)
    have p' : s.heap.IsTuple a its.toArray := p
    have hsz0 : i < its.toArray.size := by
      have := (List.getElem?_eq_some_iff.mp hu).1
      simpa using this
    refine wpAny_pyNext_enum_itemD (D := Draws.tuple (A := X.A.in1) (I.ok.hd hc) it a hat its.toArray) he (i := i) ⟨hit, p'⟩ hsz0 hne (by simp [hne, hea]) fun x' h' tk hP ho hst hT hsz hk => ?_
    have hxx : x' = u := by
      have hP' : its.toArray[i]? = some x' := hP
      rw [show its.toArray[i]? = some u by simpa using hu] at hP'
      exact (Option.some.inj hP').symm
    subst hxx
    refine ⟨_, rfl, wpAny_letOwnedTupleGo_enum (s := { s with heap := h', toks := tk + 1 }) ho fun h'' he' sb => ?_⟩
    have hT2 : h''.get? s.heap.objs.size = some { cls := .type "tuple", data := .seq #[.int i tk, x'] } := (sb.2 _ (Nat.ne_of_gt hel)).trans hT
    have new : ObjOk X.prog X.w (upd H s.heap.objs.size (.tup [.int (i : Nat), x])) h'' s.heap.objs.size (.tup [.int (i : Nat), x]) :=
      ⟨by show 2 ≤ sizeLine; decide, [.int i tk, x'], .cons ⟨_, rfl⟩ (.cons ru .nil), ⟨_, hT2, rfl, _, rfl⟩⟩
    have I1 : Inv X pins σ (upd H s.heap.objs.size (.tup [.int (i : Nat), x])) { s with heap := h'', toks := tk + 1 } :=
      I.turnedNew (ch := [e, it]) (fun b ob hb q => (sb.2 b (fun z => hb (by simp [z]))).trans (hk b ob (fun z => hb (by simp [z])) (fun z => hb (by simp [z])) q)) hf (Nat.le_refl _) new
    refine ⟨.ref s.heap.objs.size, _, I1, rfl, ⟨_, x, rfl, I.hok.fresh (Nat.le_refl _), rfl, fun ys hy => by rw [I.tuple_inj hy hq]; exact hx⟩, ⟨⟨x', ?_⟩, hst.1.at fun o q => (sb.2 it (Ne.symm hne)).trans q, hne⟩, fun b hb => ?_⟩
    · have e1 : ((i + 1 : Nat) : Int) = (i : Int) + 1 := by omega
      rw [e1]; exact he'
    · have hb' : b < s.heap.objs.size := by
        have e' : b = e ∨ b = it := by simpa using hb
        rcases e' with z | z
        · rw [z]; exact hel
        · rw [z]; exact hil
      rw [upd_ne (Nat.ne_of_lt hb')]
      exact (hf b hb).1
  done := by
    intro X hP hw hK hc i pins s σ H E I hf st hg
    subst hP hw hK
    obtain ⟨⟨old, he⟩, hit, hne⟩ := st
    obtain ⟨xs, hq, hx⟩ := hg
    obtain ⟨its, rv, p, hz⟩ := I.tuple hq
    obtain ⟨f0, f1, f2, f3, f4, f5⟩ := hf it (by simp)
    have hl := rv.length
    exact wpAny_pyNext_enum_endT (I.ok.hd hc) he hit p (by simp; omega) fun h' eb => ⟨rfl, I.turned (t' := s.toks) (fun b o hb q => eb b o hb q) f0 f1 f3 f4 f5⟩
  self := fun A i s Q E st h => let ⟨⟨_, he⟩, _⟩ := st; wpAny_pyIter_enum he h
/-- enumerate(v): its two new objects -/
theorem meets_enumerate_new1 {v : Value} {o : Obj} {H : Heap → Prop} (B : Begins v o H) :
    Meets (Builtin.«enumerate.__new__» ⟨[.type "enumerate", v], []⟩) (fun _ R s => H s.heap ∧
      R (.ok (.ret (.ref (s.heap.push o).objs.size))) { s with heap := (s.heap.push o).push { cls := .type "enumerate", data := .fields #[.none, .bool false, .ref s.heap.objs.size, rawInt 0, .none, .none] } }) :=
  .of_wp fun prog w A R s h => by
    obtain ⟨hp, g, d, tk, os⟩ := s; obtain ⟨h1, h⟩ := h
    have hsub := sub_enumerate
    have q1 : ∀ {A' : Around} {E : Value → Shared → Prop} {Q : Value → Shared → Prop}, Q (.ref hp.objs.size) ⟨hp.push o, g, d, tk, os⟩ → wpAny (model prog w) A' (pyIter v) Q E ⟨hp, g, d, tk, os⟩ :=
      fun q => B.iter prog w _ _ ⟨hp, g, d, tk, os⟩ _ h1 q
    wp_walk using q1
    refine wpAny_stack_any fun st => wpAny_pure ?_
    split
    · rename_i c _ _ _ _ _
      cases (c == Value.type "enumerate")
      · wp_walk using q1
        exact ⟨_, rfl, h⟩
      · wp_walk using q1
        exact ⟨_, rfl, h⟩
    · wp_walk using q1
      exact ⟨_, rfl, h⟩
theorem enum_begins1 {prog : Program} {w : World} {A : Around} {E : Value → Shared → Prop} {s : Shared} {v : Value} {o : Obj} {H : Heap → Prop} {Q : Value → Shared → Prop} (B : Begins v o H) (h1 : H s.heap)
    (h : ∀ h', IsEnum h' (s.heap.objs.size + 1) s.heap.objs.size 0 .none → h'.get? s.heap.objs.size = some o → h'.objs.size = s.heap.objs.size + 2 →
      (∀ b o, s.heap.get? b = some o → h'.get? b = some o) → Q (.ref (s.heap.objs.size + 1)) { s with heap := h' }) :
    wpAny (model prog w) A (call (.type "enumerate") [v]) Q E s := by
  refine callType_new F.called_enumerate (by decide) (F.typeCall_enumerate_1 _) (F.newCall_enumerate_1 _) (fun obj => F.args_object_init_2 obj _) F.entry_enumerate_new
    (meets_enumerate_new1 B) ⟨h1, ?_⟩
  have hz : (s.heap.push o).objs.size = s.heap.objs.size + 1 := Heap.size_push ..
  show _ ∧ _
  rw [hz]
  have he : IsEnum ((s.heap.push o).push { cls := .type "enumerate", data := .fields #[.none, .bool false, .ref s.heap.objs.size, rawInt 0, .none, .none] }) (s.heap.objs.size + 1) s.heap.objs.size 0 .none := by
    have := Heap.get?_push_size (s.heap.push o) (o := { cls := .type "enumerate", data := .fields #[.none, .bool false, .ref s.heap.objs.size, rawInt 0, .none, .none] }) rfl
    rw [hz] at this; exact this
  refine ⟨⟨_, he, rfl⟩, h _ he (Heap.get?_push_of_some _ (Heap.get?_push_size _ B.free)) (by rw [Heap.size_push, hz]) fun b o x => Heap.get?_push_of_some _ (Heap.get?_push_of_some _ x)⟩
def iEnumT (K : PySem.W.Frag) (ta : TA) : TI := fun σ H R => ta σ H fun vs H1 => ∃ a xs, vs = [.ref a] ∧ SqT K H1 a xs ∧ R (IteT K a) H1
theorem pi_enumT {X : Cx} {e : Expr} {ta : TA} {p pos tpos : Pos} {elts : List Expr} {kk : Nat} (hg : Gl X "enumerate") (hm : X.mg "enumerate" = none) (ha : PA X [e] ta) (hs : starEach [e] X.env = [(false, eval e X.env)]) :
    PI X (.Tuple elts kk tpos) (.Call (.Name "enumerate" p) [e] [] pos) (iEnumT X.K ta) := by
  refine ⟨fun pins s σ H R I h => ?_⟩
  refine Call_ (ld_blt I hg hm boot_enumerate (PyProof.Rows.callWith_type1 (thn (ha.run pos pins s σ H _ I h) fun us s1 ⟨vs, H1, I1, r1, q1⟩ => ?_) hs rfl))
  obtain ⟨a, xs, ex, hq, q⟩ := q1
  subst ex
  cases r1 with
  | cons r rr =>
    cases rr
    cases r
    obtain ⟨its, rv, p', hz⟩ := I1.tuple hq
    refine enum_begins1 (begins_tuple a its.toArray) p' fun h' he hit hsz hk => wpAny_pyIter_enum he ?_
    have I2 : Inv X pins σ H1 { s1 with heap := h' } := I1.kept (t' := s1.toks) hk
    refine ⟨s1.heap.objs.size + 1, [s1.heap.objs.size + 1, s1.heap.objs.size], _, _, H1, rfl, I2, turn_enumT a (s1.heap.objs.size + 1) s1.heap.objs.size, ⟨⟨.none, he⟩, ⟨_, hit, rfl, rfl⟩, Nat.succ_ne_self _⟩, fun b hb => ?_, q⟩
    have e' : b = s1.heap.objs.size + 1 ∨ b = s1.heap.objs.size := by simpa using hb
    have hle : s1.heap.objs.size ≤ b := by
      rcases e' with z | z
      · rw [z]; exact Nat.le_add_right _ _
      · rw [z]; exact Nat.le_refl _
    exact I1.fpOk hle (I1.hok.fresh hle)
theorem enmL_get : ∀ (xs : List D) (n i : Nat) (d : D), (enmL n xs)[i]? = some d → ∃ x, xs[i]? = some x ∧ d = .tup [.int ((n + i : Nat) : Int), x]
  | [], n, i, d, h => by simp [enmL] at h
  | x :: xs, n, 0, d, h => by
    simp only [enmL, List.getElem?_cons_zero, Option.some.injEq] at h
    exact ⟨x, rfl, h.symm⟩
  | x :: xs, n, i + 1, d, h => by
    simp only [enmL, List.getElem?_cons_succ] at h
    obtain ⟨y, h1, h2⟩ := enmL_get xs (n + 1) i d h
    exact ⟨y, h1, by rw [h2, show n + 1 + i = n + (i + 1) by omega]⟩
theorem enmL_len : ∀ (xs : List D) (n : Nat), (enmL n xs).length = xs.length
  | [], n => rfl
  | x :: xs, n => by rw [enmL, List.length_cons, List.length_cons, enmL_len xs]
theorem walks_enmL {K : PySem.W.Frag} {W : Wd} (A : Abs K W) {p : Addr} {vs : List V} {xs : List D} (hp : W.H p = some (.lst vs)) (hn : ¬ Live W p) (hk : ¬ W.lk p) (q : Reps K W xs vs) : Walks K (Ite K p) (enmL 0 xs) W := by
  intro W' A' E i
  have h1 := (E.keep p _ hp hn hk).1
  have q' := Reps.extL A E _ _ q
  have hl := reps_len _ _ q'
  refine ⟨fun d hd => ?_, fun hi => ⟨vs, SqL.of h1, by rw [enmL_len] at hi; omega⟩⟩
  obtain ⟨x, hx, rfl⟩ := enmL_get xs 0 i d hd
  obtain ⟨v, h2, h3⟩ := reps_get _ _ i q' x hx
  refine ⟨⟨vs, v, SqL.of h1, h2⟩, fun w H' hy => ?_⟩
  obtain ⟨T, y, rfl, hT, rfl, hy⟩ := hy
  have := hy vs (SqL.of h1)
  rw [h2] at this
  cases this
  obtain ⟨N, r⟩ := new_tup A' hT (ds := [.int ((0 + i : Nat) : Int), x]) (vs := [.int (i : Nat), v]) (by simp only [Reps, Rep, Nat.zero_add]; exact ⟨_, _, rfl, rfl, _, _, rfl, h3, rfl⟩)
  exact ⟨_, rfl, N, r⟩
theorem walks_enmT {K : PySem.W.Frag} {W : Wd} (A : Abs K W) {p : Addr} {vs : List V} {xs : List D} (hp : W.H p = some (.tup vs)) (q : Reps K W xs vs) : Walks K (IteT K p) (enmL 0 xs) W := by
  intro W' A' E i
  have h1 := (E.keep p _ hp (A.nolive hp (fun z => z)) (A.nolk hp (fun _ z => nomatch z))).1
  have q' := Reps.extL A E _ _ q
  have hl := reps_len _ _ q'
  refine ⟨fun d hd => ?_, fun hi => ⟨vs, SqT.of h1, by rw [enmL_len] at hi; omega⟩⟩
  obtain ⟨x, hx, rfl⟩ := enmL_get xs 0 i d hd
  obtain ⟨v, h2, h3⟩ := reps_get _ _ i q' x hx
  refine ⟨⟨vs, v, SqT.of h1, h2⟩, fun w H' hy => ?_⟩
  obtain ⟨T, y, rfl, hT, rfl, hy⟩ := hy
  have := hy vs (SqT.of h1)
  rw [h2] at this
  cases this
  obtain ⟨N, r⟩ := new_tup A' hT (ds := [.int ((0 + i : Nat) : Int), x]) (vs := [.int (i : Nat), v]) (by simp only [Reps, Rep, Nat.zero_add]; exact ⟨_, _, rfl, rfl, _, _, rfl, h3, rfl⟩)
  exact ⟨_, rfl, N, r⟩
section
variable {X : Cx} {a b : Expr} {pos : Pos} {ma mb : Env → M D}
theorem i_enm {elts : List Expr} {kk : Nat} {tpos p : Pos} (hg : Gl X "enumerate") (hm : X.mg "enumerate" = none) (ha : PE X a (tI X.K ma)) (hs : starEach [a] X.env = (false, eval a X.env) :: starEach [] X.env) :
    PI X (.Tuple elts kk tpos) (.Call (.Name "enumerate" p) [a] [] pos) (tIt X.K fun ρ => bnd (ma ρ) fun x => match x with
    | .tup xs => ret (enmL 0 xs)
    | .lst xs => ret (enmL 0 xs)
    | _ => bad) := by
  refine (PI_or (pi_enumT hg hm (s_cons ha s_nil hs) hs) (pi_enum hg hm (s_cons ha s_nil hs) hs)).weak ?_
  rintro σ H R ⟨W, ρ, rfl, A, sl, xs, S', e, k⟩
  obtain ⟨x, S1, e1, e⟩ := bnd_ok e
  cases x with
  | tup ys =>
    obtain ⟨rfl, rfl⟩ := ret_ok (show ret (enmL 0 ys) S1 = _ from e)
    refine .inl ⟨W, ρ, rfl, A, sl, [_], S1, bnd_mk e1 rfl, fun W1 vs N r => ?_⟩
    obtain ⟨v, rfl, r1⟩ := reps1 r
    simp only [Rep] at r1
    obtain ⟨p, vs, rfl, hp, q⟩ := r1
    exact ⟨p, _, rfl, SqT.of hp, k W1 _ N (walks_enmT N.ab hp q)⟩
  | lst ys =>
    obtain ⟨rfl, rfl⟩ := ret_ok (show ret (enmL 0 ys) S1 = _ from e)
    refine .inr ⟨W, ρ, rfl, A, sl, [_], S1, bnd_mk e1 rfl, fun W1 vs N r => ?_⟩
    obtain ⟨v, rfl, r1⟩ := reps1 r
    simp only [Rep] at r1
    obtain ⟨p, vs, rfl, hp, hn, hk, q⟩ := r1
    exact ⟨p, _, rfl, SqL.of hp, k W1 _ N (walks_enmL N.ab hp hn hk q)⟩
  | _ => cases e
theorem zipL_get : ∀ (xs ys : List D) (i : Nat) (d : D), (zipL xs ys)[i]? = some d → ∃ x y, xs[i]? = some x ∧ ys[i]? = some y ∧ d = .tup [x, y]
  | [], ys, i, d, h => by simp [zipL] at h
  | x :: xs, [], i, d, h => by simp [zipL] at h
  | x :: xs, y :: ys, 0, d, h => by
    simp only [zipL, List.getElem?_cons_zero, Option.some.injEq] at h
    exact ⟨x, y, rfl, rfl, h.symm⟩
  | x :: xs, y :: ys, i + 1, d, h => by
    simp only [zipL, List.getElem?_cons_succ] at h
    obtain ⟨a, b, h1, h2, h3⟩ := zipL_get xs ys i d h
    exact ⟨a, b, by simpa using h1, by simpa using h2, h3⟩
theorem zipL_len : ∀ (xs ys : List D), (zipL xs ys).length = min xs.length ys.length
  | [], ys => by simp [zipL]
  | x :: xs, [] => by simp [zipL]
  | x :: xs, y :: ys => by rw [zipL, List.length_cons, zipL_len xs ys, List.length_cons, List.length_cons]; omega
theorem walks_zipL {K : PySem.W.Frag} {W : Wd} (A : Abs K W) {p p2 : Addr} {vs ws : List V} {xs ys : List D} (hp : W.H p = some (.lst vs)) (hn : ¬ Live W p) (hk : ¬ W.lk p) (q : Reps K W xs vs)
    (hp2 : W.H p2 = some (.lst ws)) (hn2 : ¬ Live W p2) (hk2 : ¬ W.lk p2) (q2 : Reps K W ys ws) : Walks K (Itz K p p2) (zipL xs ys) W := by
  intro W' A' E i
  have h1 := (E.keep p _ hp hn hk).1
  have h2 := (E.keep p2 _ hp2 hn2 hk2).1
  have q' := Reps.extL A E _ _ q
  have q2' := Reps.extL A E _ _ q2
  have hl := reps_len _ _ q'
  have hl2 := reps_len _ _ q2'
  refine ⟨fun d hd => ?_, fun hi => ⟨vs, ws, SqL.of h1, SqL.of h2, by rw [zipL_len] at hi; omega⟩⟩
  obtain ⟨x, y, hx, hy, rfl⟩ := zipL_get xs ys i d hd
  obtain ⟨v, g1, g2⟩ := reps_get _ _ i q' x hx
  obtain ⟨w, g3, g4⟩ := reps_get _ _ i q2' y hy
  refine ⟨⟨vs, ws, v, w, SqL.of h1, SqL.of h2, g1, g3⟩, fun u H' hyl => ?_⟩
  obtain ⟨T, y1, y2, rfl, hT, rfl, z1, z2⟩ := hyl
  have z1 := z1 vs (SqL.of h1)
  have z2 := z2 ws (SqL.of h2)
  rw [g1] at z1
  rw [g3] at z2
  cases z1
  cases z2
  obtain ⟨N, r⟩ := new_tup A' hT (ds := [x, y]) (vs := [v, w]) (by simp only [Reps]; exact ⟨_, _, rfl, g2, _, _, rfl, g4, rfl⟩)
  exact ⟨_, rfl, N, r⟩
theorem walks_zipT {K : PySem.W.Frag} {W : Wd} (A : Abs K W) {p p2 : Addr} {vs ws : List V} {xs ys : List D} (hp : W.H p = some (.tup vs)) (q : Reps K W xs vs)
    (hp2 : W.H p2 = some (.tup ws)) (q2 : Reps K W ys ws) : Walks K (RZ.ItzT K p p2) (zipL xs ys) W := by
  intro W' A' E i
  have h1 := (E.keep p _ hp (A.nolive hp (fun z => z)) (A.nolk hp (fun _ z => nomatch z))).1
  have h2 := (E.keep p2 _ hp2 (A.nolive hp2 (fun z => z)) (A.nolk hp2 (fun _ z => nomatch z))).1
  have q' := Reps.extL A E _ _ q
  have q2' := Reps.extL A E _ _ q2
  have hl := reps_len _ _ q'
  have hl2 := reps_len _ _ q2'
  refine ⟨fun d hd => ?_, fun hi => ⟨vs, ws, SqT.of h1, SqT.of h2, by rw [zipL_len] at hi; omega⟩⟩
  obtain ⟨x, y, hx, hy, rfl⟩ := zipL_get xs ys i d hd
  obtain ⟨v, g1, g2⟩ := reps_get _ _ i q' x hx
  obtain ⟨w, g3, g4⟩ := reps_get _ _ i q2' y hy
  refine ⟨⟨vs, ws, v, w, SqT.of h1, SqT.of h2, g1, g3⟩, fun u H' hyl => ?_⟩
  obtain ⟨T, y1, y2, rfl, hT, rfl, z1, z2⟩ := hyl
  have z1 := z1 vs (SqT.of h1)
  have z2 := z2 ws (SqT.of h2)
  rw [g1] at z1
  rw [g3] at z2
  cases z1
  cases z2
  obtain ⟨N, r⟩ := new_tup A' hT (ds := [x, y]) (vs := [v, w]) (by simp only [Reps]; exact ⟨_, _, rfl, g2, _, _, rfl, g4, rfl⟩)
  exact ⟨_, rfl, N, r⟩
theorem i_zip {elts : List Expr} {kk : Nat} {tpos p : Pos} (hg : Gl X "zip") (hm : X.mg "zip" = none) (ha : PE X a (tI X.K ma)) (hb : PE X b (tI X.K mb)) (hs : starEach [a, b] X.env = (false, eval a X.env) :: starEach [b] X.env) (hs2 : starEach [b] X.env = (false, eval b X.env) :: starEach [] X.env) :
    PI X (.Tuple elts kk tpos) (.Call (.Name "zip" p) [a, b] [] pos) (tIt X.K fun ρ => bnd (ma ρ) fun x => bnd (mb ρ) fun y => zipD x y) := by
  refine (RZ.pi_zipA hg hm (s_cons ha (s_cons hb s_nil hs2) hs) hs (by rw [hs2]; rfl)).weak ?_
  rintro σ H R ⟨W, ρ, rfl, A, sl, xs, S', e, k⟩
  obtain ⟨x, S1, e1, e10⟩ := bnd_ok e
  obtain ⟨y, S2, e2, e20⟩ := bnd_ok e10
  refine ⟨W, ρ, rfl, A, sl, [x, y], S2, bnd_mk e1 (bnd_mk (bnd_mk e2 rfl) rfl), fun W1 vs N r => ?_⟩
  obtain ⟨v, w, rfl, r1, r2⟩ := reps2 r
  unfold zipD at e20
  split at e20
  · obtain ⟨rfl, rfl⟩ := ret_ok e20
    simp only [Rep] at r1 r2
    obtain ⟨p, vs, rfl, hp, hn, hk, q⟩ := r1
    obtain ⟨p2, ws, rfl, hp2, hn2, hk2, q2⟩ := r2
    exact ⟨p, p2, _, _, rfl, .inl ⟨SqL.of hp, SqL.of hp2, k W1 _ N (walks_zipL N.ab hp hn hk q hp2 hn2 hk2 q2)⟩⟩
  · obtain ⟨rfl, rfl⟩ := ret_ok e20
    simp only [Rep] at r1 r2
    obtain ⟨p, vs, rfl, hp, q⟩ := r1
    obtain ⟨p2, ws, rfl, hp2, q2⟩ := r2
    exact ⟨p, p2, _, _, rfl, .inr ⟨SqT.of hp, SqT.of hp2, k W1 _ N (walks_zipT N.ab hp q hp2 q2)⟩⟩
  · cases e20
theorem walks_rev {K : PySem.W.Frag} {W : Wd} (A : Abs K W) {p : Addr} {vs : List V} {xs : List D} (hp : W.H p = some (.lst vs)) (hn : ¬ Live W p) (hk : ¬ W.lk p) (q : Reps K W xs vs) : Walks K (Itv K p vs.length) xs.reverse W := by
  intro W' A' E i
  have h1 := (E.keep p _ hp hn hk).1
  have q' := Reps.extL A E _ _ q
  have hl := reps_len _ _ q'
  refine ⟨fun d hd => ?_, fun hi => by show vs.length ≤ i; rw [List.length_reverse] at hi; omega⟩
  have hi : i < xs.length := by
    have := (List.getElem?_eq_some_iff.mp hd).1
    simpa using this
  rw [List.getElem?_reverse hi] at hd
  obtain ⟨v, h2, h3⟩ := reps_get _ _ _ q' d hd
  have e : xs.length - 1 - i = vs.length - 1 - i := by omega
  rw [e] at h2
  refine ⟨⟨by omega, vs, v, SqL.of h1, h2⟩, fun w H' hy => ?_⟩
  obtain ⟨rfl, hy⟩ := hy
  have := hy vs (SqL.of h1)
  rw [h2] at this
  cases this
  exact ⟨W', rfl, Nxt.refl A', h3⟩
theorem i_revl {tg : Expr} {p : Pos} (hg : Gl X "reversed") (hm : X.mg "reversed" = none) (ha : PE X a (tI X.K ma)) (hs : starEach [a] X.env = (false, eval a X.env) :: starEach [] X.env) :
    PI X tg (.Call (.Name "reversed" p) [a] [] pos) (tIt X.K fun ρ => bnd (ma ρ) fun x => match x with
    | .lst xs => ret xs.reverse
    | _ => bad) := by
  refine (pi_reversed hg hm (s_cons ha s_nil hs) hs).weak ?_
  rintro σ H R ⟨W, ρ, rfl, A, sl, xs, S', e, k⟩
  obtain ⟨x, S1, e1, e10⟩ := bnd_ok e
  refine ⟨W, ρ, rfl, A, sl, [x], S1, bnd_mk e1 rfl, fun W1 vs N r => ?_⟩
  obtain ⟨v, rfl, r1⟩ := reps1 r
  cases x with
  | lst ys =>
    obtain ⟨rfl, rfl⟩ := ret_ok (show ret ys.reverse S1 = _ from e10)
    simp only [Rep] at r1
    obtain ⟨p, vs, rfl, hp, hn, hk, q⟩ := r1
    exact ⟨p, vs, rfl, SqL.of hp, k W1 _ N (walks_rev N.ab hp hn hk q)⟩
  | _ => cases e10
end
end AG
namespace AG
open PySem PySem.Spec PyProof.Rows L2
/-! ### l.count(x) -/
section
variable {X : Cx}
def rCountD (K : PySem.W.Frag) : V → List V → Hp → VK → Prop := fun x xs H Q => ∃ (a : Addr) (y : V) (d : PyData) (ds : List PyData), x = V.ref a ∧ xs = [y] ∧ Dp K H (V.ref a) (.list ds) ∧ Dp K H y d ∧
  SeqAt.shaped (.list ds) = true ∧ SeqAt.shaped d = true ∧ Q (.int ((ds.countP fun z => PyData.eqv z d : Nat) : Int)) H
theorem mt_countD (hu : X.A.units + 65 < cLine) : MtR X "list.count" (rCountD X.K) := by
  intro pins s σ H x xs v us Q I rx rxs h
  obtain ⟨a, y, d, ds, rfl, rfl, hl, hy, sl, sd, q⟩ := h
  cases rx
  cases rxs with
  | cons ry rt =>
    rename_i uy ut
    cases rt
    obtain ⟨bs, r1⟩ := Dp.reads I d y uy hy ry
    have hxs : PyData.canLayAll0 ds = true := SeqAt.canLay_of_shaped sl
    have hroom : X.A.units + 1 + min (PyData.depthAll ds) d.depth < cLine := room_in_shaped sd hu
    cases hl with
    | lst hs ha =>
      obtain ⟨its, rv, p, hlen⟩ := I.list hs
      obtain ⟨as, h4⟩ := Dp.readsAll I ds _ its ha rv
      refine SeqAt.count_list_data (vs := its.toArray) p.isList (show ReadsAll s.heap its.toArray.toList ds as from h4) r1 (PyData.plainAll_of_canLay0 ds hxs) (PyData.plain_of_canLay0 d (SeqAt.canLay_of_shaped sd)) hroom ?_
      exact ⟨.int _, H, I.tok _, ⟨_, rfl⟩, q⟩
end
section
variable {X : Cx} {a b c e : Expr} {ta : TE} {pos : Pos} {ma mb mc : Env → M D}
theorem k_cnt {K : PySem.W.Frag} {W : Wd} (A : Abs K W) {x y d : D} {v w : V} {S' : Sto} {Q : VK} (r : Rep K W x v) (r3 : Rep K W y w) (e : cntD x y W.S = .ok d S') (k : ∀ W' u, Nxt K W S' W' → Rep K W' d u → Q u W'.H) : rCountD K v [w] W.H Q := by
  unfold cntD at e
  split at e
  · rename_i c
    obtain ⟨xs, S4, e4, e⟩ := bnd_ok e
    obtain ⟨rfl, hk, p, us, rfl, h1, h2, q⟩ := getC_ok A r e4
    cases h3 : toPy y with
    | none => rw [h3] at e; cases e
    | some z =>
      cases h4 : toPys xs with
      | none => rw [h3, h4] at e; cases e
      | some ps =>
        rw [h3, h4] at e
        obtain ⟨c1, e⟩ := need_ok e
        obtain ⟨c1, c2⟩ := and2 c1
        obtain ⟨rfl, rfl⟩ := ret_ok e
        exact ⟨p, w, z, ps, rfl, rfl, .lst (SqL.of h2) (reps_dp xs us ps q h4), rep_dp.1 _ _ _ r3 h3, c2, c1, k W _ (Nxt.refl A) (int_rep _)⟩
  · cases e
theorem s_cnt {o i : Expr} {mo mi : Env → M D} {apos cpos : Pos} (hu : X.A.units + 65 < cLine) (ho : PE X o (tI X.K mo)) (hi : PE X i (tI X.K mi)) (hbase : attributeBase o "count" X.env (eval o X.env) = eval o X.env) (hline : (apos.endLine == cpos.line) = true)
    (hs : starEach [i] X.env = (false, eval i X.env) :: starEach [] X.env) : PE X (.Call (.Attribute o "count" apos) [i] [] cpos) (tI X.K fun ρ => bnd (mo ρ) fun x => bnd (isC x) fun _ => bnd (mi ρ) fun y => cntD x y) := by
  refine (pe_bm PySem.F.plainAttrs_list PySem.F.slot_list_count PySem.F.type_list_count (mt_countD hu) ho (s_cons hi s_nil hs) hbase (by rw [hs]; rfl) hline hs rfl).weak ?_
  rintro σ H Q ⟨W, ρ, rfl, A, sl, d, S', e, k⟩
  obtain ⟨x, S1, e1, e⟩ := bnd_ok e
  obtain ⟨_, S2, e2, e⟩ := bnd_ok e
  obtain ⟨y, S3, e3, e⟩ := bnd_ok e
  refine ⟨W, ρ, rfl, A, sl, x, S1, e1, fun W1 v N r => ?_⟩
  rw [← N.st] at e2
  obtain ⟨h, ty⟩ := isC_ok N.ab r e2
  rw [h] at e3
  refine ⟨ty, W1, ρ, rfl, N.ab, sl.ext A N.ext, [y], S3, bnd_mk e3 rfl, fun W2 vs N2 r2 => ?_⟩
  obtain ⟨w, rfl, r3⟩ := reps1 r2
  exact k_cnt N2.ab (Rep.ext N.ab N2.ext _ _ r) r3 (by rw [N2.st]; exact e) fun W3 u N3 r4 => k W3 u ⟨N3.st, N3.lk.trans (N2.lk.trans N.lk), N3.ab, (N.ext.trans N2.ext).trans N3.ext⟩ r4
/-- what is never reached -/
theorem s_opq {m : Env → M D} (hm : ∀ ρ, m ρ = bad) : PE X e (tI X.K m) := ⟨fun pins s σ H Q I ⟨W, ρ, _, _, _, k, S', e, _⟩ => by rw [hm] at e; cases e⟩
end
end AG
namespace AG
open PySem PySem.Spec PyProof.Rows L2
/-! ### a list made by a comprehension -/
mutual
theorem Rep.tr {K : PySem.W.Frag} {W W' : Wd} (hT : ∀ a vs, W.H a = some (.tup vs) → W'.H a = some (.tup vs)) (hD : ∀ a o, W.H a = some o → ¬ (∃ vs, o = .lst vs) → W'.H a = some o ∧ (¬ Live W a → ¬ Live W' a)) (hL : ∀ a vs, W.H a = some (.lst vs) → ¬ Live W a → ¬ W.lk a → W'.H a = some (.lst vs) ∧ ¬ Live W' a ∧ ¬ W'.lk a)
    (hF : ∀ a vs, SqF K W.H a vs → SqF K W'.H a vs) (hA : ∀ (k : Nat) (a : Addr × Kd), W.as[k]? = some a → W'.as[k]? = some a) : ∀ (d : D) (v : V), Rep K W d v → Rep K W' d v
  | .non, v, h => by simpa only [Rep] using h
  | .bl b, v, h => by simpa only [Rep] using h
  | .int i, v, h => by simpa only [Rep] using h
  | .str s, v, h => by simpa only [Rep] using h
  | .ty n, v, h => by simpa only [Rep] using h
  | .dic t ks ds, v, h => by
    simp only [Rep] at h ⊢
    obtain ⟨a, us, o, e, h, h2, h3, n, r⟩ := h
    obtain ⟨q1, q2⟩ := hD a o h (fun ⟨vs, z⟩ => dicO_nolst h3 z)
    exact ⟨a, us, o, e, q1, h2, h3, q2 n, Reps.tr hT hD hL hF hA ds us r⟩
  | .set is, v, h => by
    simp only [Rep] at h ⊢
    obtain ⟨a, n, e, h⟩ := h
    exact ⟨a, n, e, (hD a _ h (fun ⟨vs, z⟩ => nomatch z)).1⟩
  | .exc c, v, h => by
    simp only [Rep] at h ⊢
    obtain ⟨a, C, φ, e, h0, h, h2⟩ := h
    exact ⟨a, C, φ, e, h0, (hD a _ h (fun ⟨vs, z⟩ => nomatch z)).1, h2⟩
  | .obj c k, v, h => by
    simp only [Rep] at h ⊢
    obtain ⟨a, e, h⟩ := h
    exact ⟨a, e, hA k _ h⟩
  | .dct t k, v, h => by
    simp only [Rep] at h ⊢
    obtain ⟨a, e, h⟩ := h
    exact ⟨a, e, hA k _ h⟩
  | .ref k, v, h => by
    simp only [Rep] at h ⊢
    obtain ⟨a, e, h⟩ := h
    exact ⟨a, e, hA k _ h⟩
  | .tup ds, v, h => by
    simp only [Rep] at h ⊢
    obtain ⟨a, vs, e, h, r⟩ := h
    exact ⟨a, vs, e, hT a vs h, Reps.tr hT hD hL hF hA ds vs r⟩
  | .lst ds, v, h => by
    simp only [Rep] at h ⊢
    obtain ⟨a, vs, e, h, n, k, r⟩ := h
    obtain ⟨h1, h2, h3⟩ := hL a vs h n k
    exact ⟨a, vs, e, h1, h2, h3, Reps.tr hT hD hL hF hA ds vs r⟩
  | .fro ds, v, h => by
    simp only [Rep] at h ⊢
    obtain ⟨a, vs, e, h, r⟩ := h
    exact ⟨a, vs, e, hF a vs h, Reps.tr hT hD hL hF hA ds vs r⟩
theorem Reps.tr {K : PySem.W.Frag} {W W' : Wd} (hT : ∀ a vs, W.H a = some (.tup vs) → W'.H a = some (.tup vs)) (hD : ∀ a o, W.H a = some o → ¬ (∃ vs, o = .lst vs) → W'.H a = some o ∧ (¬ Live W a → ¬ Live W' a)) (hL : ∀ a vs, W.H a = some (.lst vs) → ¬ Live W a → ¬ W.lk a → W'.H a = some (.lst vs) ∧ ¬ Live W' a ∧ ¬ W'.lk a)
    (hF : ∀ a vs, SqF K W.H a vs → SqF K W'.H a vs) (hA : ∀ (k : Nat) (a : Addr × Kd), W.as[k]? = some a → W'.as[k]? = some a) : ∀ (ds : List D) (vs : List V), Reps K W ds vs → Reps K W' ds vs
  | [], vs, h => by simpa only [Reps] using h
  | d :: ds, vs, h => by
    simp only [Reps] at h ⊢
    obtain ⟨v, r, e, h1, h2⟩ := h
    exact ⟨v, r, e, Rep.tr hT hD hL hF hA d v h1, Reps.tr hT hD hL hF hA ds r h2⟩
end
/-- a list under work is done: settled, or a new cell -/
theorem res_done {K : PySem.W.Frag} {W0 W : Wd} {p : Addr} {m : Bool} {xs : List D} {us : List V} {d : D} {S' : Sto} (A0 : Abs K W0) (h0 : W0.H p = none) (A : Abs K W) (E : Ext W0 W) (hl : W.lk = fun a => a = p ∨ W0.lk a) (hp : W.H p = some (.lst us)) (r : Reps K W xs us)
    (e : mkL m xs W.S = .ok d S') : ∃ W', W'.H = W.H ∧ Nxt K W0 S' W' ∧ Rep K W' d (.ref p) := by
  have hlp : W.lk p := by rw [hl]; exact .inl rfl
  have hsub : ∀ a, W0.lk a → W.lk a := fun a z => by rw [hl]; exact .inr z
  have n0 : ¬ W0.lk p := fun z => by
    obtain ⟨⟨vs, e⟩, _⟩ := A0.res p z
    rw [h0] at e
    cases e
  have nl : ¬ Live W p := (A.res p hlp).2
  unfold mkL at e
  split at e
  · -- a new cell
    cases e
    have cs : ∀ {k : Nat} {ys : List D}, (W.S ++ [some xs])[k]? = some (some ys) → W.S[k]? = some (some ys) ∨ (k = W.S.length ∧ ys = xs) := fun {k ys} e => by
      by_cases hk : k < W.S.length
      · rw [List.getElem?_append_left hk] at e
        exact .inl e
      · rw [List.getElem?_append_right (by omega)] at e
        have := (List.getElem?_eq_some_iff.mp e).1
        simp at this
        rw [show k - W.S.length = 0 by omega] at e
        simp at e
        exact .inr ⟨by omega, e.symm⟩
    have lb : ∀ {k : Nat} {ys : List D}, W.S[k]? = some (some ys) → ∀ {a}, (W.as ++ [(p, Kd.lst)])[k]? = some a → W.as[k]? = some a := fun {k ys} e {a} h => by
      rw [List.getElem?_append_left (by rw [A.len]; exact (List.getElem?_eq_some_iff.mp e).1)] at h
      exact h
    have ap : (W.as ++ [(p, Kd.lst)])[W.S.length]? = some (p, Kd.lst) := by rw [← A.len]; simp
    have hA : ∀ (k : Nat) (a : Addr × Kd), W.as[k]? = some a → (W.as ++ [(p, Kd.lst)])[k]? = some a := fun k a h => by
      rw [List.getElem?_append_left (List.getElem?_eq_some_iff.mp h).1]
      exact h
    have tr : ∀ (ds : List D) (vs : List V), Reps K W ds vs → Reps K { H := W.H, S := W.S ++ [some xs], as := W.as ++ [(p, Kd.lst)], lk := W0.lk } ds vs := by
      refine Reps.tr (fun a vs h => h) (fun a o h hn => ⟨h, fun n z => ?_⟩) (fun a vs h n k => ⟨h, fun z => ?_, fun z => k (hsub a z)⟩) (fun a vs h => h) hA
      · rcases live_app A z with q | q
        · exact n q
        · subst q
          rw [hp] at h
          cases h
          exact hn ⟨_, rfl⟩
      · rcases live_app A z with q | q
        · exact n q
        · subst q
          exact k hlp
    refine ⟨{ H := W.H, S := W.S ++ [some xs], as := W.as ++ [(p, Kd.lst)], lk := W0.lk }, rfl, ⟨rfl, rfl, ?_, ?_⟩, ?_⟩
    · refine ⟨by simp [A.len], fun i j a k1 k2 ys zs h1 h2 h3 h4 => ?_, fun k ys h => ?_, fun a h => ?_⟩
      · rcases cs h1 with q1 | ⟨q1, _⟩
        · rcases cs h2 with q2 | ⟨q2, _⟩
          · exact A.inj i j a k1 k2 ys zs q1 q2 (lb q1 h3) (lb q2 h4)
          · subst q2
            have h4 : (W.as ++ [(p, Kd.lst)])[W.S.length]? = some (a, k2) := h4
            rw [ap] at h4
            cases h4
            exact absurd ⟨i, ys, k1, q1, lb q1 h3⟩ nl
        · subst q1
          have h3 : (W.as ++ [(p, Kd.lst)])[W.S.length]? = some (a, k1) := h3
          rw [ap] at h3
          cases h3
          rcases cs h2 with q2 | ⟨q2, _⟩
          · exact absurd ⟨j, zs, k2, q2, lb q2 h4⟩ nl
          · exact q2.symm
      · rcases cs h with q | ⟨q, e⟩
        · obtain ⟨a, kd, ds, vs, o, e1, e2, e3, r1⟩ := A.cell k ys q
          exact ⟨a, kd, ds, vs, o, hA k _ e1, e2, e3, tr _ _ r1⟩
        · subst q e
          exact ⟨p, .lst, _, us, _, ap, hp, ⟨rfl, rfl⟩, tr _ _ r⟩
      · obtain ⟨h1, h2⟩ := A.res a (hsub a h)
        refine ⟨h1, fun z => ?_⟩
        rcases live_app A z with q | q
        · exact h2 q
        · subst q
          exact n0 h
    · refine ⟨fun b o h n => ?_, fun k a h => hA k a (E.pre k a h)⟩
      obtain ⟨h1, h2, h3⟩ := E.keep b o h n
      refine ⟨h1, fun z => ?_, id⟩
      rcases live_app A z with q | q
      · exact h2 q
      · subst q
        rw [h0] at h
        cases h
    · simp only [Rep]
      exact ⟨p, rfl, ap⟩
  · cases e
    refine ⟨{ W with lk := W0.lk }, rfl, ⟨rfl, rfl, res_end A hsub, fun b o h n => ?_, E.pre⟩, ?_⟩
    · obtain ⟨h1, h2, h3⟩ := E.keep b o h n
      exact ⟨h1, h2, id⟩
    · simp only [Rep]
      exact ⟨p, us, rfl, hp, nl, n0, Reps.lkm hsub _ _ r⟩
theorem lc_ok {K : PySem.W.Frag} {m : Bool} {own : List Nat} {tgD : Tg} {g : TG} {mi : Env → M (List D)} {mc : Env → M Bool} {me : Env → M D} (hgk : TgOk K g tgD) (hsub : ∀ i ∈ tgs tgD, i ∈ own) : ∀ σ H Q,
    tI K (fun ρ => bnd (mi ρ) fun xs => bnd (lcL me tgD mc (wipeD ρ own) xs []) fun ys => mkL m ys) σ H Q → tLc (tIt K mi) g (tT K mc) (tI K me) own σ H Q := by
  rintro σ H Q ⟨W, ρ, rfl, A, sl, d, S', e, k⟩
  obtain ⟨xs, S1, e1, e⟩ := bnd_ok e
  obtain ⟨ys, S2, e2, e⟩ := bnd_ok e
  refine ⟨W, ρ, rfl, A, sl, xs, S1, e1, fun W1 J N wk p hp => ?_⟩
  rw [← N.st] at e2
  refine ⟨fun i n H => n = xs.length - i ∧ i ≤ xs.length ∧ ∃ (Wi : Wd) (acc : List D) (us : List V), Wi.H = H ∧ Abs K Wi ∧ Ext W1 Wi ∧ Wi.lk = (fun a => a = p ∨ W1.lk a) ∧ H p = some (.lst us) ∧ Reps K Wi acc us ∧ lcL me tgD mc (wipeD ρ own) (xs.drop i) acc Wi.S = .ok ys S2, ⟨xs.length, ?_⟩, ?_⟩
  · obtain ⟨A2, E2⟩ := res_start N.ab hp
    exact ⟨by simp, Nat.zero_le _, _, [], [], rfl, A2, E2, rfl, upd_same, by simp only [Reps], e2⟩
  · rintro i n H ⟨rfl, hi, Wi, acc, us, rfl, Ai, Ei, li, hpi, ri, ei⟩
    obtain ⟨w1, w2⟩ := wk Wi Ai Ei.toL i
    by_cases hlt : i < xs.length
    · refine .inr ?_
      obtain ⟨go, yl⟩ := w1 xs[i] (List.getElem?_eq_getElem hlt)
      rw [List.drop_eq_getElem_cons hlt] at ei
      simp only [lcL] at ei
      obtain ⟨ρ2, S3, e3, ei⟩ := bnd_ok ei
      obtain ⟨h3, rfl⟩ := opt_ok e3
      refine ⟨go, fun H' => i + 1 ≤ xs.length ∧ ∃ (Wi : Wd) (acc : List D) (us : List V), Wi.H = H' ∧ Abs K Wi ∧ Ext W1 Wi ∧ Wi.lk = (fun a => a = p ∨ W1.lk a) ∧ H' p = some (.lst us) ∧ Reps K Wi acc us ∧ lcL me tgD mc (wipeD ρ own) (xs.drop (i + 1)) acc Wi.S = .ok ys S2, fun H' nx => ⟨xs.length - (i + 1), by omega, rfl, nx⟩, fun x H' hy => ?_⟩
      obtain ⟨Wy, rfl, Ny, ry⟩ := yl x H' hy
      have slw : Sl K Wy (wipeD ρ own) (wipe σ own) := ((sl.wipe own).ext A (N.ext.trans Ei)).ext Ai Ny.ext |> fun z => z
      refine hgk Wy _ x (wipeD ρ own) ρ2 (wipe σ own) _ Ny.ab ry slw h3 fun σ2 sl2 hw => ⟨by rw [hw own hsub, wipe_wipe], ?_⟩
      obtain ⟨kk, S4, e4, ei⟩ := bnd_ok ei
      have lkp : Wy.lk p := by rw [Ny.lk, li]; exact .inl rfl
      have hpy : Wy.H p = some (.lst us) := (Ny.ext.keep p _ hpi (Ai.res p (by rw [li]; exact .inl rfl)).2).1
      refine ⟨Wy, ρ2, rfl, Ny.ab, sl2, kk, S4, by rw [Ny.st]; exact e4, fun Wc Nc => ?_⟩
      have hpc : Wc.H p = some (.lst us) := (Nc.ext.keep p _ hpy (Ny.ab.res p lkp).2).1
      have lkc : Wc.lk = fun a => a = p ∨ W1.lk a := by rw [Nc.lk, Ny.lk, li]
      cases kk with
      | true =>
        simp only [if_true] at ei ⊢
        obtain ⟨y, S5, e5, ei⟩ := bnd_ok ei
        obtain ⟨sm, ei⟩ := need_ok ei
        refine ⟨Wc, ρ2, rfl, Nc.ab, sl2.ext Ny.ab Nc.ext, y, S5, by rw [Nc.st]; exact e5, fun We v Ne re => ?_⟩
        have lke : We.lk = fun a => a = p ∨ W1.lk a := by rw [Ne.lk, lkc]
        have lkep : We.lk p := by rw [lke]; exact .inl rfl
        have hpe : We.H p = some (.lst us) := (Ne.ext.keep p _ hpc (Nc.ab.res p (by rw [lkc]; exact .inl rfl)).2).1
        have rae := Reps.ext Ai ((Ny.ext.trans Nc.ext).trans Ne.ext) _ _ ri
        refine ⟨us, hpe, ?_, by omega, { We with H := upd We.H p (.lst (us ++ [v])) }, acc ++ [y], us ++ [v], rfl, res_upd Ne.ab lkep _, ?_, lke, upd_same, Reps.upd Ne.ab lkep _ _ _ (reps_app _ _ _ _ rae (reps_one re)), ?_⟩
        · rw [reps_len _ _ ri]
          have := small_le sm
          exact Nat.lt_of_lt_of_le (Nat.lt_succ_self _) (line_1M (by omega))
        · refine ⟨fun b o h nn => ?_, fun kx a h => (((Ei.trans Ny.ext).trans Nc.ext).trans Ne.ext).pre kx a h⟩
          obtain ⟨h1, h2, h3⟩ := (((Ei.trans Ny.ext).trans Nc.ext).trans Ne.ext).keep b o h nn
          refine ⟨?_, h2, h3⟩
          show upd We.H p _ b = some o
          rw [upd_ne (ne_of_none h hp)]
          exact h1
        · show lcL me tgD mc (wipeD ρ own) (xs.drop (i + 1)) (acc ++ [y]) We.S = _
          rw [Ne.st]
          exact ei
      | false =>
        simp only [Bool.false_eq_true, if_false] at ei ⊢
        exact ⟨by omega, Wc, acc, us, rfl, Nc.ab, (Ei.trans Ny.ext).trans Nc.ext, lkc, hpc, Reps.ext Ai (Ny.ext.trans Nc.ext) _ _ ri, by rw [Nc.st]; exact ei⟩
    · refine .inl ⟨w2 (by omega), ?_⟩
      rw [List.drop_eq_nil_of_le (by omega)] at ei
      obtain ⟨rfl, rfl⟩ := ret_ok (show ret acc Wi.S = _ from ei)
      obtain ⟨Wz, hz, Nz, rz⟩ := res_done (m := m) N.ab hp Ai Ei li hpi ri e
      rw [← hz]
      exact k Wz _ ⟨Nz.st, Nz.lk.trans N.lk, Nz.ab, N.ext.trans Nz.ext⟩ rz
theorem lc2_ok {K : PySem.W.Frag} {m : Bool} {own own1 : List Nat} {tgD tgD1 : Tg} {g g1 : TG} {mi mi1 : Env → M (List D)} {me : Env → M D} (hgk : TgOk K g tgD) (hgk1 : TgOk K g1 tgD1) (hsub : ∀ i ∈ tgs tgD, i ∈ own) (hsub1 : ∀ i ∈ tgs tgD1, i ∈ own1) : ∀ σ H Q,
    tI K (fun ρ => bnd (mi ρ) fun xs => bnd (lcL2 me tgD tgD1 mi1 own1 (wipeD ρ own) xs []) fun ys => mkL m ys) σ H Q → tLc2 (tIt K mi) g (tT K fun _ => ret true) (tIt K mi1) g1 (tT K fun _ => ret true) (tI K me) own own1 σ H Q := by
  rintro σ H Q ⟨W, ρ, rfl, A, sl, d, S', e, k⟩
  obtain ⟨xs, S1, e1, e⟩ := bnd_ok e
  obtain ⟨ys, S2, e2, e⟩ := bnd_ok e
  refine ⟨W, ρ, rfl, A, sl, xs, S1, e1, fun W1 J N wk p hp => ?_⟩
  rw [← N.st] at e2
  refine ⟨fun i n H => n = xs.length - i ∧ i ≤ xs.length ∧ ∃ (Wi : Wd) (acc : List D) (us : List V), Wi.H = H ∧ Abs K Wi ∧ Ext W1 Wi ∧ Wi.lk = (fun a => a = p ∨ W1.lk a) ∧ H p = some (.lst us) ∧ Reps K Wi acc us ∧ lcL2 me tgD tgD1 mi1 own1 (wipeD ρ own) (xs.drop i) acc Wi.S = .ok ys S2, ⟨xs.length, ?_⟩, ?_⟩
  · obtain ⟨A2, E2⟩ := res_start N.ab hp
    exact ⟨by simp, Nat.zero_le _, _, [], [], rfl, A2, E2, rfl, upd_same, by simp only [Reps], e2⟩
  · rintro i n H ⟨rfl, hi, Wi, acc, us, rfl, Ai, Ei, li, hpi, ri, ei⟩
    obtain ⟨w1, w2⟩ := wk Wi Ai Ei.toL i
    by_cases hlt : i < xs.length
    · refine .inr ?_
      obtain ⟨go, yl⟩ := w1 xs[i] (List.getElem?_eq_getElem hlt)
      rw [List.drop_eq_getElem_cons hlt] at ei
      simp only [lcL2] at ei
      obtain ⟨ρ2, S3, e3, ei⟩ := bnd_ok ei
      obtain ⟨h3, rfl⟩ := opt_ok e3
      obtain ⟨zs, S4, e4, ei⟩ := bnd_ok ei
      obtain ⟨acc2, S5, e5, ei⟩ := bnd_ok ei
      refine ⟨go, fun H' => i + 1 ≤ xs.length ∧ ∃ (Wi : Wd) (acc : List D) (us : List V), Wi.H = H' ∧ Abs K Wi ∧ Ext W1 Wi ∧ Wi.lk = (fun a => a = p ∨ W1.lk a) ∧ H' p = some (.lst us) ∧ Reps K Wi acc us ∧ lcL2 me tgD tgD1 mi1 own1 (wipeD ρ own) (xs.drop (i + 1)) acc Wi.S = .ok ys S2, fun H' nx => ⟨xs.length - (i + 1), by omega, rfl, nx⟩, fun x H' hy => ?_⟩
      obtain ⟨Wy, rfl, Ny, ry⟩ := yl x H' hy
      have slw : Sl K Wy (wipeD ρ own) (wipe σ own) := ((sl.wipe own).ext A (N.ext.trans Ei)).ext Ai Ny.ext
      refine hgk Wy _ x (wipeD ρ own) ρ2 (wipe σ own) _ Ny.ab ry slw h3 fun σ2 sl2 hw => ⟨by rw [hw own hsub, wipe_wipe], ?_⟩
      have lkp : Wy.lk p := by rw [Ny.lk, li]; exact .inl rfl
      have hpy : Wy.H p = some (.lst us) := (Ny.ext.keep p _ hpi (Ai.res p (by rw [li]; exact .inl rfl)).2).1
      refine ⟨Wy, ρ2, rfl, Ny.ab, sl2, true, Wy.S, rfl, fun Wc Nc => ?_⟩
      simp only [if_true]
      have hpc : Wc.H p = some (.lst us) := (Nc.ext.keep p _ hpy (Ny.ab.res p lkp).2).1
      have lkc : Wc.lk = fun a => a = p ∨ W1.lk a := by rw [Nc.lk, Ny.lk, li]
      have slc := sl2.ext Ny.ab Nc.ext
      refine ⟨Wc, ρ2, rfl, Nc.ab, slc, zs, S4, by rw [Nc.st, Ny.st]; exact e4, fun W4 J1 N4 wk1 => ?_⟩
      have hp4 : W4.H p = some (.lst us) := (N4.ext.keep p _ hpc (Nc.ab.res p (by rw [lkc]; exact .inl rfl)).2).1
      have lk4 : W4.lk = fun a => a = p ∨ W1.lk a := by rw [N4.lk, lkc]
      have r4 := Reps.ext Ai ((Ny.ext.trans Nc.ext).trans N4.ext) _ _ ri
      have E4 : Ext W1 W4 := Ei.trans ((Ny.ext.trans Nc.ext).trans N4.ext)
      have sl4 := slc.ext Nc.ab N4.ext
      rw [← N4.st] at e5
      refine ⟨fun j n H => n = zs.length - j ∧ j ≤ zs.length ∧ ∃ (Wj : Wd) (ac : List D) (vs : List V), Wj.H = H ∧ Abs K Wj ∧ Ext W1 Wj ∧ ExtL W4 Wj ∧ Wj.lk = (fun a => a = p ∨ W1.lk a) ∧ H p = some (.lst vs) ∧ Reps K Wj ac vs ∧ lcL me tgD1 (fun _ => ret true) (wipeD ρ2 own1) (zs.drop j) ac Wj.S = .ok acc2 S5, ⟨zs.length, ?_⟩, ?_⟩
      · exact ⟨by simp, Nat.zero_le _, W4, acc, us, rfl, N4.ab, E4, (Ext.refl W4).toL, lk4, hp4, r4, e5⟩
      · rintro j n H ⟨rfl, hj, Wj, ac, vs, rfl, Aj, E1j, Ej, lj, hpj, rj, ej⟩
        obtain ⟨v1, v2⟩ := wk1 Wj Aj Ej j
        by_cases hlj : j < zs.length
        · refine .inr ?_
          obtain ⟨go1, yl1⟩ := v1 zs[j] (List.getElem?_eq_getElem hlj)
          rw [List.drop_eq_getElem_cons hlj] at ej
          simp only [lcL] at ej
          obtain ⟨ρ3, S6, e6, ej⟩ := bnd_ok ej
          obtain ⟨h6, rfl⟩ := opt_ok e6
          obtain ⟨kk, S7, e7, ej⟩ := bnd_ok ej
          obtain ⟨rfl, rfl⟩ := ret_ok e7
          simp only [if_true] at ej
          obtain ⟨y, S8, e8, ej⟩ := bnd_ok ej
          obtain ⟨sm, ej⟩ := need_ok ej
          refine ⟨go1, fun H' => j + 1 ≤ zs.length ∧ ∃ (Wj : Wd) (ac : List D) (vs : List V), Wj.H = H' ∧ Abs K Wj ∧ Ext W1 Wj ∧ ExtL W4 Wj ∧ Wj.lk = (fun a => a = p ∨ W1.lk a) ∧ H' p = some (.lst vs) ∧ Reps K Wj ac vs ∧ lcL me tgD1 (fun _ => ret true) (wipeD ρ2 own1) (zs.drop (j + 1)) ac Wj.S = .ok acc2 S5, fun H' nx => ⟨zs.length - (j + 1), by omega, rfl, nx⟩, fun z H' hz => ?_⟩
          obtain ⟨Wz, rfl, Nz, rz⟩ := yl1 z H' hz
          have slz : Sl K Wz (wipeD ρ2 own1) (wipe σ2 own1) := ((sl4.wipe own1).extL N4.ab Ej).ext Aj Nz.ext
          refine hgk1 Wz _ z (wipeD ρ2 own1) ρ3 (wipe σ2 own1) _ Nz.ab rz slz h6 fun σ3 sl3 hw1 => ⟨by rw [hw1 own1 hsub1, wipe_wipe], ?_⟩
          have lkz : Wz.lk p := by rw [Nz.lk, lj]; exact .inl rfl
          have hpz : Wz.H p = some (.lst vs) := (Nz.ext.keep p _ hpj (Aj.res p (by rw [lj]; exact .inl rfl)).2).1
          refine ⟨Wz, ρ3, rfl, Nz.ab, sl3, true, Wz.S, rfl, fun Wd9 Nd => ?_⟩
          simp only [if_true]
          have hpd : Wd9.H p = some (.lst vs) := (Nd.ext.keep p _ hpz (Nz.ab.res p lkz).2).1
          have lkd : Wd9.lk = fun a => a = p ∨ W1.lk a := by rw [Nd.lk, Nz.lk, lj]
          refine ⟨Wd9, ρ3, rfl, Nd.ab, sl3.ext Nz.ab Nd.ext, y, S8, by rw [Nd.st, Nz.st]; exact e8, fun We v Ne re => ?_⟩
          have lke : We.lk = fun a => a = p ∨ W1.lk a := by rw [Ne.lk, lkd]
          have lkep : We.lk p := by rw [lke]; exact .inl rfl
          have hpe : We.H p = some (.lst vs) := (Ne.ext.keep p _ hpd (Nd.ab.res p (by rw [lkd]; exact .inl rfl)).2).1
          have rae := Reps.ext Aj ((Nz.ext.trans Nd.ext).trans Ne.ext) _ _ rj
          have Eall := ((E1j.trans Nz.ext).trans Nd.ext).trans Ne.ext
          have Eloc := ((Ej.trans Nz.ext.toL).trans Nd.ext.toL).trans Ne.ext.toL
          refine ⟨vs, hpe, ?_, by omega, { We with H := upd We.H p (.lst (vs ++ [v])) }, ac ++ [y], vs ++ [v], rfl, res_upd Ne.ab lkep _, ?_, ?_, lke, upd_same, Reps.upd Ne.ab lkep _ _ _ (reps_app _ _ _ _ rae (reps_one re)), ?_⟩
          · rw [reps_len _ _ rj]
            have := small_le sm
            exact Nat.lt_of_lt_of_le (Nat.lt_succ_self _) (line_1M (by omega))
          · refine ⟨fun b o h nn => ?_, fun kx a h => Eall.pre kx a h⟩
            obtain ⟨h1, h2, h3⟩ := Eall.keep b o h nn
            refine ⟨?_, h2, h3⟩
            show upd We.H p _ b = some o
            rw [upd_ne (ne_of_none h hp)]
            exact h1
          · refine ⟨fun b o h nn ll => ?_, fun kx a h => Eloc.pre kx a h⟩
            obtain ⟨h1, h2, h3⟩ := Eloc.keep b o h nn ll
            refine ⟨?_, h2, h3⟩
            show upd We.H p _ b = some o
            rw [upd_ne (fun z : b = p => ll (by rw [z, lk4]; exact .inl rfl))]
            exact h1
          · show lcL me tgD1 (fun _ => ret true) (wipeD ρ2 own1) (zs.drop (j + 1)) (ac ++ [y]) We.S = _
            rw [Ne.st]
            exact ej
        · refine .inl ⟨v2 (by omega), ?_⟩
          rw [List.drop_eq_nil_of_le (by omega)] at ej
          obtain ⟨rfl, rfl⟩ := ret_ok (show ret ac Wj.S = _ from ej)
          exact ⟨by omega, Wj, ac, vs, rfl, Aj, E1j, lj, hpj, rj, ei⟩
    · refine .inl ⟨w2 (by omega), ?_⟩
      rw [List.drop_eq_nil_of_le (by omega)] at ei
      obtain ⟨rfl, rfl⟩ := ret_ok (show ret acc Wi.S = _ from ei)
      obtain ⟨Wz, hz, Nz, rz⟩ := res_done (m := m) N.ab hp Ai Ei li hpi ri e
      rw [← hz]
      exact k Wz _ ⟨Nz.st, Nz.lk.trans N.lk, Nz.ab, N.ext.trans Nz.ext⟩ rz
/-! ### statements -/
section
variable (K : PySem.W.Frag)
def FlOk (D' : Ends) (f : Fl) (W' : Wd) : Prop := match f with
  | .nx ρ' => ∀ σ', Sl K W' ρ' σ' → D'.nx σ' W'.H
  | .bk ρ' => ∀ σ', Sl K W' ρ' σ' → D'.bk σ' W'.H
  | .ct ρ' => ∀ σ', Sl K W' ρ' σ' → D'.ct σ' W'.H
  | .rt d => ∀ v, Rep K W' d v → D'.rt v W'.H
def tS (m : Env → M Fl) : TS := fun D' σ H => ∃ (W : Wd) (ρ : Env), W.H = H ∧ Abs K W ∧ Sl K W ρ σ ∧ ∃ f S', m ρ W.S = .ok f S' ∧ ∀ W', Nxt K W S' W' → FlOk K D' f W'
end
section
variable {X : Cx} {a b c e : Expr} {pos : Pos} {ma mb mc : Env → M D} {tg : Expr} {tgD : Tg} {g : TG}
theorem asg_ok (hgk : TgOk X.K g tgD) : ∀ D' σ H, tS X.K (fun ρ => bnd (ma ρ) fun x => bnd (opt (asg tgD x ρ)) fun ρ2 => ret (.nx ρ2)) D' σ H → tAsg (tI X.K ma) g D' σ H := by
  rintro D' σ H ⟨W, ρ, rfl, A, sl, f, S', e, k⟩
  obtain ⟨x, S1, e1, e⟩ := bnd_ok e
  obtain ⟨ρ2, S2, e2, e3⟩ := bnd_ok e
  obtain ⟨h2, h2'⟩ := opt_ok e2
  obtain ⟨h3, h4⟩ := ret_ok e3
  subst h2' h3 h4
  refine ⟨W, ρ, rfl, A, sl, x, _, e1, fun W1 v N r => ?_⟩
  exact hgk W1 x v ρ ρ2 σ _ N.ab r (sl.ext A N.ext) h2 fun σ' sl' _ => k W1 N σ' sl'
theorem set_ok {i : Nat} : ∀ D' σ H, tS X.K (fun ρ => bnd (ma ρ) fun x => ret (.nx (ρ.set i (some x)))) D' σ H → tAsg (tI X.K ma) (gName i) D' σ H := asg_ok (tg_name i)
theorem par_ok {i j : Nat} : ∀ D' σ H, tS X.K (fun ρ => bnd (ma ρ) fun x => bnd (mb ρ) fun y => ret (.nx ((ρ.set i (some x)).set j (some y)))) D' σ H →
    tPar i j (tAs X.K fun ρ => bnd (ma ρ) fun x => bnd (bnd (mb ρ) fun x => bnd (ret []) fun xs => ret (x :: xs)) fun xs => ret (x :: xs)) D' σ H := by
  rintro D' σ H ⟨W, ρ, rfl, A, sl, f, S', e, k⟩
  obtain ⟨x, S1, e1, e⟩ := bnd_ok e
  obtain ⟨y, S2, e2, e⟩ := bnd_ok e
  obtain ⟨rfl, rfl⟩ := ret_ok e
  refine ⟨W, ρ, rfl, A, sl, [x, y], S2, bnd_mk e1 (bnd_mk (bnd_mk e2 rfl) rfl), fun W1 vs N r => ?_⟩
  obtain ⟨v, w, rfl, r1, r2⟩ := reps2 r
  exact ⟨v, w, rfl, k W1 N _ (((sl.ext A N.ext).set i r1).set j r2)⟩
theorem k_setix {K : PySem.W.Frag} {W : Wd} (A : Abs K W) {x y z : D} {v1 v2 v3 : V} {S' : Sto} {u : Unit} {Q : Hp → Prop} (r2 : Rep K W x v2) (r3 : Rep K W y v3) (r1 : Rep K W z v1) (e4 : setIx x y z W.S = .ok u S') (k : ∀ W', Nxt K W S' W' → Q W'.H) : rSetL v2 v3 v1 W.H Q := by
  unfold setIx at e4
  split at e4
  · rename_i kx j
    obtain ⟨xs, S5, e5, e4⟩ := bnd_ok e4
    obtain ⟨rfl, hk, p, us, rfl, h1, h2, q⟩ := getC_ok A r2 e5
    cases hj : L2.ixN xs.length j with
    | none => rw [hj] at e4; cases e4
    | some n =>
      rw [hj] at e4
      have e6 := setC_ok hk e4
      rw [rep_int r3]
      refine ⟨p, us, j, n, rfl, rfl, h2, by rw [reps_len _ _ q]; exact hj, ?_⟩
      have N4 := set_cell A hk h1 (reps_set n _ _ z v1 q r1)
      rw [← e6] at N4
      exact k _ N4
  · cases e4
theorem k_app {K : PySem.W.Frag} {W : Wd} (A : Abs K W) {x y : D} {v1 w : V} {S' : Sto} {u : Unit} {Q : VK} (r1 : Rep K W x v1) (r3 : Rep K W y w) (e4 : appD x y W.S = .ok u S') (k : ∀ W', Nxt K W S' W' → Q .non W'.H) : rAppend v1 [w] W.H Q := by
  unfold appD at e4
  split at e4
  · rename_i kx
    obtain ⟨xs, S5, e5, e4⟩ := bnd_ok e4
    obtain ⟨rfl, hk, p, us, rfl, h1, h2, q⟩ := getC_ok A r1 e5
    obtain ⟨sm, e4⟩ := need_ok e4
    have e6 := setC_ok hk e4
    refine ⟨p, us, w, rfl, rfl, h2, ?_, ?_⟩
    · rw [reps_len _ _ q]
      have := small_le sm
      exact Nat.lt_of_lt_of_le (Nat.lt_succ_self _) (line_1M (by omega))
    · have N4 := set_cell A hk h1 (reps_app _ _ _ _ q (reps_one r3))
      rw [← e6] at N4
      exact k _ N4
  · cases e4
theorem setix_ok {mo mi me : Env → M D} : ∀ D' σ H, tS X.K (fun ρ => bnd (me ρ) fun v => bnd (mo ρ) fun x => bnd (mi ρ) fun y => bnd (setIx x y v) fun _ => ret (.nx ρ)) D' σ H →
    tAsg (tI X.K me) (gSub (tI X.K mo) (tI X.K mi) rSetL) D' σ H := by
  rintro D' σ H ⟨W, ρ, rfl, A, sl, f, S', e, k⟩
  obtain ⟨z, S1, e1, e⟩ := bnd_ok e
  obtain ⟨x, S2, e2, e⟩ := bnd_ok e
  obtain ⟨y, S3, e3, e⟩ := bnd_ok e
  obtain ⟨_, S4, e4, e⟩ := bnd_ok e
  obtain ⟨rfl, rfl⟩ := ret_ok e
  refine ⟨W, ρ, rfl, A, sl, z, S1, e1, fun W1 v1 N1 r1 => ?_⟩
  refine ⟨W1, ρ, rfl, N1.ab, sl.ext A N1.ext, x, S2, by rw [N1.st]; exact e2, fun W2 v2 N2 r2 => ?_⟩
  refine ⟨W2, ρ, rfl, N2.ab, (sl.ext A N1.ext).ext N1.ab N2.ext, y, S3, by rw [N2.st]; exact e3, fun W3 v3 N3 r3 => ?_⟩
  refine k_setix N3.ab (Rep.ext N2.ab N3.ext _ _ r2) r3 (Rep.ext N1.ab (N2.ext.trans N3.ext) _ _ r1) (by rw [N3.st]; exact e4) fun W4 N4 => ?_
  have E := ((N1.ext.trans N2.ext).trans N3.ext).trans N4.ext
  exact k _ ⟨N4.st, N4.lk.trans (N3.lk.trans (N2.lk.trans N1.lk)), N4.ab, E⟩ σ (sl.ext A E)
theorem app_ok' {mo me : Env → M D} : ∀ D' σ H, tS X.K (fun ρ => bnd (mo ρ) fun x => bnd (isC x) fun _ => bnd (me ρ) fun v => bnd (appD x v) fun _ => ret (.nx ρ)) D' σ H →
    tDrop (tBM X.K "list" rAppend (tI X.K mo) (tAs X.K fun ρ => bnd (me ρ) fun x => bnd (ret []) fun xs => ret (x :: xs))) D' σ H := by
  rintro D' σ H ⟨W, ρ, rfl, A, sl, f, S', e, k⟩
  obtain ⟨x, S1, e1, e⟩ := bnd_ok e
  obtain ⟨_, S2, e2, e⟩ := bnd_ok e
  obtain ⟨y, S3, e3, e⟩ := bnd_ok e
  obtain ⟨_, S4, e4, e⟩ := bnd_ok e
  obtain ⟨rfl, rfl⟩ := ret_ok e
  refine ⟨W, ρ, rfl, A, sl, x, S1, e1, fun W1 v1 N1 r1 => ?_⟩
  rw [← N1.st] at e2
  obtain ⟨h, ty⟩ := isC_ok N1.ab r1 e2
  rw [h] at e3
  refine ⟨ty, W1, ρ, rfl, N1.ab, sl.ext A N1.ext, [y], S3, bnd_mk e3 rfl, fun W2 vs N2 r2 => ?_⟩
  obtain ⟨w, rfl, r3⟩ := reps1 r2
  refine k_app N2.ab (Rep.ext N1.ab N2.ext _ _ r1) r3 (by rw [N2.st]; exact e4) fun W4 N4 => ?_
  have E := (N1.ext.trans N2.ext).trans N4.ext
  exact k _ ⟨N4.st, N4.lk.trans (N2.lk.trans N1.lk), N4.ab, E⟩ σ (sl.ext A E)
theorem drop_ok : ∀ D' σ H, tS X.K (fun ρ => bnd (ma ρ) fun _ => ret (.nx ρ)) D' σ H → tDrop (tI X.K ma) D' σ H := by
  rintro D' σ H ⟨W, ρ, rfl, A, sl, f, S', e, k⟩
  obtain ⟨x, S1, e1, e⟩ := bnd_ok e
  obtain ⟨rfl, rfl⟩ := ret_ok e
  exact ⟨W, ρ, rfl, A, sl, x, S1, e1, fun W1 v N r => k W1 N σ (sl.ext A N.ext)⟩
theorem ret_ok' : ∀ D' σ H, tS X.K (fun ρ => bnd (ma ρ) fun x => ret (.rt x)) D' σ H → tRet (tI X.K ma) D' σ H := by
  rintro D' σ H ⟨W, ρ, rfl, A, sl, f, S', e, k⟩
  obtain ⟨x, S1, e1, e⟩ := bnd_ok e
  obtain ⟨rfl, rfl⟩ := ret_ok e
  exact ⟨W, ρ, rfl, A, sl, x, S1, e1, fun W1 v N r => k W1 N v r⟩
variable {nc : Env → M Bool} {sa sb : Env → M Fl}
theorem ife_ok : ∀ D' σ H, tS X.K (fun ρ => bnd (nc ρ) fun k => if k then sa ρ else sb ρ) D' σ H → tIfS (tT X.K nc) (tS X.K sa) (tS X.K sb) D' σ H := by
  rintro D' σ H ⟨W, ρ, rfl, A, sl, f, S', e, k⟩
  obtain ⟨x, S1, e1, e⟩ := bnd_ok e
  refine ⟨W, ρ, rfl, A, sl, x, S1, e1, fun W1 N => ?_⟩
  cases x with
  | true =>
    simp only [if_true] at e ⊢
    exact ⟨W1, ρ, rfl, N.ab, sl.ext A N.ext, f, S', by rw [N.st]; exact e, fun W2 N2 => k W2 (N.trans N2)⟩
  | false =>
    simp only [Bool.false_eq_true, if_false] at e ⊢
    exact ⟨W1, ρ, rfl, N.ab, sl.ext A N.ext, f, S', by rw [N.st]; exact e, fun W2 N2 => k W2 (N.trans N2)⟩
theorem FlOk.mono {K : PySem.W.Frag} {D' : Ends} {f : Fl} {W : Wd} (h : FlOk K D' f W) : FlOk K D' f W := h
theorem seq_ok : ∀ D' σ H, tS X.K (fun ρ => bnd (sa ρ) fun f => match f with
    | .nx ρ2 => sb ρ2
    | f => ret f) D' σ H → tSeq (tS X.K sa) (tS X.K sb) D' σ H := by
  rintro D' σ H ⟨W, ρ, rfl, A, sl, f, S', e, k⟩
  obtain ⟨x, S1, e1, e⟩ := bnd_ok e
  refine ⟨W, ρ, rfl, A, sl, x, S1, e1, fun W1 N => ?_⟩
  cases x with
  | nx ρ2 => exact fun σ' sl' => ⟨W1, ρ2, rfl, N.ab, sl', f, S', by rw [N.st]; exact e, fun W2 N2 => k W2 (N.trans N2)⟩
  | rt d =>
    obtain ⟨rfl, rfl⟩ := ret_ok (show ret (Fl.rt d) S1 = _ from e)
    exact k W1 N
  | bk d =>
    obtain ⟨rfl, rfl⟩ := ret_ok (show ret (Fl.bk d) S1 = _ from e)
    exact k W1 N
  | ct d =>
    obtain ⟨rfl, rfl⟩ := ret_ok (show ret (Fl.ct d) S1 = _ from e)
    exact k W1 N
theorem next_ok : ∀ D' σ H, tS X.K (fun ρ => ret (.nx ρ)) D' σ H → tNext D' σ H := by
  rintro D' σ H ⟨W, ρ, rfl, A, sl, f, S', e, k⟩
  obtain ⟨rfl, rfl⟩ := ret_ok e
  exact k W (Nxt.refl A) σ sl
theorem brk_ok : ∀ D' σ H, tS X.K (fun ρ => ret (.bk ρ)) D' σ H → tBreak D' σ H := by
  rintro D' σ H ⟨W, ρ, rfl, A, sl, f, S', e, k⟩
  obtain ⟨rfl, rfl⟩ := ret_ok e
  exact k W (Nxt.refl A) σ sl
theorem cont_ok : ∀ D' σ H, tS X.K (fun ρ => ret (.ct ρ)) D' σ H → tCont D' σ H := by
  rintro D' σ H ⟨W, ρ, rfl, A, sl, f, S', e, k⟩
  obtain ⟨rfl, rfl⟩ := ret_ok e
  exact k W (Nxt.refl A) σ sl
theorem for_ok {mi : Env → M (List D)} (hgk : TgOk X.K g tgD) : ∀ D' σ H, tS X.K (fun ρ => bnd (mi ρ) fun xs => forL tgD sa xs ρ) D' σ H → tFor (tIt X.K mi) g (tS X.K sa) D' σ H := by
  rintro D' σ H ⟨W, ρ, rfl, A, sl, f, S', e, k⟩
  obtain ⟨xs, S1, e1, e⟩ := bnd_ok e
  refine ⟨W, ρ, rfl, A, sl, xs, S1, e1, fun W1 J N wk => ?_⟩
  refine ⟨fun i n σ H => n = xs.length - i ∧ i ≤ xs.length ∧ ∃ (Wi : Wd) (ρi : Env), Wi.H = H ∧ Abs X.K Wi ∧ Ext W1 Wi ∧ Wi.lk = W1.lk ∧ Sl X.K Wi ρi σ ∧ forL tgD sa (xs.drop i) ρi Wi.S = .ok f S',
    ⟨xs.length, by simp, Nat.zero_le _, W1, ρ, rfl, N.ab, Ext.refl _, rfl, sl.ext A N.ext, by rw [N.st]; exact e⟩, ?_⟩
  rintro i n σi H ⟨rfl, hi, Wi, ρi, rfl, Ai, Ei, li, sli, ei⟩
  obtain ⟨w1, w2⟩ := wk Wi Ai Ei.toL i
  by_cases hlt : i < xs.length
  · refine .inr ?_
    obtain ⟨go, yl⟩ := w1 xs[i] (List.getElem?_eq_getElem hlt)
    rw [List.drop_eq_getElem_cons hlt] at ei
    simp only [forL] at ei
    obtain ⟨ρ2, S3, e3, ei⟩ := bnd_ok ei
    obtain ⟨h3, rfl⟩ := opt_ok e3
    obtain ⟨f2, S4, e4, ei⟩ := bnd_ok ei
    refine ⟨go, fun σ' H' => i + 1 ≤ xs.length ∧ ∃ (Wi : Wd) (ρi : Env), Wi.H = H' ∧ Abs X.K Wi ∧ Ext W1 Wi ∧ Wi.lk = W1.lk ∧ Sl X.K Wi ρi σ' ∧ forL tgD sa (xs.drop (i + 1)) ρi Wi.S = .ok f S', fun σ' H' nx => ⟨xs.length - (i + 1), by omega, rfl, nx⟩, fun x H' hy => ?_⟩
    obtain ⟨Wy, rfl, Ny, ry⟩ := yl x H' hy
    refine hgk Wy _ x ρi ρ2 σi _ Ny.ab ry (sli.ext Ai Ny.ext) h3 fun σ2 sl2 _ => ?_
    refine ⟨Wy, ρ2, rfl, Ny.ab, sl2, f2, S4, by rw [Ny.st]; exact e4, fun Wb Nb => ?_⟩
    have lkb : Wb.lk = W1.lk := by rw [Nb.lk, Ny.lk, li]
    have Eb : Ext W1 Wb := (Ei.trans Ny.ext).trans Nb.ext
    have Nall : ∀ {S''}, Wb.S = S'' → Nxt X.K W S'' Wb := fun h => ⟨h, lkb.trans N.lk, Nb.ab, N.ext.trans Eb⟩
    cases f2 with
    | nx ρ3 => exact fun σ' sl' => ⟨by omega, Wb, ρ3, rfl, Nb.ab, Eb, lkb, sl', by rw [Nb.st]; exact ei⟩
    | ct ρ3 => exact fun σ' sl' => ⟨by omega, Wb, ρ3, rfl, Nb.ab, Eb, lkb, sl', by rw [Nb.st]; exact ei⟩
    | bk ρ3 =>
      obtain ⟨rfl, rfl⟩ := ret_ok (show ret (Fl.nx ρ3) S4 = _ from ei)
      exact k Wb (Nall Nb.st)
    | rt d =>
      obtain ⟨rfl, rfl⟩ := ret_ok (show ret (Fl.rt d) S4 = _ from ei)
      exact k Wb (Nall Nb.st)
  · refine .inl ⟨w2 (by omega), ?_⟩
    rw [List.drop_eq_nil_of_le (by omega)] at ei
    obtain ⟨rfl, hS⟩ := ret_ok (show ret (Fl.nx ρi) Wi.S = _ from ei)
    exact k Wi ⟨hS, li.trans N.lk, Ai, N.ext.trans Ei⟩ σi sli
theorem while_ok {fu : Nat} : ∀ D' σ H, tS X.K (fun ρ => whL nc sa fu ρ) D' σ H → tWhile (tT X.K nc) (tS X.K sa) D' σ H := by
  rintro D' σ H ⟨W, ρ, rfl, A, sl, f, S', e, k⟩
  refine ⟨fun n σ H => ∃ (Wi : Wd) (ρi : Env), Wi.H = H ∧ Abs X.K Wi ∧ Ext W Wi ∧ Wi.lk = W.lk ∧ Sl X.K Wi ρi σ ∧ whL nc sa n ρi Wi.S = .ok f S',
    ⟨fu, W, ρ, rfl, A, Ext.refl _, rfl, sl, e⟩, ?_⟩
  rintro n σi H ⟨Wi, ρi, rfl, Ai, Ei, li, sli, ei⟩
  cases n with
  | zero => cases ei
  | succ n =>
    simp only [whL] at ei
    obtain ⟨kk, S2, e2, ei⟩ := bnd_ok ei
    refine ⟨Wi, ρi, rfl, Ai, sli, kk, S2, e2, fun W2 N2 => ?_⟩
    have E2 := Ei.trans N2.ext
    have l2 : W2.lk = W.lk := by rw [N2.lk, li]
    cases kk with
    | true =>
      simp only [if_true] at ei ⊢
      obtain ⟨f2, S4, e4, ei⟩ := bnd_ok ei
      refine ⟨fun σ' H' => ∃ (Wi : Wd) (ρi : Env), Wi.H = H' ∧ Abs X.K Wi ∧ Ext W Wi ∧ Wi.lk = W.lk ∧ Sl X.K Wi ρi σ' ∧ whL nc sa n ρi Wi.S = .ok f S', fun σ' H' nx => ⟨n, by omega, nx⟩, ?_⟩
      refine ⟨W2, ρi, rfl, N2.ab, sli.ext Ai N2.ext, f2, S4, by rw [N2.st]; exact e4, fun Wb Nb => ?_⟩
      have lkb : Wb.lk = W.lk := by rw [Nb.lk, l2]
      have Eb := E2.trans Nb.ext
      have Nall : ∀ {S''}, Wb.S = S'' → Nxt X.K W S'' Wb := fun h => ⟨h, lkb, Nb.ab, Eb⟩
      cases f2 with
      | nx ρ3 => exact fun σ' sl' => ⟨Wb, ρ3, rfl, Nb.ab, Eb, lkb, sl', by rw [Nb.st]; exact ei⟩
      | ct ρ3 => exact fun σ' sl' => ⟨Wb, ρ3, rfl, Nb.ab, Eb, lkb, sl', by rw [Nb.st]; exact ei⟩
      | bk ρ3 =>
        obtain ⟨rfl, rfl⟩ := ret_ok (show ret (Fl.nx ρ3) S4 = _ from ei)
        exact k Wb (Nall Nb.st)
      | rt d =>
        obtain ⟨rfl, rfl⟩ := ret_ok (show ret (Fl.rt d) S4 = _ from ei)
        exact k Wb (Nall Nb.st)
    | false =>
      simp only [Bool.false_eq_true, if_false] at ei ⊢
      obtain ⟨rfl, hS⟩ := ret_ok ei
      exact k W2 ⟨N2.st.trans hS, l2, N2.ab, E2⟩ σi (sli.ext Ai N2.ext)
end
end AG
namespace AG
open PySem PySem.Spec PyProof.Rows L2
/-! ### a def's word, where no text is being shown further out -/
structure FnG (P : Program) (w : World) (K : PySem.W.Frag) (mg : Str → Option Value) (base : Heap) (k : Nat) (f : Addr) (fd : FuncData) (ps : List Str) (sp : Sp) : Prop where
  arity : ∀ vs H Q E, sp vs H Q E → vs.length = ps.length
  go : ∀ (A : Around) (outer : List PySem.Env) (s : Shared) (H : Hp) (args : Args) (us : List Value) (vs : List V) (Q : VK) (E : XK),
    A.guards = some [] → Room k A → Env0 P w K mg base A outer s H → BindsTo s fd args (ps.zip us) → Vals vs us → sp vs H Q E →
    codeAny (model P w) A (.call (.ref f) args) (CR CX0 outer P w H s Q E) s
theorem FnG.up {P : Program} {w : World} {K : PySem.W.Frag} {mg : Str → Option Value} {base : Heap} {j k : Nat} {f : Addr} {fd : FuncData} {ps : List Str} {sp : Sp} (F : FnG P w K mg base j f fd ps sp) (h : j ≤ k) : FnG P w K mg base k f fd ps sp :=
  ⟨F.arity, fun A outer s H args us vs Q E g r => F.go A outer s H args us vs Q E g (r.mono h)⟩
/-- a def as it is called by so many written values: what is bound, and its defaults, is behind -/
structure FnW (P : Program) (w : World) (K : PySem.W.Frag) (mg : Str → Option Value) (base : Heap) (k : Nat) (f : Addr) (sp : Sp) : Prop where
  go : ∀ (A : Around) (outer : List PySem.Env) (s : Shared) (H : Hp) (us : List Value) (vs : List V) (Q : VK) (E : XK),
    A.guards = some [] → Room k A → Env0 P w K mg base A outer s H → K.In s.heap → Vals vs us → sp vs H Q E →
    codeAny (model P w) A (.call (.ref f) ⟨us, []⟩) (CR CX0 outer P w H s Q E) s
theorem FnG.word {P : Program} {w : World} {K : PySem.W.Frag} {mg : Str → Option Value} {base : Heap} {k : Nat} {f : Addr} {fd : FuncData} {ps : List Str} {sp sp' : Sp} {es : List Value} {des : List V} (F : FnG P w K mg base k f fd ps sp) (hb : Binds K fd ps es) (hd : Vals des es)
    (h : ∀ vs H Q E, sp' vs H Q E → sp (vs ++ des) H Q E) : FnW P w K mg base k f sp' :=
  ⟨fun A outer s H us vs Q E g r e kin rv hq => F.go A outer s H ⟨us, []⟩ (us ++ es) (vs ++ des) Q E g r e (hb s us kin (by rw [← (rv.append hd).length]; exact F.arity _ _ _ _ (h _ _ _ _ hq))) (rv.append hd) (h _ _ _ _ hq)⟩
structure FunA (K : PySem.W.Frag) (x qual : Str) (st : Stmt) (f : Addr) (fd : FuncData) : Prop where
  ex : ∃ (oc : Value) (od : Option Addr) (dV kV doc pm : Value) (an : Option Addr) (cdv ct : Value) (osl : Array (Option Value)),
    fd = PySem.W.fnOf x qual (defArgs st) (defBody st) (defScope st) dV kV doc pm an cdv ct ∧ K.lookup f = some ⟨oc, od, .func fd, osl⟩ ∧ PySem.W.codeIn K cdv qual = true
section
variable {X : Cx} {k : Nat} {f : Addr} {sp : Sp} {x : Str} {p pos : Pos} {e : Expr} {es : List Expr} {t : TA}
theorem g_run {pins : List (Addr × Obj)} {σ : L2.St} {H : Hp} {s : Shared} {Q : VK} {us : List Value} {vs : List V} (F : FnW X.prog X.w X.K X.mg X.base k f sp)
    (hg : X.A.guards = some []) (hr : Room k X.A) (I : Inv X pins σ H s) (r : Vals vs us) (h : sp vs H Q E0) :
    wpAny (model X.prog X.w) X.A (call (.ref f) us) (EP X pins σ Q) X.xe s := by
  refine wpAny_call (codeAny_mono (F.go X.A X.stack s H us vs Q E0 hg hr I.env0 I.kIn r h) ?_)
  intro res s' hq
  match res, hq with
  | .error _, hq => exact hq.elim
  | .ok (.ret u), hq => exact I.after hq
  | .ok .next, hq => exact hq.elim
  | .ok .brk, hq => exact hq.elim
  | .ok .cont, hq => exact hq.elim
def tCallG (sp : Sp) (t : TA) : TE := fun σ H Q => t σ H fun vs H1 => sp vs H1 Q E0
theorem g_call (F : FnW X.prog X.w X.K X.mg X.base k f sp) (hgd : X.A.guards = some []) (hr : Room k X.A) (hg : Gl X x) (hm : X.mg x = some (.ref f))
    (hk : PySem.W.keepIn X.K (.ref f) = true) (ha : PA X (e :: es) t) (hdb : (x == ("__debug__" : Str)) = false)
    (he : starEach (e :: es) X.env = (false, eval e X.env) :: starEach es X.env) (hpl : (backTo pos (starEach es X.env)).any (·.1) = false) :
    PE X (.Call (.Name x p) (e :: es) [] pos) (tCallG sp t) := by
  constructor
  intro pins s σ H Q I h
  apply wpAny_Call_Name_kw
  refine ld_glob I hg hm ?_ hdb
  refine PySem.W.callWith_K (h₀ := X.base) I.ok.mod.kin hk ?_ he hpl
  refine thn (ha.run pos pins s σ H _ I h) ?_
  rintro us s1 ⟨vs, H1, I1, r, q⟩
  exact ⟨I1.kIn, g_run F hgd hr I1 r q⟩
theorem g_call0 (F : FnW X.prog X.w X.K X.mg X.base k f sp) (hgd : X.A.guards = some []) (hr : Room k X.A) (hg : Gl X x) (hm : X.mg x = some (.ref f))
    (hk : PySem.W.keepIn X.K (.ref f) = true) (hdb : (x == ("__debug__" : Str)) = false) :
    PE X (.Call (.Name x p) [] [] pos) (tCallG sp tNil) := by
  constructor
  intro pins s σ H Q I h
  apply wpAny_Call_Name_kw
  refine ld_glob I hg hm ?_ hdb
  exact PySem.W.callWith_K0 I.kIn hk (g_run (us := []) F hgd hr I .nil h)
end
/-- a def of the text keeps its word, by its body -/
theorem g_fn {P : Program} {w : World} {K : PySem.W.Frag} {mg : Str → Option Value} {base : Heap} {x qual : Str} {st : Stmt} {f : Addr} {fd : FuncData} {N ps : List Str} {k : Nat} {sp : Sp} (F : FunA K x qual st f fd) (S : FnScope N ps (defScope st))
    (arity : ∀ vs H Q E, sp vs H Q E → vs.length = ps.length)
    (body : ∀ (cdv : Value) (A : Around) (outer : List PySem.Env) (s : Shared) (H : Hp) (vs : List V) (Q : VK) (E : XK), A.guards = some [] → Room k (A.deeper (envOfC qual (defScope st) s.heap.objs.size f cdv)) → sp vs H Q E →
      ∃ t, PSs (cxOf CX0 P w K mg base N qual (defScope st) f cdv A outer s H E).nox (defBody st) t ∧ t { nx := fun _ H' => Q .non H', rt := Q } (start N vs) H) :
    FnG P w K mg base (k + 1) f fd ps sp := by
  obtain ⟨oc, od, dV, kV, doc, pm, an, cdv, ct, osl, rfl, lk, hcd⟩ := F.ex
  refine ⟨arity, ?_⟩
  intro A outer s H args us vs Q E hgd hr e0 hb rv hsp
  have nn := arity _ _ _ _ hsp
  have up : ∀ b o, base.get? b = some o → s.heap.get? b = some o := fun b o e => (e0.bs b o e).1
  have kin : K.In s.heap := e0.mod.kin.keeps up
  have kinds : ∀ y ∈ ps.zip us, (defScope st).names.lookup y.1 = some .local ∨
      ((defScope st).names.lookup y.1 = some .cell ∧ ((cellsFrom (s.heap.objs.size + 1) (defScope st).names []).lookup y.1).isSome = true) := by
    rintro ⟨n, v⟩ hy
    have hn : n ∈ ps := (List.of_mem_zip hy).1
    rcases S.par n hn with q | q
    · exact Or.inl q
    · exact Or.inr ⟨q, PySem.W.cellsFrom_some _ _ _ (Or.inl q)⟩
  refine codeAny_call_function hr.depth (kin _ _ lk) rfl S.co S.gen rfl (PySem.W.codeRec_of kin hcd) (hb _ _ _ _ ?_)
  refine wpAny_newFunctionEnv_cells S.kind kinds ?_
  intro env he s1 inside
  subst he
  refine ⟨(e0.mod.nolimit.keeps up).keeps inside.toInCall.keep, codeAny_func ?_⟩
  obtain ⟨t, ht, hq⟩ := body cdv A outer s H vs Q E hgd (hr.deeper _) hsp
  have I0 := inv_start (CX := CX0) (f := f) (cd := cdv) (qual := qual) (E := E) S hr.hd e0 nn rv inside
  have main := ht.nox.run [] s1 (start N vs) H _ I0 hq
  refine wpAny_mono main ?_ (fun _ _ z => z)
  intro fl s' hs
  have out : ∀ {σ' : L2.St} {H' : Hp} {v : V} {u : Value}, Inv (cxOf CX0 P w K mg base N qual (defScope st) f cdv A outer s H E) [] σ' H' s' → RelV v u → Q v H' → CE outer P w H s Q u s' := by
    intro σ' H' v u J r q
    exact ⟨v, H', J.os, J.bare, J.base, J.hok, r, q⟩
  match fl, hs with
  | .ret u, ⟨v, σ', H', J, r, q⟩ => exact out J r q
  | .next, ⟨σ', H', J, q⟩ => exact out (v := V.non) (u := Value.none) J rfl q
  | .brk, ⟨_, _, _, q⟩ => exact q.elim
  | .cont, ⟨_, _, _, q⟩ => exact q.elim
/-- the meaning of a def as its word -/
def spF (K : PySem.W.Frag) (n : Nat) (F : List D → M D) : Sp := fun vs H Q _ => vs.length = n ∧ ∃ (W : Wd) (ds : List D), W.H = H ∧ Abs K W ∧ Reps K W ds vs ∧ ∃ d S', F ds W.S = .ok d S' ∧ ∀ W' v, Nxt K W S' W' → Rep K W' d v → Q v W'.H
theorem f_call {K : PySem.W.Frag} {n : Nat} {F : List D → M D} {ms : Env → M (List D)} (hn : ∀ (ρ : Env) (S : Sto) (xs : List D) (S' : Sto), ms ρ S = .ok xs S' → xs.length = n) : ∀ σ H Q, tI K (fun ρ => bnd (ms ρ) F) σ H Q → tCallG (spF K n F) (tAs K ms) σ H Q := by
  rintro σ H Q ⟨W, ρ, rfl, A, sl, d, S', e, k⟩
  obtain ⟨ds, S1, e1, e⟩ := bnd_ok e
  refine ⟨W, ρ, rfl, A, sl, ds, S1, e1, fun W1 vs N1 r1 => ?_⟩
  exact ⟨by rw [reps_len _ _ r1]; exact hn _ _ _ _ e1, W1, ds, rfl, N1.ab, r1, d, S', by rw [N1.st]; exact e, fun W2 v N2 r2 => k W2 v (N1.trans N2) r2⟩
end AG
namespace AG
open PySem PySem.Spec PyProof.Rows L2
/-! ### dicts and objects, by data -/
theorem Nxt.self {K : PySem.W.Frag} {W W1 : Wd} {S : Sto} (N : Nxt K W S W1) : Nxt K W W1.S W1 := ⟨rfl, N.lk, N.ab, N.ext⟩
def kyV : Ky → Option Key
  | .i i => some (.inl i)
  | .s s => some (.inr s)
  | .t _ => none
theorem kK_cons {k : Ky} {ks : List Ky} {l : List Key} (h : kK (k :: ks) = some l) : ∃ x r, kyV k = some x ∧ kK ks = some r ∧ l = x :: r := by
  cases k with
  | i i =>
    simp only [kK] at h
    obtain ⟨r, h1, rfl⟩ := Option.map_eq_some_iff.mp h
    exact ⟨_, r, rfl, h1, rfl⟩
  | s s =>
    simp only [kK] at h
    obtain ⟨r, h1, rfl⟩ := Option.map_eq_some_iff.mp h
    exact ⟨_, r, rfl, h1, rfl⟩
  | t is => cases h
theorem kT_cons {k : Ky} {ks : List Ky} {l : List (List Key)} (h : kT (k :: ks) = some l) : ∃ is r, k = .t is ∧ kT ks = some r ∧ l = is.map Sum.inl :: r := by
  cases k with
  | t is =>
    simp only [kT] at h
    obtain ⟨r, h1, rfl⟩ := Option.map_eq_some_iff.mp h
    exact ⟨is, r, rfl, h1, rfl⟩
  | _ => cases h
theorem kS_cons {k : Ky} {ks : List Ky} {l : List Str} (h : kS (k :: ks) = some l) : ∃ s r, k = .s s ∧ kS ks = some r ∧ l = s :: r := by
  cases k with
  | s s =>
    simp only [kS] at h
    obtain ⟨r, h1, rfl⟩ := Option.map_eq_some_iff.mp h
    exact ⟨s, r, rfl, h1, rfl⟩
  | _ => cases h
theorem kyV_inj {a b : Ky} {x y : Key} (ha : kyV a = some x) (hb : kyV b = some y) : a = b ↔ x = y := by
  cases a <;> cases b <;> simp only [kyV, Option.some.injEq, reduceCtorEq] at ha hb <;> subst ha hb <;> simp
theorem inl_inj {a b : List Int} : a = b ↔ a.map (Sum.inl : Int → Key) = b.map Sum.inl := by
  constructor
  · intro h; rw [h]
  · intro h
    induction a generalizing b with
    | nil => cases b with
      | nil => rfl
      | cons _ _ => cases h
    | cons x xs ih => cases b with
      | nil => cases h
      | cons y ys =>
        simp only [List.map_cons, List.cons.injEq, Sum.inl.injEq] at h
        rw [h.1, ih h.2]
/-- what is found in a dict -/
def DR (K : PySem.W.Frag) (W : Wd) (o : Option D) (r : Option V) : Prop := match o, r with
  | some d, some v => Rep K W d v
  | none, none => True
  | _, _ => False
theorem look_K {K : PySem.W.Frag} {W : Wd} {q : Ky} {y : Key} (hq : kyV q = some y) : ∀ (ks : List Ky) (ds : List D) (us : List V) (l : List Key), kK ks = some l → us.length = ks.length → Reps K W ds us → DR K W (lookY ks ds q) (valV (l.zip us) y)
  | [], ds, us, l, h, hl, r => by
    cases h
    have : us = [] := List.eq_nil_of_length_eq_zero hl
    subst this
    cases ds <;> exact trivial
  | k :: ks, ds, us, l, h, hl, r => by
    obtain ⟨x, l', h1, h2, rfl⟩ := kK_cons h
    cases ds with
    | nil => simp only [Reps] at r; subst r; cases hl
    | cons d ds =>
      simp only [Reps] at r
      obtain ⟨v, us', rfl, r1, r2⟩ := r
      rw [List.zip_cons_cons]
      simp only [lookY]
      by_cases e : k = q
      · rw [if_pos e, valV_pos (show x = y from (kyV_inj h1 hq).mp e)]
        exact r1
      · rw [if_neg e, valV_neg (show ¬ x = y from fun z => e ((kyV_inj h1 hq).mpr z))]
        exact look_K hq ks ds us' l' h2 (by simpa using hl) r2
theorem look_T {K : PySem.W.Frag} {W : Wd} {is : List Int} : ∀ (ks : List Ky) (ds : List D) (us : List V) (l : List (List Key)), kT ks = some l → us.length = ks.length → Reps K W ds us → DR K W (lookY ks ds (.t is)) (valV (l.zip us) (is.map Sum.inl))
  | [], ds, us, l, h, hl, r => by
    cases h
    have : us = [] := List.eq_nil_of_length_eq_zero hl
    subst this
    cases ds <;> exact trivial
  | k :: ks, ds, us, l, h, hl, r => by
    obtain ⟨js, l', rfl, h2, rfl⟩ := kT_cons h
    cases ds with
    | nil => simp only [Reps] at r; subst r; cases hl
    | cons d ds =>
      simp only [Reps] at r
      obtain ⟨v, us', rfl, r1, r2⟩ := r
      rw [List.zip_cons_cons]
      simp only [lookY]
      by_cases e : js = is
      · subst e
        rw [if_pos rfl, valV_pos rfl]
        exact r1
      · rw [if_neg (fun z => e (by cases z; rfl)), valV_neg (show ¬ js.map Sum.inl = is.map Sum.inl from fun z => e (inl_inj.mpr z))]
        exact look_T ks ds us' l' h2 (by simpa using hl) r2
theorem look_S {K : PySem.W.Frag} {W : Wd} {f : Str} : ∀ (ks : List Ky) (ds : List D) (us : List V) (l : List Str), kS ks = some l → us.length = ks.length → Reps K W ds us → DR K W (lookY ks ds (.s f)) ((l.zip us).lookup f)
  | [], ds, us, l, h, hl, r => by
    cases h
    have : us = [] := List.eq_nil_of_length_eq_zero hl
    subst this
    cases ds <;> exact trivial
  | k :: ks, ds, us, l, h, hl, r => by
    obtain ⟨g, l', rfl, h2, rfl⟩ := kS_cons h
    cases ds with
    | nil => simp only [Reps] at r; subst r; cases hl
    | cons d ds =>
      simp only [Reps] at r
      obtain ⟨v, us', rfl, r1, r2⟩ := r
      rw [List.zip_cons_cons]
      simp only [lookY, List.lookup]
      by_cases e : g = f
      · subst e
        rw [if_pos rfl, beq_self_eq_true]
        exact r1
      · rw [if_neg (fun z => e (by cases z; rfl)), beq_eq_false_iff_ne.mpr (Ne.symm e)]
        exact look_S ks ds us' l' h2 (by simpa using hl) r2
theorem kK_mem {q : Ky} {y : Key} (hq : kyV q = some y) : ∀ (ks : List Ky) (l : List Key), kK ks = some l → (q ∈ ks ↔ y ∈ l)
  | [], l, h => by cases h; simp
  | k :: ks, l, h => by
    obtain ⟨x, l', h1, h2, rfl⟩ := kK_cons h
    rw [List.mem_cons, List.mem_cons, kK_mem hq ks l' h2]
    constructor
    · rintro (z | z)
      · exact .inl ((kyV_inj hq h1).mp z)
      · exact .inr z
    · rintro (z | z)
      · exact .inl ((kyV_inj hq h1).mpr z)
      · exact .inr z
theorem kT_mem {is : List Int} : ∀ (ks : List Ky) (l : List (List Key)), kT ks = some l → (Ky.t is ∈ ks ↔ is.map Sum.inl ∈ l)
  | [], l, h => by cases h; simp
  | k :: ks, l, h => by
    obtain ⟨js, l', rfl, h2, rfl⟩ := kT_cons h
    rw [List.mem_cons, List.mem_cons, kT_mem ks l' h2]
    constructor
    · rintro (z | z)
      · cases z; exact .inl rfl
      · exact .inr z
    · rintro (z | z)
      · exact .inl (by rw [inl_inj.mpr z])
      · exact .inr z
theorem kK_app {q : Ky} {y : Key} (hq : kyV q = some y) : ∀ (ks : List Ky) (l : List Key), kK ks = some l → kK (ks ++ [q]) = some (l ++ [y])
  | [], l, h => by
    cases h
    cases q <;> simp only [kyV, Option.some.injEq, reduceCtorEq] at hq <;> subst hq <;> rfl
  | k :: ks, l, h => by
    obtain ⟨x, l', h1, h2, rfl⟩ := kK_cons h
    have ih := kK_app hq ks l' h2
    cases k <;> simp only [kyV, Option.some.injEq, reduceCtorEq] at h1 <;> subst h1 <;> simp only [List.cons_append, kK, ih, Option.map_some]
theorem kT_app {is : List Int} : ∀ (ks : List Ky) (l : List (List Key)), kT ks = some l → kT (ks ++ [.t is]) = some (l ++ [is.map Sum.inl])
  | [], l, h => by cases h; rfl
  | k :: ks, l, h => by
    obtain ⟨js, l', rfl, h2, rfl⟩ := kT_cons h
    simp only [List.cons_append, kT, kT_app ks l' h2, Option.map_some]
theorem kK_len : ∀ (ks : List Ky) (l : List Key), kK ks = some l → l.length = ks.length
  | [], l, h => by cases h; rfl
  | k :: ks, l, h => by
    obtain ⟨x, l', h1, h2, rfl⟩ := kK_cons h
    rw [List.length_cons, List.length_cons, kK_len ks l' h2]
theorem kT_len : ∀ (ks : List Ky) (l : List (List Key)), kT ks = some l → l.length = ks.length
  | [], l, h => by cases h; rfl
  | k :: ks, l, h => by
    obtain ⟨js, l', rfl, h2, rfl⟩ := kT_cons h
    rw [List.length_cons, List.length_cons, kT_len ks l' h2]
theorem kS_len : ∀ (ks : List Ky) (l : List Str), kS ks = some l → l.length = ks.length
  | [], l, h => by cases h; rfl
  | k :: ks, l, h => by
    obtain ⟨js, l', rfl, h2, rfl⟩ := kS_cons h
    rw [List.length_cons, List.length_cons, kS_len ks l' h2]
theorem zip_any {κ : Type} [DecidableEq κ] {y : κ} : ∀ (l : List κ) (us : List V), us.length = l.length → ((l.zip us).any fun kv => decide (kv.1 = y)) = decide (y ∈ l)
  | [], us, h => by simp
  | x :: l, [], h => by cases h
  | x :: l, u :: us, h => by
    rw [List.zip_cons_cons, List.any_cons, zip_any l us (by simpa using h)]
    by_cases e : x = y
    · subst e; simp
    · simp [e, Ne.symm e]
theorem zip_anyT {κ : Type} [DecidableEq κ] {y : κ} {l : List κ} {us : List V} (h : us.length = l.length) (hm : y ∈ l) : ((l.zip us).any fun kv => decide (kv.1 = y)) = true := by rw [zip_any l us h]; exact decide_eq_true hm
theorem zip_anyF {κ : Type} [DecidableEq κ] {y : κ} {l : List κ} {us : List V} (h : us.length = l.length) (hm : ¬ y ∈ l) : ¬ ((l.zip us).any fun kv => decide (kv.1 = y)) = true := by rw [zip_any l us h, decide_eq_false hm]; exact Bool.false_ne_true
/-- the values where the key's is set -/
def setV {κ : Type} [DecidableEq κ] (l : List κ) (us : List V) (y : κ) (w : V) : List V := (l.zip us).map fun kv => if kv.1 = y then w else kv.2
theorem zip_set {κ : Type} [DecidableEq κ] {y : κ} {w : V} : ∀ (l : List κ) (us : List V), us.length = l.length → (l.zip us).map (fun kv => if kv.1 = y then (kv.1, w) else kv) = l.zip (setV l us y w) ∧ (setV l us y w).length = l.length
  | [], us, h => by simp [setV]
  | x :: l, [], h => by cases h
  | x :: l, u :: us, h => by
    obtain ⟨h1, h2⟩ := zip_set (y := y) (w := w) l us (by simpa using h)
    have e : setV (x :: l) (u :: us) y w = (if x = y then w else u) :: setV l us y w := by simp [setV]
    rw [e, List.zip_cons_cons, List.map_cons, h1, List.zip_cons_cons]
    refine ⟨?_, by rw [List.length_cons, h2, List.length_cons]⟩
    by_cases q : x = y
    · simp [q]
    · simp [q]
theorem set_K {K : PySem.W.Frag} {W : Wd} {q : Ky} {y : Key} (hq : kyV q = some y) {w : D} {u : V} (rw' : Rep K W w u) : ∀ (ks : List Ky) (ds : List D) (us : List V) (l : List Key), kK ks = some l → us.length = ks.length → Reps K W ds us → Reps K W (setY ks ds q w) (setV l us y u)
  | [], ds, us, l, h, hl, r => by
    cases h
    have : us = [] := List.eq_nil_of_length_eq_zero hl
    subst this
    cases ds <;> simp [setY, setV, Reps]
  | k :: ks, ds, us, l, h, hl, r => by
    obtain ⟨x, l', h1, h2, rfl⟩ := kK_cons h
    cases ds with
    | nil => simp only [Reps] at r; subst r; cases hl
    | cons d ds =>
      simp only [Reps] at r
      obtain ⟨v, us', rfl, r1, r2⟩ := r
      have e : setV (x :: l') (v :: us') y u = (if x = y then u else v) :: setV l' us' y u := by simp [setV]
      rw [e]
      simp only [setY, Reps]
      refine ⟨_, _, rfl, ?_, set_K hq rw' ks ds us' l' h2 (by simpa using hl) r2⟩
      by_cases e : k = q
      · rw [if_pos e, if_pos (show x = y from (kyV_inj h1 hq).mp e)]
        exact rw'
      · rw [if_neg e, if_neg (show ¬ x = y from fun z => e ((kyV_inj h1 hq).mpr z))]
        exact r1
theorem set_T {K : PySem.W.Frag} {W : Wd} {is : List Int} {w : D} {u : V} (rw' : Rep K W w u) : ∀ (ks : List Ky) (ds : List D) (us : List V) (l : List (List Key)), kT ks = some l → us.length = ks.length → Reps K W ds us → Reps K W (setY ks ds (.t is) w) (setV l us (is.map Sum.inl) u)
  | [], ds, us, l, h, hl, r => by
    cases h
    have : us = [] := List.eq_nil_of_length_eq_zero hl
    subst this
    cases ds <;> simp [setY, setV, Reps]
  | k :: ks, ds, us, l, h, hl, r => by
    obtain ⟨js, l', rfl, h2, rfl⟩ := kT_cons h
    cases ds with
    | nil => simp only [Reps] at r; subst r; cases hl
    | cons d ds =>
      simp only [Reps] at r
      obtain ⟨v, us', rfl, r1, r2⟩ := r
      have e : setV (js.map Sum.inl :: l') (v :: us') (is.map Sum.inl) u = (if js.map (Sum.inl : Int → Key) = is.map Sum.inl then u else v) :: setV l' us' (is.map Sum.inl) u := by simp only [setV, List.zip_cons_cons, List.map_cons]
      rw [e]
      simp only [setY, Reps]
      refine ⟨_, _, rfl, ?_, set_T rw' ks ds us' l' h2 (by simpa using hl) r2⟩
      by_cases e : js = is
      · subst e
        rw [if_pos rfl, if_pos rfl]
        exact rw'
      · rw [if_neg (fun z => e (by cases z; rfl)), if_neg (show ¬ js.map Sum.inl = is.map Sum.inl from fun z => e (inl_inj.mpr z))]
        exact r1
theorem put_F {K : PySem.W.Frag} {W : Wd} {f : Str} {w : D} {u : V} (rw' : Rep K W w u) : ∀ (ks : List Ky) (ds : List D) (us : List V) (l : List Str), kS ks = some l → us.length = ks.length → Reps K W ds us →
    ∃ l' us', kS (putA ks ds (.s f) w).1 = some l' ∧ us'.length = (putA ks ds (.s f) w).1.length ∧ L2.putF f u (l.zip us) = l'.zip us' ∧ Reps K W (putA ks ds (.s f) w).2 us'
  | [], ds, us, l, h, hl, r => by
    cases h
    have : us = [] := List.eq_nil_of_length_eq_zero hl
    subst this
    cases ds with
    | nil => exact ⟨[f], [u], rfl, rfl, rfl, reps_one rw'⟩
    | cons _ _ => simp only [Reps] at r; obtain ⟨_, _, z, _⟩ := r; cases z
  | k :: ks, ds, us, l, h, hl, r => by
    obtain ⟨g, l', rfl, h2, rfl⟩ := kS_cons h
    cases ds with
    | nil => simp only [Reps] at r; subst r; cases hl
    | cons d ds =>
      simp only [Reps] at r
      obtain ⟨v, us', rfl, r1, r2⟩ := r
      rw [List.zip_cons_cons]
      by_cases e : g = f
      · subst e
        simp only [putA, if_true, L2.putF]
        refine ⟨g :: l', u :: us', by simp only [kS, h2, Option.map_some], by simpa using hl, rfl, ?_⟩
        simp only [Reps]
        exact ⟨u, us', rfl, rw', r2⟩
      · obtain ⟨l2, us2, q1, q2, q3, q4⟩ := put_F rw' ks ds us' l' h2 (by simpa using hl) r2 (f := f)
        have e2 : ¬ Ky.s g = .s f := fun z => e (by cases z; rfl)
        simp only [putA, if_neg e2, L2.putF, if_neg e]
        refine ⟨g :: l2, v :: us2, by simp only [kS, q1, Option.map_some], by simp only [List.length_cons, q2], by rw [q3]; rfl, ?_⟩
        simp only [Reps]
        exact ⟨v, us2, rfl, r1, q4⟩
theorem putF_len {f : Str} {u : V} : ∀ fs : List (Str × V), (L2.putF f u fs).length ≤ fs.length + 1
  | [] => by simp [L2.putF]
  | (g, x) :: r => by
    simp only [L2.putF]
    split
    · simp
    · have := putF_len (f := f) (u := u) r
      simp only [List.length_cons]
      omega
/-- a dict's place -/
theorem dicD_ok {K : PySem.W.Frag} {W : Wd} (A : Abs K W) {x : D} {v : V} {S' : Sto} {p : Bool × List Ky × List D} (r : Rep K W x v) (e : dicD x W.S = .ok p S') :
    S' = W.S ∧ ∃ a us o, v = .ref a ∧ W.H a = some o ∧ us.length = p.2.1.length ∧ dicO p.1 p.2.1 us = some o ∧ Reps K W p.2.2 us := by
  unfold dicD at e
  split at e
  · rename_i t k
    obtain ⟨q, S1, e1, e⟩ := bnd_ok e
    obtain ⟨c, e⟩ := need_ok e
    obtain ⟨rfl, rfl⟩ := ret_ok e
    unfold getK at e1
    obtain ⟨xs, S2, e2, e1⟩ := bnd_ok e1
    unfold getC at e2
    split at e2
    · rename_i ys hk
      cases e2
      split at e1
      · obtain ⟨rfl, rfl⟩ := ret_ok e1
        obtain ⟨a, kd, ds, us, o, h1, h2, h3, h4⟩ := A.cell k _ hk
        simp only [Rep] at r
        obtain ⟨b, rfl, h5⟩ := r
        rw [h1] at h5
        cases h5
        obtain ⟨ks', z, h6, h7⟩ := h3
        cases z
        exact ⟨rfl, a, us, o, rfl, h2, h6, h7, h4⟩
      · cases e1
    · cases e2
  · obtain ⟨rfl, rfl⟩ := ret_ok e
    simp only [Rep] at r
    obtain ⟨a, us, o, rfl, h1, h2, h3, _, h4⟩ := r
    exact ⟨rfl, a, us, o, rfl, h1, h2, h3, h4⟩
  · cases e
theorem keyI_ok {K : PySem.W.Frag} {W : Wd} : ∀ (xs : List D) (vs : List V) (l : List Int), keyI xs = some l → Reps K W xs vs → vs = (l.map (Sum.inl : Int → Key)).map kV
  | [], vs, l, e, r => by cases e; simp only [Reps] at r; subst r; rfl
  | x :: xs, vs, l, e, r => by
    cases x with
    | int i =>
      simp only [keyI] at e
      cases q : keyI xs with
      | none => rw [q] at e; cases e
      | some l' =>
        rw [q] at e
        cases e
        simp only [Reps] at r
        obtain ⟨v, us, rfl, h1, h2⟩ := r
        rw [rep_int h1, keyI_ok xs us l' q h2]
        rfl
    | _ => cases e
/-- what stands at a key -/
theorem dget_ok {K : PySem.W.Frag} {W : Wd} {t : Bool} {ks : List Ky} {ds : List D} {us : List V} {o : HO} {a : Addr} {y : D} {w : V} {q : Ky} (hH : W.H a = some o) (hl : us.length = ks.length) (hd : dicO t ks us = some o) (r : Reps K W ds us)
    (ry : Rep K W y w) (hq : keyD y = some q) (ht : q.isT = t) : ∃ ro, DGet W.H a w ro ∧ DR K W (lookY ks ds q) ro := by
  unfold keyD at hq
  split at hq
  · cases hq
    cases ht
    obtain ⟨l, h1, rfl⟩ := dicO_K hd
    rw [rep_int ry]
    exact ⟨_, DGet.k (k := .inl _) hH, look_K rfl ks ds us l h1 hl r⟩
  · cases hq
    cases ht
    obtain ⟨l, h1, rfl⟩ := dicO_K hd
    simp only [Rep] at ry
    subst ry
    exact ⟨_, DGet.k (k := .inr _) hH, look_K rfl ks ds us l h1 hl r⟩
  · rename_i xs
    cases hk : keyI xs with
    | none => rw [hk] at hq; cases hq
    | some l =>
      rw [hk] at hq
      cases hq
      cases ht
      obtain ⟨l', h1, rfl⟩ := dicO_T hd
      simp only [Rep] at ry
      obtain ⟨b, vs, rfl, hb, rv⟩ := ry
      rw [keyI_ok xs vs l hk rv] at hb
      exact ⟨_, DGet.t hH hb, look_T ks ds us l' h1 hl r⟩
  · cases hq
section
variable {X : Cx} {a b e : Expr} {pos pos' : Pos} {ma mb me : Env → M D}
theorem s_dget (hu : X.A.units + 1 < cLine) (ha : PE X a (tI X.K ma)) (hb : PE X b (tI X.K mb)) (hs : NoSl b) : PE X (.Subscript a b pos) (tI X.K fun ρ => bnd (ma ρ) fun x => bnd (mb ρ) fun y => dgetD x y) := by
  refine (pe_dget hu ha hb hs).weak ?_
  rintro σ H Q ⟨W, ρ, rfl, A, sl, d, S', e, k⟩
  obtain ⟨x, S1, e1, e⟩ := bnd_ok e
  obtain ⟨y, S2, e2, e⟩ := bnd_ok e
  refine ⟨W, ρ, rfl, A, sl, x, S1, e1, fun W1 v1 N1 r1 => ?_⟩
  refine ⟨W1, ρ, rfl, N1.ab, sl.ext A N1.ext, y, S2, by rw [N1.st]; exact e2, fun W2 v2 N2 r2 => ?_⟩
  unfold dgetD at e
  obtain ⟨p, S3, e3, e⟩ := bnd_ok e
  rw [← N2.st] at e3
  obtain ⟨rfl, c, us, o, rfl, h1, h2, h3, h4⟩ := dicD_ok N2.ab (Rep.ext N1.ab N2.ext _ _ r1) e3
  cases hk : keyD y with
  | none => rw [hk] at e; cases e
  | some q =>
    rw [hk] at e
    obtain ⟨ht, e⟩ := need_ok e
    obtain ⟨e4, rfl⟩ := opt_ok e
    obtain ⟨ro, h5, h6⟩ := dget_ok h1 h2 h3 h4 r2 hk (eq_of_beq ht)
    rw [e4] at h6
    cases ro with
    | none => exact h6.elim
    | some v => exact ⟨c, v, rfl, h5, k W2 v (N1.trans N2).self h6⟩
theorem din_ok {n : Bool} (x y : D) {W : Wd} {v1 v2 : V} {S' : Sto} {d : Bool} (A : Abs X.K W) (r1 : Rep X.K W x v1) (r2 : Rep X.K W y v2) (e : dinD x y W.S = .ok d S') : S' = W.S ∧ ∃ c ro, v1 = .ref c ∧ DGet W.H c v2 ro ∧ ro.isSome = d := by
  unfold dinD at e
  obtain ⟨p, S3, e3, e⟩ := bnd_ok e
  obtain ⟨rfl, c, us, o, rfl, h1, h2, h3, h4⟩ := dicD_ok A r1 e3
  cases hk : keyD y with
  | none => rw [hk] at e; cases e
  | some q =>
    rw [hk] at e
    obtain ⟨ht, e⟩ := need_ok e
    obtain ⟨e4, rfl⟩ := ret_ok e
    obtain ⟨ro, h5, h6⟩ := dget_ok h1 h2 h3 h4 r2 hk (eq_of_beq ht)
    refine ⟨rfl, c, ro, rfl, h5, ?_⟩
    rw [← e4]
    cases hl : lookY p.2.1 p.2.2 q with
    | none =>
      rw [hl] at h6
      cases ro with
      | none => rfl
      | some v => exact h6.elim
    | some d =>
      rw [hl] at h6
      cases ro with
      | none => exact h6.elim
      | some v => rfl
theorem s_din {n : Bool} (hu : X.A.units + 1 < cLine) (ha : PE X a (tI X.K ma)) (hb : PE X b (tI X.K mb)) {op : CmpOp} (hop : op = if n then .NotIn else .In) (hm : behindInMarks op b = false) :
    PE X (.Compare a [op] [b] pos) (tI X.K fun ρ => bnd (ma ρ) fun y => bnd (mb ρ) fun x => bnd (dinD x y) fun k => ret (.bl (k != n))) := by
  cases n with
  | false =>
    subst hop
    refine (pe_cmp (pc_din hu ha hb) hm).weak ?_
    rintro σ H Q ⟨W, ρ, rfl, A, sl, d, S', e, k⟩
    obtain ⟨y, S1, e1, e⟩ := bnd_ok e
    obtain ⟨x, S2, e2, e⟩ := bnd_ok e
    obtain ⟨z, S3, e3, e⟩ := bnd_ok e
    obtain ⟨rfl, rfl⟩ := ret_ok e
    refine ⟨W, ρ, rfl, A, sl, y, S1, e1, fun W1 v1 N1 r1 => ?_⟩
    refine ⟨W1, ρ, rfl, N1.ab, sl.ext A N1.ext, x, S2, by rw [N1.st]; exact e2, fun W2 v2 N2 r2 => ?_⟩
    rw [← N2.st] at e3
    obtain ⟨rfl, c, ro, rfl, h1, h2⟩ := din_ok (n := false) x y N2.ab r2 (Rep.ext N1.ab N2.ext _ _ r1) e3
    refine ⟨c, ro, rfl, h1, ?_⟩
    rw [h2]
    have := k W2 _ (N1.trans N2).self (bl_rep _)
    simpa using this
  | true =>
    subst hop
    refine (pe_cmp (pc_dnotin hu ha hb) hm).weak ?_
    rintro σ H Q ⟨W, ρ, rfl, A, sl, d, S', e, k⟩
    obtain ⟨y, S1, e1, e⟩ := bnd_ok e
    obtain ⟨x, S2, e2, e⟩ := bnd_ok e
    obtain ⟨z, S3, e3, e⟩ := bnd_ok e
    obtain ⟨rfl, rfl⟩ := ret_ok e
    refine ⟨W, ρ, rfl, A, sl, y, S1, e1, fun W1 v1 N1 r1 => ?_⟩
    refine ⟨W1, ρ, rfl, N1.ab, sl.ext A N1.ext, x, S2, by rw [N1.st]; exact e2, fun W2 v2 N2 r2 => ?_⟩
    rw [← N2.st] at e3
    obtain ⟨rfl, c, ro, rfl, h1, h2⟩ := din_ok (n := true) x y N2.ab r2 (Rep.ext N1.ab N2.ext _ _ r1) e3
    refine ⟨c, ro, rfl, h1, ?_⟩
    rw [h2]
    have := k W2 _ (N1.trans N2).self (bl_rep _)
    simpa using this
theorem t_din {n : Bool} (hu : X.A.units + 1 < cLine) (ha : PE X a (tI X.K ma)) (hb : PE X b (tI X.K mb)) {op : CmpOp} (hop : op = if n then .NotIn else .In) (hm : behindInMarks op b = false) :
    PT X (.Compare a [op] [b] pos) (tT X.K fun ρ => bnd (ma ρ) fun y => bnd (mb ρ) fun x => bnd (dinD x y) fun k => ret (k != n)) := by
  cases n with
  | false =>
    subst hop
    refine (pt_cmp (pc_din hu ha hb) hm).weak ?_
    rintro σ H Q ⟨W, ρ, rfl, A, sl, d, S', e, k⟩
    obtain ⟨y, S1, e1, e⟩ := bnd_ok e
    obtain ⟨x, S2, e2, e⟩ := bnd_ok e
    obtain ⟨z, S3, e3, e⟩ := bnd_ok e
    obtain ⟨rfl, rfl⟩ := ret_ok e
    refine ⟨W, ρ, rfl, A, sl, y, S1, e1, fun W1 v1 N1 r1 => ?_⟩
    refine ⟨W1, ρ, rfl, N1.ab, sl.ext A N1.ext, x, S2, by rw [N1.st]; exact e2, fun W2 v2 N2 r2 => ?_⟩
    rw [← N2.st] at e3
    obtain ⟨rfl, c, ro, rfl, h1, h2⟩ := din_ok (n := false) x y N2.ab r2 (Rep.ext N1.ab N2.ext _ _ r1) e3
    refine ⟨c, ro, rfl, h1, _, rfl, ?_⟩
    rw [h2]
    have := k W2 (N1.trans N2).self
    simpa using this
  | true =>
    subst hop
    refine (pt_cmp (pc_dnotin hu ha hb) hm).weak ?_
    rintro σ H Q ⟨W, ρ, rfl, A, sl, d, S', e, k⟩
    obtain ⟨y, S1, e1, e⟩ := bnd_ok e
    obtain ⟨x, S2, e2, e⟩ := bnd_ok e
    obtain ⟨z, S3, e3, e⟩ := bnd_ok e
    obtain ⟨rfl, rfl⟩ := ret_ok e
    refine ⟨W, ρ, rfl, A, sl, y, S1, e1, fun W1 v1 N1 r1 => ?_⟩
    refine ⟨W1, ρ, rfl, N1.ab, sl.ext A N1.ext, x, S2, by rw [N1.st]; exact e2, fun W2 v2 N2 r2 => ?_⟩
    rw [← N2.st] at e3
    obtain ⟨rfl, c, ro, rfl, h1, h2⟩ := din_ok (n := true) x y N2.ab r2 (Rep.ext N1.ab N2.ext _ _ r1) e3
    refine ⟨c, ro, rfl, h1, _, rfl, ?_⟩
    rw [h2]
    have := k W2 (N1.trans N2).self
    simpa using this
theorem s_dnew {t : Bool} : PE X (.Dict [] [] pos) (tI X.K fun _ => newT t) := by
  cases t with
  | false =>
    refine pe_dnewK.weak ?_
    rintro σ H Q ⟨W, ρ, rfl, A, sl, d, S', e, k⟩
    cases e
    intro p hp
    obtain ⟨N, h⟩ := new_cellK A hp (kd := .dic false) (xs := [.dic false [] []]) (ds := []) (us := []) (o := .dK []) ⟨[], rfl, rfl, rfl⟩ (by simp only [Reps])
    exact k _ _ N (by simp only [Rep]; exact ⟨p, rfl, h⟩)
  | true =>
    refine pe_dnewT.weak ?_
    rintro σ H Q ⟨W, ρ, rfl, A, sl, d, S', e, k⟩
    cases e
    intro p hp
    obtain ⟨N, h⟩ := new_cellK A hp (kd := .dic true) (xs := [.dic true [] []]) (ds := []) (us := []) (o := .dT []) ⟨[], rfl, rfl, rfl⟩ (by simp only [Reps])
    exact k _ _ N (by simp only [Rep]; exact ⟨p, rfl, h⟩)
/-- an object's place -/
theorem obj_ok {W : Wd} (A : Abs X.K W) {c : String} {k : Nat} {v : V} {S' : Sto} {p : Bool × List Ky × List D} (r : Rep X.K W (.obj c k) v) (e : getK k W.S = .ok p S') :
    S' = W.S ∧ ∃ a xs us ns C dx, v = .ref a ∧ W.S[k]? = some (some xs) ∧ W.as[k]? = some (a, .obj c) ∧ p.1 = false ∧ kS p.2.1 = some ns ∧ us.length = p.2.1.length ∧ PySem.W.nsIn X.K mainGlobals (Str.ofString c) = some (some (.ref C)) ∧ W.H a = some (.ins C dx (ns.zip us)) ∧ Reps X.K W p.2.2 us := by
  unfold getK at e
  obtain ⟨xs, S2, e2, e1⟩ := bnd_ok e
  unfold getC at e2
  split at e2
  · rename_i ys hk
    cases e2
    obtain ⟨a, kd, ds, us, o, h1, h2, h3, h4⟩ := A.cell k _ hk
    simp only [Rep] at r
    obtain ⟨b, rfl, h5⟩ := r
    rw [h1] at h5
    cases h5
    obtain ⟨ks, ns, C, dx, rfl, h6, h7, h8, rfl⟩ := h3
    obtain ⟨rfl, rfl⟩ := ret_ok (show ret (false, ks, ds) W.S = _ from e1)
    exact ⟨rfl, a, _, us, ns, C, dx, rfl, hk, h1, rfl, h6, h7, h8, h2, h4⟩
  · cases e2
end
end AG
namespace AG
open PySem PySem.Spec PyProof.Rows L2
/-! ### attributes, methods, new objects -/
/-- what super() is not -/
def okBase : Expr → Bool
  | .Call (.Name x _) _ _ _ => !(x == ("super" : Str))
  | _ => true
theorem ab_ok {e : Expr} (h : okBase e = true) (n : Str) (env : PySem.Env) : attributeBase e n env (eval e env) = eval e env := by
  unfold attributeBase
  split
  · rename_i id p pos
    have : (id != ("super" : Str)) = true := h
    rw [this]
    rfl
  · rfl
/-- a written class of the text -/
structure ClsT (K : PySem.W.Frag) (c : String) (C : Addr) : Prop where
  at_ : PySem.W.nsIn K mainGlobals (Str.ofString c) = some (some (.ref C))
  cls : Cls K C
section
variable {X : Cx} {o e value : Expr} {es : List Expr} {f : Str} {pos pos' apos p : Pos} {mo me ma : Env → M D} {ms : Env → M (List D)}
/-- the attribute's name is none of the class -/
def FldOk (K : PySem.W.Frag) (f : Str) : Prop := ∀ c C, PySem.W.nsIn K mainGlobals c = some (some (.ref C)) → Cls K C → NoAttr K C f
theorem s_fld {f : String} {c : String} {C : Addr} (T : ClsT X.K c C) (hn : NoAttr X.K C (Str.ofString f)) (ho : PE X o (tI X.K mo)) (hb : okBase o = true) :
    PE X (.Attribute o (Str.ofString f) pos) (tI X.K fun ρ => bnd (mo ρ) (fldD c f)) := by
  refine (pe_fld ho (ab_ok hb _ _)).weak ?_
  rintro σ H Q ⟨W, ρ, rfl, A, sl, d, S', e, k⟩
  obtain ⟨x, S1, e1, e⟩ := bnd_ok e
  refine ⟨W, ρ, rfl, A, sl, x, S1, e1, fun W1 v N r => ?_⟩
  unfold fldD at e
  split at e
  · rename_i c' kk
    obtain ⟨hc, e⟩ := need_ok e
    obtain ⟨q, S2, e2, e⟩ := bnd_ok e
    obtain ⟨hq, e⟩ := need_ok e
    obtain ⟨e3, rfl⟩ := opt_ok e
    rw [← N.st] at e2
    obtain ⟨rfl, a, xs, us, ns, C', dx, rfl, _, _, _, h1, h2, h3, h4, h5⟩ := obj_ok N.ab r e2
    have hcc := of_decide_eq_true hc
    subst hcc
    rw [T.at_] at h3
    cases h3
    have := look_S (f := Str.ofString f) _ _ us ns h1 h2 h5
    rw [e3] at this
    cases hl : (ns.zip us).lookup (Str.ofString f) with
    | none => rw [hl] at this; exact this.elim
    | some w =>
      rw [hl] at this
      exact ⟨a, C, dx, _, w, rfl, h4, T.cls, hn, hl, k W1 w N.self this⟩
  · cases e
theorem s_setfl {f : String} {c : String} {C : Addr} (T : ClsT X.K c C) (hn : NoAttr X.K C (Str.ofString f)) (ho : PE X o (tI X.K mo)) (he : PE X value (tI X.K me)) (hs : swapsWith value (some (.Attribute o (Str.ofString f) pos')) pos.line X.env = pure false) :
    PS X (.Assign [.Attribute o (Str.ofString f) pos'] value pos) (tS X.K fun ρ => bnd (me ρ) fun v => bnd (mo ρ) fun x => bnd (setflD c f x v) fun _ => ret (.nx ρ)) := by
  refine (ps_fld ho he hs).weak ?_
  rintro D' σ H ⟨W, ρ, rfl, A, sl, fl, S', e, k⟩
  obtain ⟨y, S1, e1, e⟩ := bnd_ok e
  obtain ⟨x, S2, e2, e⟩ := bnd_ok e
  obtain ⟨_, S3, e3, e⟩ := bnd_ok e
  obtain ⟨rfl, rfl⟩ := ret_ok e
  refine ⟨W, ρ, rfl, A, sl, y, S1, e1, fun W1 v1 N1 r1 => ?_⟩
  refine ⟨W1, ρ, rfl, N1.ab, sl.ext A N1.ext, x, S2, by rw [N1.st]; exact e2, fun W2 v2 N2 r2 => ?_⟩
  unfold setflD at e3
  split at e3
  · rename_i c' kk
    obtain ⟨hc, e30⟩ := need_ok e3
    obtain ⟨q, S4, e4, e31⟩ := bnd_ok e30
    obtain ⟨hq, e32⟩ := need_ok e31
    obtain ⟨hq1, hq2⟩ := and2 hq
    rw [← N2.st] at e4
    obtain ⟨rfl, a, xs, us, ns, C', dx, rfl, hk, ha, _, h1, h2, h3, h4, h5⟩ := obj_ok N2.ab r2 e4
    have hcc := of_decide_eq_true hc
    subst hcc
    have h3' := h3
    rw [T.at_] at h3
    cases h3
    have hl100 := of_decide_eq_true hq2
    have hlz : (ns.zip us).length < 1000 := by
      rw [List.length_zip, h2]
      omega
    refine ⟨a, C, dx, _, rfl, h4, T.cls, hn, hlz, ?_⟩
    obtain ⟨l', us', q1, q2, q3, q4⟩ := put_F (f := Str.ofString f) (Rep.ext N1.ab N2.ext _ _ r1) _ _ us ns h1 h2 h5
    have e6 := setC_ok hk e32
    have N3 := set_cellK N2.ab hk ha (kd := .obj c) (xs := [.dic false (putA q.2.1 q.2.2 (.s f) y).1 (putA q.2.1 q.2.2 (.s f) y).2]) (o := .ins C dx (L2.putF (Str.ofString f) v1 (ns.zip us))) ⟨_, l', C, dx, rfl, q1, q2, h3', by rw [q3]⟩ q4
    rw [← e6] at N3
    have E := (N1.ext.trans N2.ext).trans N3.ext
    exact k _ ⟨N3.st, N3.lk.trans (N2.lk.trans N1.lk), N3.ab, E⟩ σ (sl.ext A E)
  · cases e3
theorem dputD_ok {W : Wd} (A : Abs X.K W) {x y w : D} {v1 v2 v3 : V} {S' : Sto} {u : Unit} (r1 : Rep X.K W x v1) (r2 : Rep X.K W y v2) (r3 : Rep X.K W w v3) (e : dputD x y w W.S = .ok u S') :
    ∃ a H4, v1 = .ref a ∧ DPut W.H a v2 v3 H4 ∧ ∃ W', W'.H = H4 ∧ Nxt X.K W S' W' := by
  unfold dputD at e
  split at e
  · rename_i t c
    obtain ⟨p, S3, e3, e⟩ := bnd_ok e
    cases hk : keyD y with
    | none => rw [hk] at e; cases e
    | some q =>
      rw [hk] at e
      obtain ⟨hc, e0⟩ := need_ok e
      obtain ⟨hc1, hc3⟩ := and2 hc
      obtain ⟨hc11, hc2⟩ := and2 hc1
      have c1 := eq_of_beq hc11
      have c2 := eq_of_beq hc2
      have c3 := of_decide_eq_true hc3
      -- the cell
      unfold getK at e3
      obtain ⟨xs, S4, e4, e33⟩ := bnd_ok e3
      unfold getC at e4
      split at e4
      · rename_i ys hcell
        cases e4
        obtain ⟨a, kd, ds, us, o, h1, h2, h3, h4⟩ := A.cell c _ hcell
        simp only [Rep] at r1
        obtain ⟨b, rfl, h5⟩ := r1
        rw [h1] at h5
        cases h5
        obtain ⟨ks, rfl, h6, h7⟩ := h3
        obtain ⟨rfl, rfl⟩ := ret_ok (show ret (t, ks, ds) W.S = _ from e33)
        have e6 := setC_ok hcell e0
        simp only [] at e6 c3
        -- by the key's kind
        have fin : ∀ (o' : HO) (us' : List V), us'.length = (putY ks ds q w).1.length → dicO t (putY ks ds q w).1 us' = some o' → Reps X.K W (putY ks ds q w).2 us' → ∃ W', W'.H = upd W.H a o' ∧ Nxt X.K W S' W' := fun o' us' z1 z2 z3 => by
          have N := set_cellK A hcell h1 (kd := .dic t) (xs := [.dic t (putY ks ds q w).1 (putY ks ds q w).2]) (o := o') ⟨_, rfl, z1, z2⟩ z3
          rw [← e6] at N
          exact ⟨_, rfl, N⟩
        have keyK : ∀ (yk : Key), kyV q = some yk → v2 = kV yk → t = false → ∃ H4, DPut W.H a v2 v3 H4 ∧ ∃ W', W'.H = H4 ∧ Nxt X.K W S' W' := fun yk hq hv ht => by
          subst ht
          obtain ⟨l, hl, rfl⟩ := dicO_K h7
          have hll := kK_len ks l hl
          refine ⟨upd W.H a (.dK (L2.putK (l.zip us) yk v3)), ?_, ?_⟩
          · rw [hv]
            exact DPut.k h2 (by rw [List.length_zip, sizeLine_eq]; omega)
          · unfold L2.putK
            by_cases hm : q ∈ ks
            · have hm2 := (kK_mem hq ks l hl).mp hm
              rw [if_pos (zip_anyT (by omega) hm2)]
              obtain ⟨z1, z2⟩ := zip_set (y := yk) (w := v3) l us (by omega)
              rw [z1]
              have ey : putY ks ds q w = (ks, setY ks ds q w) := if_pos hm
              refine fin _ (setV l us yk v3) (by rw [ey, z2, hll]) ?_ (by rw [ey]; exact set_K hq r3 ks ds us l hl h6 h4)
              rw [ey]
              show dicO false ks _ = _
              unfold dicO
              simp only [hl, Option.map_some]
            · have hm2 : ¬ yk ∈ l := fun z => hm ((kK_mem hq ks l hl).mpr z)
              rw [if_neg (zip_anyF (by omega) hm2)]
              have ey : putY ks ds q w = (ks ++ [q], ds ++ [w]) := if_neg hm
              refine fin _ (us ++ [v3]) (by rw [ey, List.length_append, List.length_append, h6]; rfl) ?_ (by rw [ey]; exact reps_app _ _ _ _ h4 (reps_one r3))
              rw [ey]
              show dicO false (ks ++ [q]) _ = _
              unfold dicO
              simp only [kK_app hq ks l hl, Option.map_some]
              rw [List.zip_append (by omega)]
              rfl
        unfold keyD at hk
        split at hk
        · cases hk
          obtain ⟨H4, z1, z2⟩ := keyK (.inl _) rfl (rep_int r2) c2.symm
          exact ⟨a, H4, rfl, z1, z2⟩
        · cases hk
          obtain ⟨H4, z1, z2⟩ := keyK (.inr _) rfl (by simp only [Rep] at r2; exact r2) c2.symm
          exact ⟨a, H4, rfl, z1, z2⟩
        · rename_i zs
          cases hi : keyI zs with
          | none => rw [hi] at hk; cases hk
          | some is =>
            rw [hi] at hk
            cases hk
            have ht : t = true := c2.symm
            subst ht
            obtain ⟨l, hl, rfl⟩ := dicO_T h7
            have hll := kT_len ks l hl
            simp only [Rep] at r2
            obtain ⟨pk, vs, rfl, hb, rv⟩ := r2
            rw [keyI_ok zs vs is hi rv] at hb
            refine ⟨a, upd W.H a (.dT (L2.putK (l.zip us) (is.map Sum.inl) v3)), rfl, DPut.t h2 hb (by rw [List.length_zip, sizeLine_eq]; omega), ?_⟩
            unfold L2.putK
            by_cases hm : Ky.t is ∈ ks
            · have hm2 := (kT_mem ks l hl).mp hm
              rw [if_pos (zip_anyT (by omega) hm2)]
              obtain ⟨z1, z2⟩ := zip_set (y := is.map Sum.inl) (w := v3) l us (by omega)
              rw [z1]
              have ey : putY ks ds (.t is) w = (ks, setY ks ds (.t is) w) := if_pos hm
              refine fin _ (setV l us (is.map Sum.inl) v3) (by rw [ey, z2, hll]) ?_ (by rw [ey]; exact set_T r3 ks ds us l hl h6 h4)
              rw [ey]
              show dicO true ks _ = _
              unfold dicO
              simp only [hl, Option.map_some]
            · have hm2 : ¬ is.map Sum.inl ∈ l := fun z => hm ((kT_mem ks l hl).mpr z)
              rw [if_neg (zip_anyF (by omega) hm2)]
              have ey : putY ks ds (.t is) w = (ks ++ [.t is], ds ++ [w]) := if_neg hm
              refine fin _ (us ++ [v3]) (by rw [ey, List.length_append, List.length_append, h6]; rfl) ?_ (by rw [ey]; exact reps_app _ _ _ _ h4 (reps_one r3))
              rw [ey]
              show dicO true (ks ++ [.t is]) _ = _
              unfold dicO
              simp only [kT_app ks l hl, Option.map_some]
              rw [List.zip_append (by omega)]
              rfl
        · cases hk
      · cases e4
  · cases e
theorem s_dput {i : Expr} {mi : Env → M D} (hu : X.A.units + 1 < cLine) (ho : PE X o (tI X.K mo)) (hi : PE X i (tI X.K mi)) (he : PE X value (tI X.K me)) (hs : swapsWith value (some (.Subscript o i pos')) pos.line X.env = pure false) :
    PS X (.Assign [.Subscript o i pos'] value pos) (tS X.K fun ρ => bnd (me ρ) fun v => bnd (mo ρ) fun x => bnd (mi ρ) fun y => bnd (dputD x y v) fun _ => ret (.nx ρ)) := by
  refine (ps_dput hu ho hi he hs).weak ?_
  rintro D' σ H ⟨W, ρ, rfl, A, sl, fl, S', e, k⟩
  obtain ⟨z, S1, e1, e⟩ := bnd_ok e
  obtain ⟨x, S2, e2, e⟩ := bnd_ok e
  obtain ⟨y, S3, e3, e⟩ := bnd_ok e
  obtain ⟨_, S4, e4, e⟩ := bnd_ok e
  obtain ⟨rfl, rfl⟩ := ret_ok e
  refine ⟨W, ρ, rfl, A, sl, z, S1, e1, fun W1 v1 N1 r1 => ?_⟩
  refine ⟨W1, ρ, rfl, N1.ab, sl.ext A N1.ext, x, S2, by rw [N1.st]; exact e2, fun W2 v2 N2 r2 => ?_⟩
  refine ⟨W2, ρ, rfl, N2.ab, (sl.ext A N1.ext).ext N1.ab N2.ext, y, S3, by rw [N2.st]; exact e3, fun W3 v3 N3 r3 => ?_⟩
  rw [← N3.st] at e4
  obtain ⟨a, H4, rfl, h1, W4, rfl, N4⟩ := dputD_ok N3.ab (Rep.ext N2.ab N3.ext _ _ r2) r3 (Rep.ext N1.ab (N2.ext.trans N3.ext) _ _ r1) e4
  have E := ((N1.ext.trans N2.ext).trans N3.ext).trans N4.ext
  exact ⟨a, W4.H, rfl, h1, k _ ⟨N4.st, N4.lk.trans (N3.lk.trans (N2.lk.trans N1.lk)), N4.ab, E⟩ σ (sl.ext A E)⟩
theorem s_star {p : Pos} (he : PE X e (tI X.K me)) (hr : PA X es (tAs X.K ms)) (hs : starEach (.Starred e p :: es) X.env = (true, eval e X.env) :: starEach es X.env := by rfl) :
    PA X (.Starred e p :: es) (tAs X.K fun ρ => bnd (me ρ) fun x => bnd (itemsD x) fun ys => bnd (ms ρ) fun xs => ret (ys ++ xs)) := by
  refine (StX.pa_star he hr hs).weak ?_
  rintro σ H Q ⟨W, ρ, rfl, A, sl, d, S', e, k⟩
  obtain ⟨x, S1, e1, e⟩ := bnd_ok e
  obtain ⟨ys, S2, e2, e⟩ := bnd_ok e
  obtain ⟨xs, S3, e3, e⟩ := bnd_ok e
  obtain ⟨rfl, rfl⟩ := ret_ok e
  refine ⟨W, ρ, rfl, A, sl, x, S1, e1, fun W1 v N r => ?_⟩
  rw [← N.st] at e2
  obtain ⟨rfl, p, vs, rfl, hq, q⟩ := items_ok N.ab r e2
  refine ⟨p, vs, rfl, hq.elim .inr fun z => .inl z.1, W1, ρ, rfl, N.ab, sl.ext A N.ext, xs, S3, e3, fun W2 us N2 r2 => ?_⟩
  exact k W2 _ ⟨N2.st, N2.lk.trans N.lk, N2.ab, N.ext.trans N2.ext⟩ (reps_app _ _ _ _ (Reps.ext N.ab N2.ext _ _ q) r2)
/-! calls of methods -/
variable {k : Nat} {fa C : Addr} {sp : Sp} {m : Str} {te : TE} {t : TA}
def tMethG (C : Addr) (m : Str) (sp : Sp) (ta : TE) (t : TA) : TE := fun σ H Q => ta σ H fun x H1 => ∃ a dx fs, x = .ref a ∧ H1 a = some (.ins C dx fs) ∧ fs.lookup m = none ∧ t σ H1 fun vs H2 => sp (x :: vs) H2 Q E0
theorem g_meth (he : PE X o te) (hb0 : okBase o = true) (c : Cls X.K C) (hm : Meth X.K C m fa) (F : FnW X.prog X.w X.K X.mg X.base k fa sp) (hgd : X.A.guards = some []) (hr : Room k X.A) (ha : PA X (e :: es) t)
    (hst : starEach (e :: es) X.env = (false, eval e X.env) :: starEach es X.env) (hpl : (backTo pos (starEach es X.env)).any (·.1) = false)
    (hf : methodCallForm (e :: es).length (backTo pos (starEach (e :: es) X.env)) (backToKw pos (keywordEach [] X.env)) = true) (hl : (apos.endLine == pos.line) = true) :
    PE X (.Call (.Attribute o m apos) (e :: es) [] pos) (tMethG C m sp te t) := by
  refine ⟨fun pins s σ H Q I h => ?_⟩
  refine PySem.W.methodCall_KW (pl := plainOf o X.env) (thn (he.run pins s σ H _ I h) fun u s1 ⟨x, H1, I1, rx, a, dx, fs, ex, ea, l, q⟩ => ?_) ?_
  · subst ex
    obtain rfl : u = Value.ref a := rx
    refine getmeth_ok I1 ea c hm l ?_
    refine PySem.W.callWith_K (first := [.ref a]) (h₀ := X.base) I.ok.mod.kin hm.kp (thn (ha.run pos pins s1 σ H1 _ I1 q) fun us s2 ⟨vs, H2, I2, r, q2⟩ => ⟨I2.kIn, ?_⟩) hst hpl
    exact g_run (us := .ref a :: us) (vs := .ref a :: vs) F hgd hr I2 (.cons rfl r) q2
  · show (do
      let ov ← attributeBase o m X.env (eval o X.env)
      standAt apos.atName
      methodCall o m apos pos X.env ov ((e :: es).length + ([] : List Keyword).length) (backTo pos (starEach (e :: es) X.env)) (backToKw pos (keywordEach [] X.env))) = _
    rw [ab_ok hb0]
    congr 1
    funext ov
    congr 1
    funext _
    exact mcall_line hf hl
theorem g_meth0 (he : PE X o te) (hb0 : okBase o = true) (c : Cls X.K C) (hm : Meth X.K C m fa) (F : FnW X.prog X.w X.K X.mg X.base k fa sp) (hgd : X.A.guards = some []) (hr : Room k X.A) (hl : (apos.endLine == pos.line) = true) :
    PE X (.Call (.Attribute o m apos) [] [] pos) (tMethG C m sp te tNil) := by
  refine ⟨fun pins s σ H Q I h => ?_⟩
  refine PySem.W.methodCall_KW (pl := plainOf o X.env) (thn (he.run pins s σ H _ I h) fun u s1 ⟨x, H1, I1, rx, a, dx, fs, ex, ea, l, q⟩ => ?_) ?_
  · subst ex
    obtain rfl : u = Value.ref a := rx
    refine getmeth_ok I1 ea c hm l ?_
    exact PySem.W.callWith_K0 (first := [.ref a]) I1.kIn hm.kp (g_run (us := [.ref a]) (vs := [.ref a]) F hgd hr I1 (.cons rfl .nil) q)
  · show (do
      let ov ← attributeBase o m X.env (eval o X.env)
      standAt apos.atName
      methodCall o m apos pos X.env ov (([] : List Expr).length + ([] : List Keyword).length) (backTo pos (starEach [] X.env)) (backToKw pos (keywordEach [] X.env))) = _
    rw [ab_ok hb0]
    congr 1
    funext ov
    congr 1
    funext _
    exact mcall_line rfl hl
/-- o.m(..) by data -/
theorem m_call {c : String} {m0 : String} {n : Nat} {F : List D → M D} (T : ClsT X.K c C) (hm : m = Str.ofString m0) (hn : ∀ (ρ : Env) (S : Sto) (xs : List D) (S' : Sto), ms ρ S = .ok xs S' → xs.length + 1 = n) :
    ∀ σ H Q, tI X.K (fun ρ => bnd (mo ρ) fun x => bnd (isO c m0 x) fun _ => bnd (ms ρ) fun xs => F (x :: xs)) σ H Q → tMethG C m (spF X.K n F) (tI X.K mo) (tAs X.K ms) σ H Q := by
  subst hm
  rintro σ H Q ⟨W, ρ, rfl, A, sl, d, S', e, kk⟩
  obtain ⟨x, S1, e1, e10⟩ := bnd_ok e
  obtain ⟨_, S2, e2, e20⟩ := bnd_ok e10
  obtain ⟨xs, S3, e3, e30⟩ := bnd_ok e20
  refine ⟨W, ρ, rfl, A, sl, x, S1, e1, fun W1 v N r => ?_⟩
  cases x with
  | obj c' ko =>
    simp only [isO] at e2
    obtain ⟨hc, e2⟩ := need_ok e2
    obtain ⟨q, S4, e4, e2⟩ := bnd_ok e2
    obtain ⟨hq, e2⟩ := need_ok e2
    obtain ⟨_, rfl⟩ := ret_ok e2
    obtain ⟨_, hq2⟩ := and2 hq
    rw [← N.st] at e4
    obtain ⟨rfl, a, ys, us, ns, C', dx, rfl, hk, ha, _, h1, h2, h3, h4, h5⟩ := obj_ok N.ab r e4
    have hcc := of_decide_eq_true hc
    subst hcc
    rw [T.at_] at h3
    cases h3
    have hlook : (ns.zip us).lookup (Str.ofString m0) = none := by
      have := look_S (f := Str.ofString m0) _ _ us ns h1 h2 h5
      cases hl : lookY q.2.1 q.2.2 (.s m0) with
      | some d0 => rw [hl] at hq2; cases hq2
      | none =>
        rw [hl] at this
        cases hz : (ns.zip us).lookup (Str.ofString m0) with
        | none => rfl
        | some w => rw [hz] at this; exact this.elim
    refine ⟨a, dx, _, rfl, h4, hlook, W1, ρ, rfl, N.ab, sl.ext A N.ext, xs, S3, e3, fun W2 vs N2 r2 => ?_⟩
    refine ⟨?_, W2, .obj c ko :: xs, rfl, N2.ab, ?_, d, S', by rw [N2.st]; exact e30, fun W3 v N3 r3 => kk W3 v ⟨N3.st, N3.lk.trans (N2.lk.trans N.lk), N3.ab, (N.ext.trans N2.ext).trans N3.ext⟩ r3⟩
    · rw [List.length_cons, reps_len _ _ r2]
      exact hn _ _ _ _ e3
    · simp only [Reps]
      exact ⟨_, _, rfl, Rep.ext N.ab N2.ext _ _ r, r2⟩
  | _ => cases e2
/-! C(..) -/
def tMakeG (C : Addr) (sp : Sp) (t : TA) : TE := fun σ H Q => t σ H fun vs H1 => ∀ x dx, H1 x = none → H1 dx = none → dx ≠ x →
  sp (.ref x :: vs) (upd (upd H1 dx (.own x)) x (.ins C dx [])) (fun v H2 => v = .non ∧ Q (.ref x) H2) E0
theorem guards_make {A : Around} {C : Addr} {us : List Value} {kw : List (Str × Value)} (h : A.guards = some []) : (A.under (.builtin "type.__call__" ⟨.ref C :: us, kw⟩)).guards = some [] := by
  first
    | exact h
    | (simp [Around.under, Code.weight, Code.isCreation, Code.isGuard, Code.isCaller, Code.frames, Code.isFrame, guardIds, h]; done)
theorem g_make {x : Str} (M : Mk X.K C fa) (F : FnW X.prog X.w X.K X.mg X.base k fa sp) (hgd : X.A.guards = some []) (hr : Room (k + 1) X.A) (hg : Gl X x) (hm : X.mg x = some (.ref C))
    (ha : PA X (e :: es) t) (hdb : (x == ("__debug__" : Str)) = false) (he : starEach (e :: es) X.env = (false, eval e X.env) :: starEach es X.env) (hpl : (backTo pos (starEach es X.env)).any (·.1) = false) :
    PE X (.Call (.Name x p) (e :: es) [] pos) (tMakeG C sp t) := by
  refine ⟨fun pins s σ H Q I h => ?_⟩
  refine wpAny_Call_Name_kw (ld_glob I hg hm ?_ hdb)
  refine PySem.W.callWith_K (h₀ := X.base) I.ok.mod.kin M.kp (thn (ha.run pos pins s σ H _ I h) fun us s1 ⟨vs, H1, I1, r, q⟩ => ⟨I1.kIn, ?_⟩) he hpl
  have hq := q (s1.heap.objs.size + 1) s1.heap.objs.size (I1.hok.fresh (Nat.le_succ _)) (I1.hok.fresh (Nat.le_refl _)) (Nat.ne_of_lt (Nat.lt_succ_self _))
  have I2 := Inv.made (C := C) I1
  have r2 : Vals (V.ref (s1.heap.objs.size + 1) :: vs) (Value.ref (s1.heap.objs.size + 1) :: us) := .cons rfl r
  refine wpAny_call (make_map (f := fa) I1.kIn M.makes M.init (beq_iff_eq.mp M.fn) (codeAny_mono (F.go _ X.stack _ _ (Value.ref (s1.heap.objs.size + 1) :: us) _ _ E0 (guards_make hgd) (hr.make C us [])
    (I2.env0.make C us []) I2.kIn r2 hq) fun r s' hq' => ?_))
  cases r with
  | error e => exact hq'.elim
  | ok fl =>
    cases fl with
    | ret u =>
      obtain ⟨v, H', I3, rv, ev, q3⟩ := I2.after hq'
      subst ev
      exact ⟨rv, ⟨V.ref (s1.heap.objs.size + 1), H', I3, rfl, q3⟩⟩
    | next => exact False.elim hq'
    | brk => exact False.elim hq'
    | cont => exact False.elim hq'
theorem mk_call {c : String} {n : Nat} {F : List D → M D} (T : ClsT X.K c C) (hn : ∀ (ρ : Env) (S : Sto) (xs : List D) (S' : Sto), ms ρ S = .ok xs S' → xs.length + 1 = n) :
    ∀ σ H Q, tI X.K (fun ρ => bnd (ms ρ) fun xs => bnd (newO c) fun o => bnd (F (o :: xs)) fun r => bnd (isNon r) fun _ => ret o) σ H Q → tMakeG C (spF X.K n F) (tAs X.K ms) σ H Q := by
  rintro σ H Q ⟨W, ρ, rfl, A, sl, d, S', e, kk⟩
  obtain ⟨xs, S1, e1, e10⟩ := bnd_ok e
  obtain ⟨o, S2, e2, e20⟩ := bnd_ok e10
  obtain ⟨r, S3, e3, e30⟩ := bnd_ok e20
  obtain ⟨_, S4, e4, e40⟩ := bnd_ok e30
  obtain ⟨rfl, rfl⟩ := ret_ok e40
  refine ⟨W, ρ, rfl, A, sl, xs, S1, e1, fun W1 vs N r1 => fun x dx hx hdx ne => ?_⟩
  -- the dict ahead, then the object
  obtain ⟨N1, _, _⟩ := new_obj N.ab hdx (.own x)
  have hx2 : (upd W1.H dx (.own x)) x = none := by rw [upd_ne (Ne.symm ne)]; exact hx
  obtain ⟨N2, hat⟩ := new_cellK N1.ab (p := x) hx2 (kd := .obj c) (xs := [.dic false [] []]) (ds := []) (us := []) (o := .ins C dx []) ⟨[], [], C, dx, rfl, rfl, rfl, T.at_, rfl⟩ (by simp only [Reps])
  cases e2
  have hS : W1.S = S1 := N.st
  subst hS
  refine ⟨by rw [List.length_cons, reps_len _ _ r1]; exact hn _ _ _ _ e1, _, .obj c W1.S.length :: xs, rfl, N2.ab, ?_, r, S3, e3, fun W3 v N3 r3 => ?_⟩
  · simp only [Reps]
    refine ⟨_, _, rfl, ?_, Reps.ext N.ab (N1.ext.trans N2.ext) _ _ r1⟩
    simp only [Rep]
    exact ⟨x, rfl, hat⟩
  · unfold isNon at e4
    split at e4
    · obtain ⟨_, rfl⟩ := ret_ok e4
      simp only [Rep] at r3
      refine ⟨r3, kk W3 _ ⟨N3.st, N3.lk.trans (N2.lk.trans (N1.lk.trans N.lk)), N3.ab, ((N.ext.trans N1.ext).trans N2.ext).trans N3.ext⟩ ?_⟩
      simp only [Rep]
      exact ⟨x, rfl, N3.ext.pre _ _ hat⟩
    · cases e4
end
end AG
namespace AG
open PySem PySem.Spec PyProof.Rows L2
def nstB : Expr → Bool
  | .BinOp .. => true
  | _ => false
/-! ### int('1' + '0' * n) -/
def zerosV (n : Nat) : Str := if n = 0 then Str.empty else if n = 1 then "0" else ⟨(List.replicate n ("0" : Str).cps).foldl (· ++ ·) #[]⟩
theorem zeros_int : ∀ n : Fin 41, PySem.intText? (("1" : Str) ++ zerosV n.val) = some ((10 : Int) ^ n.val) ∧ (("1" : Str) ++ zerosV n.val).length ≤ 640 ∧ (zerosV n.val).length ≤ 640 := by decide +kernel
def rZeros : R2 := fun x y H Q => ∃ n : Nat, x = .str "0" ∧ y = .int (n : Nat) ∧ n ≤ 40 ∧ Q (.str (zerosV n)) H
theorem op_zeros {X : Cx} : OpR X (binaryOp .Mult) rZeros := by
  intro pins s σ H x y v u Q I rx ry h
  obtain ⟨n, rfl, rfl, hn, q⟩ := h
  obtain ⟨t, rfl⟩ := rx
  obtain ⟨t2, rfl⟩ := ry
  refine PySem.P.mul_str (by rw [decide_eq_false (by omega), decide_eq_false (by omega)] <;> rfl) (fun _ _ => ?_) (fun _ _ => ?_) ?_
  · have h1 : ("0" : Str).length = 1 := by decide +kernel
    rw [h1]
    have : (1 : Int) ≤ (2 ^ 63 - 1) / (n : Int) := Int.le_ediv_of_mul_le (by omega) (by omega)
    omega
  · have h1 : ("0" : Str).length = 1 := by decide +kernel
    rw [h1]
    unfold Builtin.Str.tooLong
    exact decide_eq_false (by rw [sizeLine_eq]; omega)
  · unfold zerosV at q
    by_cases h0 : n = 0
    · subst h0
      rw [if_pos rfl] at q
      rw [if_pos (by decide)]
      exact ⟨by decide, .str _, H, I.tok _, ⟨_, rfl⟩, q⟩
    · rw [if_neg h0] at q
      rw [if_neg (by omega)]
      by_cases h1 : n = 1
      · subst h1
        rw [if_pos rfl] at q
        rw [if_pos (by decide +kernel)]
        exact ⟨.str _, H, I, ⟨_, rfl⟩, q⟩
      · rw [if_neg h1] at q
        rw [if_neg ?_]
        · have h640 := (zeros_int ⟨n, by omega⟩).2.2
          unfold zerosV at h640
          simp only [if_neg h0, if_neg h1] at h640
          exact ⟨Nat.le_trans h640 (by rw [sizeLine_eq]; omega), .str _, H, I.tok _, ⟨_, rfl⟩, q⟩
        · have h2 : (((n : Int) == 1)) = false := beq_eq_false_iff_ne.mpr (by omega)
          have h3 : ((("0" : Str).length == 0)) = false := by decide +kernel
          rw [h2, h3]
          exact Bool.false_ne_true
section
variable {X : Cx} {a : Expr} {pos : Pos} {ma : Env → M D}
theorem s_tenp {k1 k2 : Nat} {p p1 p2 q1 q2 : Pos} (hg : Gl X "int") (hm : X.mg "int" = none) (ha : PE X a (tI X.K ma)) (hs : ∀ e : Expr, nstB e = true → starEach [e] X.env = (false, eval e X.env) :: starEach [] X.env) :
    PE X (.Call (.Name "int" p) [.BinOp (.Constant (.str "1") k1 p1) .Add (.BinOp (.Constant (.str "0") k2 p2) .Mult a q2) q1] [] pos) (tI X.K fun ρ => bnd (ma ρ) tenD) := by
  refine (pe_callTy call_int_str hg hm (by decide +kernel) (pa_cons (pe_op op_add_str pe_str (pe_op op_zeros pe_str ha)) pa_nil (hs _ rfl)) (by decide) (by decide) (hs _ rfl) rfl).weak ?_
  rintro σ H Q ⟨W, ρ, rfl, A, sl, d, S', e, k⟩
  obtain ⟨x, S1, e1, e10⟩ := bnd_ok e
  refine ⟨W, ρ, rfl, A, sl, x, S1, e1, fun W1 v N r => ?_⟩
  unfold tenD at e10
  split at e10
  · rename_i n
    obtain ⟨c, e20⟩ := need_ok e10
    obtain ⟨rfl, rfl⟩ := ret_ok e20
    obtain ⟨c1, c2⟩ := and2 c
    have h0 := of_decide_eq_true c1
    have h1 := of_decide_eq_true c2
    obtain ⟨z1, z2, z3⟩ := zeros_int ⟨n.toNat, by omega⟩
    have hn : n = ((n.toNat : Nat) : Int) := (Int.toNat_of_nonneg h0).symm
    rw [rep_int r]
    refine ⟨n.toNat, rfl, by rw [← hn], by omega, ?_⟩
    refine ⟨_, _, rfl, rfl, ?_, ?_⟩
    · rw [sizeLine_eq]
      have : ("1" : Str).length = 1 := by decide +kernel
      show ("1" : Str).length + (zerosV n.toNat).length ≤ _
      have z3' : (zerosV n.toNat).length ≤ 640 := z3
      omega
    · exact ⟨_, _, rfl, z1, z2, k W1 _ N (int_rep _)⟩
  · cases e10
end
end AG
namespace AG
open PySem PySem.Spec PyProof.Rows L2
/-! ### that a tree is the text's -/
/-- what a module's name may stand for: a number, a built-in function -/
inductive CV where
  | i (j : Int) | b (id : String)
  deriving DecidableEq
def CvOk (o : Option Value) : CV → Prop
  | .i j => ∃ t, o = some (.int j t)
  | .b id => o = some (.builtin id)
/-- what a def is: one of the module, a method of a class, what makes a class's objects -/
inductive FK where
  | fn | fa (x : String) | me (c m : String) | ini (c : String)
  deriving DecidableEq
structure Tb where
  fns : List (String × FK × Nat)
  bts : List Str
  cs : List (Str × CV)
  fls : List (String × String)
def AtK (K : PySem.W.Frag) (mg : Str → Option Value) (key : String) (f : Addr) : FK → Prop
  | .fn => mg (Str.ofString key) = some (.ref f) ∧ PySem.W.keepIn K (.ref f) = true
  | .fa x => mg (Str.ofString x) = some (.ref f) ∧ PySem.W.keepIn K (.ref f) = true
  | .me c m => ∃ C, ClsT K c C ∧ Meth K C (Str.ofString m) f
  | .ini c => ∃ C, ClsT K c C ∧ Mk K C f ∧ mg (Str.ofString c) = some (.ref C)
/-- the name by which a def is called, by so many values -/
def nmOk (G : Tb) (f : String) (x : Str) (n : Nat) : Bool := match G.fns.lookup f with
  | some (.fn, m) => decide (x = Str.ofString f) && decide (m = n)
  | some (.fa g, m) => decide (x = Str.ofString g) && decide (m = n)
  | _ => false
theorem nm_ok {G : Tb} {f : String} {x : Str} {n : Nat} (h : nmOk G f x n = true) : ∃ q, G.fns.lookup f = some (q, n) ∧ ∀ (K : PySem.W.Frag) (mg : Str → Option Value) (a : Addr), AtK K mg f a q → mg x = some (.ref a) ∧ PySem.W.keepIn K (.ref a) = true := by
  unfold nmOk at h
  split at h
  · rename_i m e
    rw [Bool.and_eq_true, decide_eq_true_eq, decide_eq_true_eq] at h
    obtain ⟨rfl, rfl⟩ := h
    exact ⟨_, e, fun K mg a h => h⟩
  · rename_i g m e
    rw [Bool.and_eq_true, decide_eq_true_eq, decide_eq_true_eq] at h
    obtain ⟨rfl, rfl⟩ := h
    exact ⟨_, e, fun K mg a h => h⟩
  · cases h
def kd (sc : Scope) (x : Str) : Option NameKind := sc.names.lookup x
/-- the names as they are read, and as they may be stored -/
structure Sx where
  sc : Scope
  ow : Scope
def isVis (s : Sx) (x : Str) : Bool := kd s.sc x == some .local || kd s.sc x == some .cell || kd s.sc x == some .free
def isLoc (s : Sx) (x : Str) : Bool := kd s.sc x == some .local || (kd s.sc x == some .cell && kd s.ow x == some .cell)
def isGl (s : Sx) (x : Str) : Bool := kd s.sc x == some .globalImplicit
def sDbg : Str := "__debug__"
def sCld : Str := "__classdict__"
def nst : Expr → Bool
  | .Starred .. => false
  | _ => true
def nsl : Expr → Bool
  | .Slice .. => false
  | _ => true
def ncomp : Expr → Bool
  | .ListComp .. => false
  | .SetComp .. => false
  | .DictComp .. => false
  | _ => true
def nset : Expr → Bool
  | .Set .. => false
  | _ => true
def isName : Expr → Bool
  | .Name .. => true
  | _ => false
def plainT : Expr → Bool
  | .UnaryOp .Not _ _ => false
  | .BoolOp .. => false
  | .IfExp .. => false
  | .Compare .. => false
  | _ => true
def okOp : Operator → Bool
  | .Add | .Sub | .Mult | .FloorDiv | .Mod | .Pow | .BitAnd => true
  | _ => false
def okC : CmpOp → Bool
  | .Eq | .NotEq | .Lt | .LtE | .Gt | .GtE | .Is | .IsNot => true
  | _ => false
def okD (o : CmpOp) : Bool := okC o || o == .In || o == .NotIn
def Bi.name : Bi → String
  | .max1 => "max" | .len => "len" | .max2 => "max" | .min2 => "min" | .tup => "tuple" | .lst => "list" | .repr => "repr" | .all => "all" | .sum => "sum" | .sorted => "sorted"
def chkTg (N : List Str) (sc : Sx) (tg : Tg) (e : Expr) : Bool := match tg, e with
  | .name i, .Name x _ => decide (N[i]? = some x) && isLoc sc x
  | .tup is, .Tuple es _ _ => decide (is.length = es.length) && (is.zip es).all fun p => match p.2 with
    | .Name x _ => decide (N[p.1]? = some x) && isLoc sc x
    | _ => false
  | .pair i is, .Tuple [.Name y _, .Tuple es _ _] _ _ => decide (N[i]? = some y) && isLoc sc y && decide (is.length = es.length) && (is.zip es).all fun p => match p.2 with
    | .Name x _ => decide (N[p.1]? = some x) && isLoc sc x
    | _ => false
  | _, _ => false
/-- pairs are drawn into a written pair -/
def okT (it : It) (t : Expr) : Bool := match it with
  | .enm _ => (match t with
    | .Tuple .. => true
    | _ => false)
  | .zip _ _ => (match t with
    | .Tuple .. => true
    | _ => false)
  | _ => true
def ownOf (N : List Str) (own : List Nat) : List (Str × Nat) := own.map fun i => (N.getD i "", i)
section
variable (G : Tb) (N : List Str)
mutual
def chk : Ex → Sx → Expr → Bool
  | .var i, sc, e => match e with
    | .Name x _ => decide (N[i]? = some x) && isVis sc x && !(x == sDbg) && !(x == sCld)
    | _ => false
  | .int i, _, e => match e with
    | .Constant (.int j) _ _ => i == j
    | _ => false
  | .bl b, _, e => match e with
    | .Constant (.bool c) _ _ => b == c
    | _ => false
  | .non, _, e => match e with
    | .Constant .none _ _ => true
    | _ => false
  | .str s, _, e => match e with
    | .Constant (.str t) _ _ => decide (s = t)
    | _ => false
  | .glob x i, sc, e => match e with
    | .Name y _ => decide (x = y) && isGl sc x && decide ((x, CV.i i) ∈ G.cs) && !(x == sDbg)
    | _ => false
  | .bin o a b, sc, e => match e with
    | .BinOp x o' y _ => decide (o = o') && okOp o && chk a sc x && chk b sc y
    | _ => false
  | .neg a, sc, e => match e with
    | .UnaryOp .USub x _ => chk a sc x
    | _ => false
  | .cmp o a b, sc, e => match e with
    | .Compare x [o'] [y] _ => decide (o = o') && (okD o && !behindInMarks o y) && chk a sc x && chk b sc y
    | _ => false
  | .chain o p a b c, sc, e => match e with
    | .Compare x [o', p'] [y, z] _ => decide (o = o') && decide (p = p') && okC o && okC p && chk a sc x && chk b sc y && chk c sc z
    | _ => false
  | .and a b, sc, e => match e with
    | .BoolOp .And (x :: y :: r) pos => chk a sc x && chk b sc (match r with | [] => y | _ => .BoolOp .And (y :: r) pos)
    | _ => false
  | .or a b, sc, e => match e with
    | .BoolOp .Or (x :: y :: r) pos => chk a sc x && chk b sc (match r with | [] => y | _ => .BoolOp .Or (y :: r) pos)
    | _ => false
  | .not a, sc, e => match e with
    | .UnaryOp .Not x _ => chk a sc x
    | _ => false
  | .ife c a b, sc, e => match e with
    | .IfExp t x y _ => chk c sc t && chk a sc x && chk b sc y
    | _ => false
  | .tup es, sc, e => match e with
    | .Tuple xs _ _ => chkd es sc xs
    | _ => false
  | .lst _ es, sc, e => match e with
    | .List xs _ => chkd es sc xs
    | _ => false
  | .ix a i, sc, e => match e with
    | .Subscript x y _ => nsl y && chk a sc x && chk i sc y
    | _ => false
  | .sl _ a lo hi, sc, e => match e with
    | .Subscript x (.Slice l h none _) _ => chk a sc x && chko lo sc l && chko hi sc h
    | _ => false
  | .call f es, sc, e => match e with
    | .Call (.Name x _) xs [] _ => nmOk G f x xs.length && isGl sc x && !(x == sDbg) && chks es sc xs
    | _ => false
  | .fld c f o, sc, e => match e with
    | .Attribute x at_ _ => decide (at_ = Str.ofString f) && decide ((c, f) ∈ G.fls) && okBase x && chk o sc x
    | _ => false
  | .meth f c m o es, sc, e => match e with
    | .Call (.Attribute x at_ ap) xs [] cp => decide (at_ = Str.ofString m) && decide (G.fns.lookup f = some (.me c m, xs.length + 1)) && okBase x && (ap.endLine == cp.line) && decide (xs.length < 30) && chk o sc x && chks es sc xs
    | _ => false
  | .make c f es, sc, e => match e with
    | .Call (.Name x _) (y :: ys) [] _ => decide (x = Str.ofString c) && decide (G.fns.lookup f = some (.ini c, ys.length + 2)) && isGl sc x && !(x == sDbg) && chks es sc (y :: ys)
    | _ => false
  | .dget d k, sc, e => match e with
    | .Subscript x y _ => nsl y && chk d sc x && chk k sc y
    | _ => false
  | .din n k d, sc, e => match e with
    | .Compare x [o'] [y] _ => decide (o' = if n then .NotIn else .In) && !behindInMarks o' y && chk k sc x && chk d sc y
    | _ => false
  | .dnew _, sc, e => match e with
    | .Dict [] [] _ => true
    | _ => false
  | .mulL _ a b, sc, e => match e with
    | .BinOp x o' y _ => decide (o' = .Mult) && chk a sc x && chk b sc y
    | _ => false
  | .tenp a, sc, e => match e with
    | .Call (.Name x _) [.BinOp (.Constant (.str s1) _ _) o1 (.BinOp (.Constant (.str s2) _ _) o2 y _) _] [] _ => decide (x = "int") && decide (s1 = "1") && decide (s2 = "0") && decide (o1 = .Add) && decide (o2 = .Mult) && decide (x ∈ G.bts) && isGl sc x && chk a sc y
    | _ => false
  | .bi b es, sc, e => match e with
    | .Call (.Name x _) (y :: ys) [] _ => decide (x = Str.ofString b.name) && decide (x ∈ G.bts) && isGl sc x && chks es sc (y :: ys)
    | _ => false
  | .lrg _ a, sc, e => match e with
    | .Call (.Name x _) [.Call (.Name y _) [z] [] _] [] _ => decide (x = "list") && decide (y = "range") && decide (x ∈ G.bts) && decide (y ∈ G.bts) && isGl sc x && isGl sc y && nst z && chk a sc z
    | _ => false
  | .trg a, sc, e => match e with
    | .Call (.Name x _) [.Call (.Name y _) [z] [] _] [] _ => decide (x = "tuple") && decide (y = "range") && decide (x ∈ G.bts) && decide (y ∈ G.bts) && isGl sc x && isGl sc y && nst z && chk a sc z
    | _ => false
  | .isi a T, sc, e => match e with
    | .Call (.Name x _) [y, .Name z _] [] _ => decide (x = "isinstance") && decide (z = Str.ofString T.name) && decide (x ∈ G.bts) && decide (z ∈ G.bts) && isGl sc x && isGl sc z && nst y && chk a sc y
    | _ => false
  | .popAt o i, sc, e => match e with
    | .Call (.Attribute x at_ ap) [y] [] cp => decide (at_ = "pop") && isName x && (ap.endLine == cp.line) && nst y && chk o sc x && chk i sc y
    | _ => false
  | .idxOf o i, sc, e => match e with
    | .Call (.Attribute x at_ ap) [y] [] cp => decide (at_ = "index") && isName x && (ap.endLine == cp.line) && nst y && chk o sc x && chk i sc y
    | _ => false
  | .cntOf o i, sc, e => match e with
    | .Call (.Attribute x at_ ap) [y] [] cp => decide (at_ = "count") && isName x && (ap.endLine == cp.line) && nst y && chk o sc x && chk i sc y
    | _ => false
  | .opq, _, e => ncomp e
  | .tyeq a T, sc, e => match e with
    | .Compare (.Call (.Name x _) [y] [] _) [.Eq] [.Name z _] _ => decide (x = "type") && decide (z = Str.ofString T.name) && decide (x ∈ G.bts) && decide (z ∈ G.bts) && isGl sc x && isGl sc z && nst y && chk a sc y
    | _ => false
  | .lcm x es, sc, e => match e with
    | .Call (.Name y _) (z :: zs) [] _ => decide (x = y) && isGl sc x && decide ((x, CV.b "math.lcm") ∈ G.cs) && !(x == sDbg) && chks es sc (z :: zs)
    | _ => false
  | .maxd a j, sc, e => match e with
    | .Call (.Name x _) [z] [⟨some k, .Constant (.int i) _ _, _⟩] _ => decide (x = "max") && decide (k = "default") && decide (x ∈ G.bts) && isGl sc x && nst z && i == j && chk a sc z
    | _ => false
  | .lc2 _ elt tg tg1 own own1 it it1, sc, e => match e with
    | .ListComp x gs scope _ => match gs with
      | [c, c1] => decide (c.is_async = 0) && decide (c1.is_async = 0) && nset c.iter && nset c1.iter && chki it sc c.iter && blkC N sc.sc scope (ownOf N own) && chkTg N ⟨relS scope sc.sc, scope⟩ tg c.target && (tgs tg).all (fun j => own.contains j) && chkTg N ⟨relS scope sc.sc, scope⟩ tg1 c1.target && (tgs tg1).all (fun j => own1.contains j) && own1.all (fun j => own.contains j) && chki it1 ⟨relS scope sc.sc, scope⟩ c1.iter && chk elt ⟨relS scope sc.sc, scope⟩ x && (okT it c.target && okT it1 c1.target) && (c.ifs.isEmpty && c1.ifs.isEmpty)
      | _ => false
    | _ => false
  | .dic0, sc, e => match e with
    | .Dict [] [] _ => true
    | _ => false
  | .dic1 i j, sc, e => match e with
    | .Dict [some (.Constant (.int i') _ _)] [.Constant (.int j') _ _] _ => i == i' && j == j'
    | _ => false
  | .rev a, sc, e => match e with
    | .Subscript x (.Slice none none (some (.UnaryOp .USub (.Constant (.int i) _ _) _)) _) _ => i == 1 && chk a sc x
    | _ => false
  | .lc _ elt tg own it cd, sc, e => match e with
    | .ListComp x [⟨t, i, ifs, a⟩] scope _ => decide (a = 0) && nset i && (okT it t && chki it sc i) && blkC N sc.sc scope (ownOf N own) && chkTg N ⟨relS scope sc.sc, scope⟩ tg t && (tgs tg).all (fun j => own.contains j) && chk elt ⟨relS scope sc.sc, scope⟩ x && chkc cd ⟨relS scope sc.sc, scope⟩ ifs
    | _ => false
def chks : Exs → Sx → List Expr → Bool
  | .nil, _, es => match es with
    | [] => true
    | _ => false
  | .cons a as, sc, es => match es with
    | x :: xs => nst x && chk a sc x && chks as sc xs
    | _ => false
  | .star _ _, _, _ => false
def chkd : Exs → Sx → List Expr → Bool
  | .nil, _, es => match es with
    | [] => true
    | _ => false
  | .cons a as, sc, es => match es with
    | x :: xs => nst x && chk a sc x && chkd as sc xs
    | _ => false
  | .star a as, sc, es => match es with
    | .Starred x _ :: xs => chk a sc x && chkd as sc xs
    | _ => false
def chko : Exo → Sx → Option Expr → Bool
  | .no, _, e => match e with
    | none => true
    | _ => false
  | .yes a, sc, e => match e with
    | some x => chk a sc x
    | _ => false
def chkc : Exo → Sx → List Expr → Bool
  | .no, _, e => match e with
    | [] => true
    | _ => false
  | .yes a, sc, e => match e with
    | [x] => chk a sc x
    | _ => false
def chki : It → Sx → Expr → Bool
  | .seq a, sc, e => chk a sc e
  | .rng a, sc, e => match e with
    | .Call (.Name y _) [z] [] _ => decide (y = "range") && decide (y ∈ G.bts) && isGl sc y && nst z && chk a sc z
    | _ => false
  | .rng2 a b, sc, e => match e with
    | .Call (.Name y _) [z, u] [] _ => decide (y = "range") && decide (y ∈ G.bts) && isGl sc y && nst z && nst u && chk a sc z && chk b sc u
    | _ => false
  | .enm a, sc, e => match e with
    | .Call (.Name y _) [z] [] _ => decide (y = "enumerate") && decide (y ∈ G.bts) && isGl sc y && nst z && chk a sc z
    | _ => false
  | .revl a, sc, e => match e with
    | .Call (.Name y _) [z] [] _ => decide (y = "reversed") && decide (y ∈ G.bts) && isGl sc y && nst z && chk a sc z
    | _ => false
  | .zip a b, sc, e => match e with
    | .Call (.Name y _) [z, u] [] _ => decide (y = "zip") && decide (y ∈ G.bts) && isGl sc y && nst z && nst u && chk a sc z && chk b sc u
    | _ => false
end
end
/-! ### small facts of the text -/
theorem star_cons {e : Expr} (h : nst e = true) (es : List Expr) (env : PySem.Env) : starEach (e :: es) env = (false, eval e env) :: starEach es env := by
  cases e <;> first | rfl | cases h
theorem plain_args {pos : Pos} {env : PySem.Env} : ∀ {es : List Expr}, es.all nst = true → (backTo pos (starEach es env)).any (·.1) = false
  | [], _ => rfl
  | e :: es, h => by
    rw [List.all_cons] at h
    obtain ⟨h1, h2⟩ := and2 h
    rw [star_cons h1]
    exact plain_args h2
theorem plain_ix {b : Expr} (h : nsl b = true) : PlainIx b := by
  intro o i
  cases b <;> first | rfl | cases h
theorem tru_plain {a : Expr} (h : plainT a = true) (env : PySem.Env) : ∀ whole, PySem.isTrue a env whole = (do let v ← whole; standAt a.pos; holding [v] (truthy v)) := by
  intro whole
  cases a with
  | UnaryOp op x p => cases op <;> first | rfl | cases h
  | BoolOp _ _ _ => cases h
  | IfExp _ _ _ _ => cases h
  | Compare _ _ _ _ => cases h
  | _ => rfl
theorem sw_none {e : Expr} (h : ncomp e = true) (t : Option Expr) (l : Nat) (env : PySem.Env) : swapsWith e t l env = pure false := by
  cases e <;> first | rfl | cases h
theorem sw_sub {e o i : Expr} {p : Pos} (l : Nat) (env : PySem.Env) : swapsWith e (some (.Subscript o i p)) l env = pure false := by
  cases e <;> rfl
theorem sw_tup {e : Expr} {ts : List Expr} {k : Nat} {p : Pos} (l : Nat) (env : PySem.Env) : swapsWith e (some (.Tuple ts k p)) l env = pure false := by
  cases e <;> rfl
theorem fs_plain {e : Expr} (h : nset e = true) (env : PySem.Env) : ∀ x, foldedSetIterable e env x = pure x := by
  intro x
  cases e <;> first | rfl | cases h
theorem ab_name {e : Expr} (h : isName e = true) (n : Str) (env : PySem.Env) : attributeBase e n env (eval e env) = eval e env := by
  cases e <;> first | rfl | cases h
theorem dec_eq {α : Type} [DecidableEq α] {a b : α} (h : decide (a = b) = true) : a = b := of_decide_eq_true h
theorem kd_some {o : Option NameKind} {k : NameKind} (h : (o == some k) = true) : o = some k := by
  cases o with
  | none => cases h
  | some j => cases j <;> cases k <;> first | rfl | cases h
theorem isVis_ok {sc : Sx} {x : Str} (h : isVis sc x = true) : Vis sc.sc x := by
  unfold isVis at h
  rcases Bool.or_eq_true_iff.mp h with h | h
  · rcases Bool.or_eq_true_iff.mp h with h | h
    · exact .inl (kd_some h)
    · exact .inr (.inl (kd_some h))
  · exact .inr (.inr (kd_some h))
theorem isLoc_ok {sc : Sx} {x : Str} (h : isLoc sc x = true) : sc.sc.names.lookup x = some .local ∨ (sc.sc.names.lookup x = some .cell ∧ sc.ow.names.lookup x = some .cell) := by
  unfold isLoc at h
  rcases Bool.or_eq_true_iff.mp h with h | h
  · exact .inl (kd_some h)
  · obtain ⟨h1, h2⟩ := and2 h
    exact .inr ⟨kd_some h1, kd_some h2⟩
theorem not_b {b : Bool} (h : (!b) = true) : b = false := by cases b <;> first | rfl | cases h
theorem all2 {a b : Bool} (h : (a && b) = true) : a = true ∧ b = true := and2 h
theorem chks_nst {G : Tb} {N : List Str} : ∀ (as : Exs) (sc : Sx) (es : List Expr), chks G N as sc es = true → es.all nst = true
  | .nil, sc, es, h => by
    cases es with
    | nil => rfl
    | cons x xs => simp only [chks] at h; cases h
  | .cons a as, sc, es, h => by
    cases es with
    | nil => rfl
    | cons x xs =>
      simp only [chks] at h
      obtain ⟨h, h3⟩ := and2 h
      obtain ⟨h1, h2⟩ := and2 h
      rw [List.all_cons, h1, chks_nst as sc xs h3]
      rfl
  | .star a as, sc, es, h => by simp only [chks] at h; cases h
theorem evs_len {G : Tb} {N : List Str} {Φ : String → List D → M D} : ∀ (as : Exs) (sc : Sx) (es : List Expr), chks G N as sc es = true → ∀ (ρ : Env) (S : Sto) (xs : List D) (S' : Sto), evs Φ as ρ S = .ok xs S' → xs.length = es.length
  | .nil, sc, es, h, ρ, S, xs, S', e => by
    cases es with
    | nil => simp only [evs] at e; obtain ⟨rfl, _⟩ := ret_ok e; rfl
    | cons x xs => simp only [chks] at h; cases h
  | .cons a as, sc, es, h, ρ, S, xs, S', e => by
    cases es with
    | nil => simp only [chks] at h; cases h
    | cons y ys =>
      simp only [chks] at h
      obtain ⟨h, h3⟩ := and2 h
      simp only [evs] at e
      obtain ⟨z, S1, e1, e⟩ := bnd_ok e
      obtain ⟨zs, S2, e2, e⟩ := bnd_ok e
      obtain ⟨rfl, _⟩ := ret_ok e
      rw [List.length_cons, List.length_cons, evs_len as sc ys h3 ρ S1 zs S2 e2]
  | .star a as, sc, es, h, ρ, S, xs, S', e => by simp only [chks] at h; cases h
/-! ### where a text stands -/
structure Good (G : Tb) (Φ : String → List D → M D) (N : List Str) (sc : Sx) (X : Cx) : Prop where
  hN : X.N = N
  nd : N.Nodup
  hs : X.env.scope = sc.sc
  kd : sc.sc.kind = .function
  calm : X.calm = true
  fn : ∀ x, sc.ow.names.lookup x = some .cell → X.fn x = true
  xe : X.xe = fun _ _ => False
  gd : X.A.guards = some []
  hu : X.A.units + 64 < cLine
  hu5 : X.A.units + 65 < cLine
  bt : ∀ x ∈ G.bts, X.mg x = none
  cs : ∀ (x : Str) (c : CV), (x, c) ∈ G.cs → CvOk (X.mg x) c
  ft : ∀ (i : String) (q : FK) (n : Nat), G.fns.lookup i = some (q, n) → ∃ f k, FnW X.prog X.w X.K X.mg X.base k f (spF X.K n (Φ i)) ∧ Room (k + 1) X.A ∧ AtK X.K X.mg i f q
  fl : ∀ (c f : String), (c, f) ∈ G.fls → ∃ C, ClsT X.K c C ∧ NoAttr X.K C (Str.ofString f)
section
variable {G : Tb} {Φ : String → List D → M D} {N : List Str} {sc : Sx} {X : Cx} {pos : Pos}
theorem Good.gl (g : Good G Φ N sc X) {x : Str} (h : isGl sc x = true) : Gl X x := by
  show X.env.scope.names.lookup x = some .globalImplicit
  rw [g.hs]
  exact kd_some h
theorem Good.pg (g : Good G Φ N sc X) {i : Nat} {x : Str} (h1 : decide (N[i]? = some x) = true) (h2 : isLoc sc x = true) : PG X (.Name x pos) (gName i) := by
  have hl := isLoc_ok h2
  have hl' : Loc X.env.scope x := by rw [g.hs]; exact hl.imp id fun z => z.1
  refine pg_name (by rw [g.hN]; exact g.nd) (by rw [g.hN]; exact of_decide_eq_true h1) hl' ?_
  rcases hl with h | h
  · exact .inr (by rw [g.hs]; exact h)
  · exact .inl (g.fn x h.2)
theorem Good.pgs (g : Good G Φ N sc X) : ∀ (is : List Nat) (es : List Expr), is.length = es.length → ((is.zip es).all fun p => match p.2 with
    | .Name x _ => decide (N[p.1]? = some x) && isLoc sc x
    | _ => false) = true → PGs X es (gNames is) ∧ (assignEach es X.env).length = is.length ∧ (assignEach es X.env).findIdx? (·.1) = none
  | [], [], _, _ => ⟨pgs_nil, rfl, rfl⟩
  | i :: is, e :: es, hl, h => by
    rw [List.zip_cons_cons, List.all_cons] at h
    obtain ⟨h1, h2⟩ := and2 h
    obtain ⟨q1, q2, q3⟩ := Good.pgs g is es (by simpa using hl) h2
    cases e with
    | Name x p =>
      obtain ⟨a1, a2⟩ := and2 h1
      refine ⟨pgs_cons (g.pg a1 a2) q1 rfl, ?_, ?_⟩
      · show (assignEach es X.env).length + 1 = is.length + 1
        rw [q2]
      · show List.findIdx? _ ((false, assign (.Name x p) X.env) :: assignEach es X.env) = none
        rw [List.findIdx?_cons, q3]
        rfl
    | _ => cases h1
  | [], _ :: _, hl, _ => by simp at hl
  | _ :: _, [], hl, _ => by simp at hl
def gTg (K : PySem.W.Frag) : Tg → TG
  | .name i => gName i
  | .tup is => gTup K is.length (gNames is)
  | .pair i is => gTup K 2 (gCons (gName i) (gCons (gTup K is.length (gNames is)) gNil))
theorem gTg_ok {K : PySem.W.Frag} : ∀ tg : Tg, TgOk K (gTg K tg) tg
  | .name i => tg_name i
  | .tup is => tg_tup is
  | .pair i is => tg_pair i is
theorem Good.tg (g : Good G Φ N sc X) {tg : Tg} {e : Expr} (h : chkTg N sc tg e = true) : PG X e (gTg X.K tg) := by
  cases tg with
  | name i =>
    cases e with
    | Name x p =>
      simp only [chkTg] at h
      obtain ⟨a1, a2⟩ := and2 h
      exact g.pg a1 a2
    | _ => simp only [chkTg] at h; cases h
  | tup is =>
    cases e with
    | Tuple es k p =>
      simp only [chkTg] at h
      obtain ⟨a1, a2⟩ := and2 h
      obtain ⟨q1, q2, q3⟩ := g.pgs is es (of_decide_eq_true a1) a2
      exact pg_tup g.calm q1 q2 q3
    | _ => simp only [chkTg] at h; cases h
  | pair i is =>
    unfold chkTg at h
    split at h
    · rename_i z; cases z
    · rename_i z; cases z
    · rename_i i' is' y py es k2 p2 k p z1
      cases z1
      obtain ⟨h, a4⟩ := and2 h
      obtain ⟨h, a3⟩ := and2 h
      obtain ⟨a1, a2⟩ := and2 h
      obtain ⟨q1, q2, q3⟩ := g.pgs is es (of_decide_eq_true a3) a4
      have inner : PG X (.Tuple es k2 p2) (gTup X.K is.length (gNames is)) := pg_tup g.calm q1 q2 q3
      exact pg_tup g.calm (pgs_cons (g.pg a1 a2) (pgs_cons inner pgs_nil rfl) rfl) rfl rfl
    · cases h
theorem Good.blk (g : Good G Φ N sc X) {scope : Scope} (hk : scope.kind = .function) (s : Shared) (H : Hp) (C : Addr) (cl : List (Str × Addr)) (fp : List Addr) : Good G Φ N ⟨relS scope sc.sc, scope⟩ (X.blk s H scope (compEnvC scope cl C X.env) fp) where
  hN := g.hN
  nd := g.nd
  hs := by rw [← g.hs]; rfl
  kd := hk
  calm := g.calm
  fn := fun x h => by show (scope.names.lookup x == some .cell) = true; rw [h]; rfl
  xe := rfl
  gd := g.gd
  hu := g.hu
  hu5 := g.hu5
  bt := g.bt
  cs := g.cs
  ft := g.ft
  fl := g.fl
theorem bin_all : ∀ (o : Operator), okOp o = true → ∃ r, OpR X (binaryOp o) r ∧ OpOk X.K r (binD o)
  | .Add, _ => ⟨_, o_add, k_add⟩
  | .Sub, _ => ⟨_, op_sub, k_sub⟩
  | .Mult, _ => ⟨_, o_mul, k_mul⟩
  | .FloorDiv, _ => ⟨_, op_fdivW, k_div⟩
  | .Mod, _ => ⟨_, op_mod, k_mod⟩
  | .Pow, _ => ⟨_, op_pow, k_pow⟩
  | .BitAnd, _ => ⟨_, op_and, k_band⟩
  | .MatMult, h | .Div, h | .LShift, h | .RShift, h | .BitOr, h | .BitXor, h => by exact absurd h (by decide)
theorem cmp_all (hu : X.A.units + 64 < cLine) : ∀ (o : CmpOp), okC o = true → ∃ r, OpR X (compareOp o) r ∧ OpB X.K r (cmpD o)
  | .Eq, _ => ⟨_, o_eq hu, k_eq⟩
  | .NotEq, _ => ⟨_, o_ne hu, k_ne⟩
  | .Lt, _ => ⟨_, op_lt, k_lt⟩
  | .LtE, _ => ⟨_, op_le, k_le⟩
  | .Gt, _ => ⟨_, op_gt, k_gt⟩
  | .GtE, _ => ⟨_, op_ge, k_ge⟩
  | .Is, _ => ⟨_, o_is, k_is⟩
  | .IsNot, _ => ⟨_, o_isn, k_isn⟩
  | .In, h | .NotIn, h => by exact absurd h (by decide)
theorem cmp_all2 (hu : X.A.units + 64 < cLine) (hu5 : X.A.units + 65 < cLine) : ∀ (o : CmpOp), okD o = true → ∃ r, OpR X (compareOp o) r ∧ OpB X.K r (cmpD o)
  | .Eq, _ => cmp_all hu .Eq rfl
  | .NotEq, _ => cmp_all hu .NotEq rfl
  | .Lt, _ => cmp_all hu .Lt rfl
  | .LtE, _ => cmp_all hu .LtE rfl
  | .Gt, _ => cmp_all hu .Gt rfl
  | .GtE, _ => cmp_all hu .GtE rfl
  | .Is, _ => cmp_all hu .Is rfl
  | .IsNot, _ => cmp_all hu .IsNot rfl
  | .In, _ => ⟨_, o_in hu5, k_in⟩
  | .NotIn, _ => ⟨_, o_nin hu5, k_nin⟩
theorem okC_in {o : CmpOp} (h : okC o = true) (b : Expr) : behindInMarks o b = false := nobehind b (by intro z; subst z; cases h) (by intro z; subst z; cases h)
theorem t_bad {e : Expr} {m : Env → M Bool} (hm : ∀ ρ, m ρ = bad) : PT X e (tT X.K m) := ⟨fun pins s σ H Q I ⟨W, ρ, _, _, _, k, S', e, _⟩ => by rw [hm] at e; cases e⟩
end
end AG
namespace AG
open PySem PySem.Spec PyProof.Rows L2
theorem own_map (N : List Str) (own : List Nat) : (ownOf N own).map (·.2) = own := by
  unfold ownOf
  rw [List.map_map]
  show own.map (fun i => i) = own
  exact List.map_id' own
section
variable {X : Cx} {pos : Pos} {p : Pos} {x : Str} {e : Expr} {es : List Expr} {ms : Env → M (List D)}
theorem b_fn {id : String} {r : List V → Hp → VK → Prop} {f : List D → M D} (hc : CallR X (.builtin id) r) (hk : CallOk X.K r f) (hg : Gl X x) (hm : X.mg x = none) (hv : bootBuiltins x = some (.builtin id)) (hn : x ≠ "__name__") (hd : (x == ("__debug__" : Str)) = false)
    (ha : PA X (e :: es) (tAs X.K ms)) (hs : (e :: es).all nst = true) : PE X (.Call (.Name x p) (e :: es) [] pos) (tI X.K fun ρ => bnd (ms ρ) f) := by
  rw [List.all_cons] at hs
  obtain ⟨h1, h2⟩ := and2 hs
  exact (pe_callB hc hg hm hv ha hn hd (star_cons h1 es _) (plain_args h2)).weak (s_call hk)
theorem b_ty {T : String} {r : List V → Hp → VK → Prop} {f : List D → M D} (hc : CallR X (.type T) r) (hk : CallOk X.K r f) (hg : Gl X x) (hm : X.mg x = none) (hv : bootBuiltins x = some (.type T)) (hn : x ≠ "__name__") (hd : (x == ("__debug__" : Str)) = false)
    (ha : PA X (e :: es) (tAs X.K ms)) (hs : (e :: es).all nst = true) : PE X (.Call (.Name x p) (e :: es) [] pos) (tI X.K fun ρ => bnd (ms ρ) f) := by
  rw [List.all_cons] at hs
  obtain ⟨h1, h2⟩ := and2 hs
  exact (pe_callTy hc hg hm hv ha hn hd (star_cons h1 es _) (plain_args h2)).weak (s_call hk)
theorem intsOf_ok {K : PySem.W.Frag} {W : Wd} : ∀ (xs : List D) (ns : List Int) (vs : List V), intsOf xs = some ns → Reps K W xs vs → vs = ns.map V.int
  | [], ns, vs, e, r => by simp only [intsOf, Option.some.injEq] at e; simp only [Reps] at r; subst e r; rfl
  | x :: xs, ns, vs, e, r => by
    cases x with
    | int i =>
      simp only [intsOf] at e
      cases q : intsOf xs with
      | none => rw [q] at e; cases e
      | some l =>
        rw [q] at e
        cases e
        simp only [Reps] at r
        obtain ⟨v, us, rfl, h1, h2⟩ := r
        rw [rep_int h1, intsOf_ok xs l us q h2]
        rfl
    | _ => simp only [intsOf] at e; cases e
theorem maxI_ok : ∀ (ns : List Int) (m : Int), maxI ns = some m → ∀ z, z ∈ ns → (∀ y, y ∈ ns → y ≤ z) → z = m
  | [], m, e, z, hz, _ => nomatch hz
  | i :: r, m, e, z, hz, hm => by
    simp only [maxI] at e
    cases q : maxI r with
    | none =>
      rw [q] at e
      cases e
      cases r with
      | nil => exact List.mem_singleton.mp hz
      | cons a b =>
        simp only [maxI] at q
        split at q <;> cases q
    | some m' =>
      rw [q] at e
      cases e
      have key : ∀ (l : List Int) (m : Int), maxI l = some m → m ∈ l := by
        intro l
        induction l with
        | nil => intro m e; cases e
        | cons a b ih =>
          intro m e
          simp only [maxI] at e
          cases q : maxI b with
          | none => rw [q] at e; cases e; exact List.mem_cons_self ..
          | some m2 =>
            rw [q] at e
            cases e
            rcases Int.le_total a m2 with h | h
            · rw [Int.max_eq_right h]; exact List.mem_cons_of_mem _ (ih _ q)
            · rw [Int.max_eq_left h]; exact List.mem_cons_self ..
      have h1 := hm i (List.mem_cons_self ..)
      have h2 := hm m' (List.mem_cons_of_mem _ (key r m' q))
      rcases List.mem_cons.mp hz with h | h
      · subst h; omega
      · by_cases hall : i ≤ m'
        · have := maxI_ok r m' q z h fun y hy => hm y (List.mem_cons_of_mem _ hy)
          omega
        · have := maxI_ok r m' q z h fun y hy => hm y (List.mem_cons_of_mem _ hy)
          omega
theorem ok_max1 {K : PySem.W.Frag} : CallOk K (rMax K) (biD .max1) := by
  intro W ds vs d S' Q A r e k
  change max1B ds W.S = _ at e
  unfold max1B at e
  split at e
  · rename_i xs
    cases q : intsOf xs with
    | none => rw [q] at e; cases e
    | some ns =>
      rw [q] at e
      simp only [] at e
      cases q2 : maxI ns with
      | none => rw [q2] at e; cases e
      | some m =>
        rw [q2] at e
        obtain ⟨rfl, rfl⟩ := ret_ok e
        obtain ⟨v, rfl, r1⟩ := reps1 r
        simp only [Rep] at r1
        obtain ⟨p, us, rfl, hp, _, _, r2⟩ := r1
        have hu := intsOf_ok xs ns us q r2
        refine ⟨p, ns, rfl, by rw [← hu]; exact SqL.of hp, ?_, fun z hz hm => ?_⟩
        · cases ns with
          | nil => cases q2
          | cons _ _ => exact Nat.zero_lt_succ _
        · rw [maxI_ok ns m q2 z hz hm]
          exact k W _ (Nxt.refl A) (int_rep _)
  · cases e
def rLcm : List V → Hp → VK → Prop := fun vs H Q => ∃ a b : Int, vs = [.int a, .int b] ∧ a.natAbs < 2 ^ 60 ∧ b.natAbs < 2 ^ 60 ∧ Q (.int (Nat.lcm a.natAbs b.natAbs : Nat)) H
theorem cr_lcm : CallR X (.builtin "math.lcm") rLcm := by
  intro pins s σ H vs us Q I r h
  obtain ⟨a, b, rfl, ha, hb, q⟩ := h
  obtain ⟨t, u, rfl⟩ := Vals.int2 r
  have h1 : a.natAbs.lcm b.natAbs ≤ a.natAbs * b.natAbs := PySem.W.mc_lcm_le _ _
  have h2 : a.natAbs * b.natAbs ≤ 2 ^ 60 * 2 ^ 60 := Nat.mul_le_mul (Nat.le_of_lt ha) (Nat.le_of_lt hb)
  have e : (Nat.lcm 1 a.natAbs).lcm b.natAbs = a.natAbs.lcm b.natAbs := by rw [PySem.W.mc_lcm_one]
  refine PySem.W.mg_lcm (Nat.lt_trans ha (by decide)) (Nat.lt_trans hb (by decide)) ?_ ?_
  · rw [e]
    refine PySem.W.mc_size (k := 2) ?_ (by decide)
    have h3 : (2 : Nat) ^ 60 * 2 ^ 60 ≤ 2 ^ (64 * 2) := by decide
    rw [Int.natAbs_natCast]
    exact Nat.le_trans h1 (Nat.le_trans h2 h3)
  · rw [e]
    exact ⟨.int _, H, I.tok _, ⟨_, rfl⟩, q⟩
theorem ok_lcm {K : PySem.W.Frag} : CallOk K rLcm lcmB := by
  intro W ds vs d S' Q A r e k
  unfold lcmB at e
  split at e
  · rename_i i j
    obtain ⟨c, e⟩ := need_ok e
    obtain ⟨rfl, rfl⟩ := ret_ok e
    obtain ⟨c, c4⟩ := and2 c
    obtain ⟨c, c3⟩ := and2 c
    obtain ⟨c1, c2⟩ := and2 c
    have c1 := of_decide_eq_true c1
    have c2 := of_decide_eq_true c2
    have c3 := of_decide_eq_true c3
    have c4 := of_decide_eq_true c4
    obtain ⟨v, w, rfl, r1, r2⟩ := reps2 r
    rw [rep_int r1, rep_int r2]
    have e1 : i.natAbs = i.toNat := by omega
    have e2 : j.natAbs = j.toNat := by omega
    refine ⟨_, _, rfl, by omega, by omega, ?_⟩
    rw [e1, e2]
    exact k W _ (Nxt.refl A) (int_rep _)
  · cases e
theorem maxI_cons (y : Int) (ys : List Int) : ∃ m, maxI (y :: ys) = some m := by
  simp only [maxI]
  cases maxI ys with
  | none => exact ⟨_, rfl⟩
  | some m => exact ⟨_, rfl⟩
theorem maxI_fold : ∀ (ys : List Int) (y : Int), maxI (y :: ys) = some (ys.foldl (fun a z => if decide (a < z) = true then z else a) y)
  | [], y => rfl
  | z :: zs, y => by
    rw [List.foldl_cons, ← maxI_fold zs]
    simp only [maxI]
    have e : (if decide (y < z) = true then z else y) = max y z := by
      by_cases h : y < z
      · rw [if_pos (decide_eq_true h), Int.max_eq_right (by omega)]
      · rw [if_neg (by simpa using h), Int.max_eq_left (by omega)]
    rw [e]
    cases maxI zs with
    | none => rfl
    | some m =>
      show some (max y (max z m)) = some (max (max y z) m)
      congr 1
      omega
def rMaxd (K : PySem.W.Frag) (j : Int) : List V → List V → Hp → VK → Prop := fun xs zs H Q => ∃ (a : Addr) (ns : List Int), xs = [.ref a] ∧ zs = [.int j] ∧ SqL K H a (ns.map V.int) ∧ Q (.int ((maxI ns).getD j)) H
theorem cr_maxd (hc : X.calm = true) (hu : X.A.units + 65 < cLine) (j : Int) : CallRK X (.builtin "max") [Str.ofString "default"] (rMaxd X.K j) := by
  intro pins s σ H xs zs us ws Q I r r2 h
  obtain ⟨a, ns, rfl, rfl, hs, q⟩ := h
  obtain ⟨its, rv, hl, _⟩ := I.list hs
  rw [Vals.ref1 r]
  cases r2 with
  | cons ry rt =>
    cases rt
    obtain ⟨t, rfl⟩ := ry
    have hi := rv.ints
    refine PySem.W.max_list_datum_default (α := Int) (I.ok.hd hc) hl.isList (xs := ns) (PySem.W.HoldAll.of_ints hi) (by show X.A.units + 1 + 0 < cLine; omega) (fun e h' tk hk => ?_) fun y ys i v h' tk e hv hH hk => ?_
    · subst e
      exact ⟨.int j, H, I.kept hk, ⟨t, rfl⟩, q⟩
    · subst e
      obtain ⟨as, hr⟩ := hH
      have hr' : Reads h' v (.int (PySem.W.maxOf y ys)) as := hr
      cases hr' with
      | int _ t =>
        refine ⟨.int _, H, I.kept hk, ⟨t, rfl⟩, ?_⟩
        rw [maxI_fold] at q
        exact q
theorem s_maxd {a : Expr} {ma : Env → M D} {j : Int} {kk : Nat} {kp cp : Pos} {p pos : Pos} (hc : X.calm = true) (hu : X.A.units + 65 < cLine) (hg : Gl X "max") (hm : X.mg "max" = none) (ha : PE X a (tI X.K ma))
    (hs : starEach [a] X.env = (false, eval a X.env) :: starEach [] X.env) : PE X (.Call (.Name "max" p) [a] [⟨some "default", .Constant (.int j) kk kp, cp⟩] pos) (tI X.K fun ρ => bnd (ma ρ) (maxdD j)) := by
  refine (pe_callBK (cr_maxd hc hu j) hg hm (by decide +kernel) (s_cons ha s_nil hs) (pk_cons pe_int pk_nil) (by decide) (by decide) (by rw [hs]; rfl) (by rw [hs]; rfl) rfl rfl rfl).weak ?_
  rintro σ H Q ⟨W, ρ, rfl, A, sl, d, S', e, k⟩
  obtain ⟨x, S1, e1, e⟩ := bnd_ok e
  refine ⟨W, ρ, rfl, A, sl, [x], S1, bnd_mk e1 rfl, fun W1 vs N r => ?_⟩
  obtain ⟨v, rfl, r1⟩ := reps1 r
  unfold maxdD at e
  split at e
  · rename_i xs
    cases q : intsOf xs with
    | none => rw [q] at e; cases e
    | some ns =>
      rw [q] at e
      simp only [Rep] at r1
      obtain ⟨b, us, rfl, hp, _, _, r2⟩ := r1
      have hu := intsOf_ok xs ns us q r2
      refine ⟨b, ns, rfl, rfl, by rw [← hu]; exact SqL.of hp, ?_⟩
      simp only [] at e
      cases q2 : maxI ns with
      | none =>
        rw [q2] at e
        obtain ⟨rfl, rfl⟩ := ret_ok e
        exact k W1 _ N (int_rep _)
      | some m =>
        rw [q2] at e
        obtain ⟨rfl, rfl⟩ := ret_ok e
        exact k W1 _ N (int_rep _)
  · cases e
theorem s_lcm (hg : Gl X x) (hm : X.mg x = some (.builtin "math.lcm")) (hd : (x == ("__debug__" : Str)) = false) (ha : PA X (e :: es) (tAs X.K ms)) (hs : (e :: es).all nst = true) :
    PE X (.Call (.Name x p) (e :: es) [] pos) (tI X.K fun ρ => bnd (ms ρ) lcmB) := by
  rw [List.all_cons] at hs
  obtain ⟨h1, h2⟩ := and2 hs
  exact (pe_callBfun cr_lcm hg hm ha hd (star_cons h1 es _) (plain_args h2)).weak (s_call ok_lcm)
theorem ok_sum {K : PySem.W.Frag} : CallOk K (rSum K) (biD .sum) := by
  intro W ds vs d S' Q A r e k
  change sumB ds W.S = _ at e
  unfold sumB at e
  split at e
  · rename_i xs
    cases q : intsOf xs with
    | none => rw [q] at e; cases e
    | some ns =>
      rw [q] at e
      obtain ⟨_, e⟩ := need_ok e
      obtain ⟨rfl, rfl⟩ := ret_ok e
      obtain ⟨v, rfl, r1⟩ := reps1 r
      simp only [Rep] at r1
      obtain ⟨p, us, rfl, hp, _, _, r2⟩ := r1
      have hu := intsOf_ok xs ns us q r2
      exact ⟨p, ns, rfl, by rw [← hu]; exact SqL.of hp, k W _ (Nxt.refl A) (int_rep _)⟩
  · cases e
theorem insI_perm (i : Int) : ∀ l : List Int, (insI i l).Perm (i :: l)
  | [] => .refl _
  | j :: r => by
    simp only [insI]
    split
    · exact .refl _
    · exact ((insI_perm i r).cons j).trans (.swap i j r)
theorem sortI_perm : ∀ l : List Int, (sortI l).Perm l
  | [] => .refl _
  | i :: r => (insI_perm i (sortI r)).trans ((sortI_perm r).cons i)
theorem insI_srt (i : Int) : ∀ l : List Int, l.Pairwise (· ≤ ·) → (insI i l).Pairwise (· ≤ ·)
  | [], _ => by simp [insI]
  | j :: r, h => by
    simp only [insI]
    rw [List.pairwise_cons] at h
    split
    · rename_i hij
      rw [List.pairwise_cons]
      refine ⟨fun x hx => ?_, List.pairwise_cons.mpr h⟩
      rcases List.mem_cons.mp hx with z | z
      · rw [z]; exact hij
      · exact Int.le_trans hij (h.1 x z)
    · rename_i hij
      rw [List.pairwise_cons]
      refine ⟨fun x hx => ?_, insI_srt i r h.2⟩
      rcases List.mem_cons.mp ((insI_perm i r).mem_iff.mp hx) with z | z
      · rw [z]; omega
      · exact h.1 x z
theorem sortI_srt : ∀ l : List Int, (sortI l).Pairwise (· ≤ ·)
  | [] => .nil
  | i :: r => insI_srt i _ (sortI_srt r)
theorem sortI_uniq {l m : List Int} (h : m.Perm l) (hs : m.Pairwise (· ≤ ·)) : m = sortI l :=
  List.Perm.eq_of_pairwise (le := (· ≤ ·)) (fun a b _ _ h1 h2 => Int.le_antisymm h1 h2) hs (sortI_srt l) (h.trans (sortI_perm l).symm)
theorem reps_ints {K : PySem.W.Frag} {W : Wd} : ∀ l : List Int, Reps K W (l.map D.int) (l.map V.int)
  | [] => by simp only [List.map_nil, Reps]
  | i :: l => by
    simp only [List.map_cons, Reps]
    exact ⟨_, _, rfl, int_rep i, reps_ints l⟩
theorem ok_sorted {K : PySem.W.Frag} : CallOk K (rSortedI K) (biD .sorted) := by
  intro W ds vs d S' Q A r e k
  change sortB ds W.S = _ at e
  unfold sortB at e
  split at e
  · rename_i xs
    cases q : intsOf xs with
    | none => rw [q] at e; cases e
    | some ns =>
      rw [q] at e
      obtain ⟨_, e⟩ := need_ok e
      obtain ⟨rfl, rfl⟩ := ret_ok e
      obtain ⟨v, rfl, r1⟩ := reps1 r
      simp only [Rep] at r1
      obtain ⟨p, us, rfl, hp, _, _, r2⟩ := r1
      have hu := intsOf_ok xs ns us q r2
      refine ⟨p, ns, rfl, by rw [← hu]; exact SqL.of hp, fun ms q hm hs hq => ?_⟩
      rw [sortI_uniq hm hs]
      obtain ⟨N, r⟩ := new_lst A hq (reps_ints (K := K) (W := W) (sortI ns))
      exact k _ _ N r
  · cases e
theorem mform {es : List Expr} {pos : Pos} {env : PySem.Env} (h : es.all nst = true) (hl : es.length < 30) : methodCallForm es.length (backTo pos (starEach es env)) (backToKw pos (keywordEach [] env)) = true := by
  have key : ∀ es : List Expr, es.all nst = true → (backTo pos (starEach es env)).all (fun x => !x.1) = true := by
    intro es
    induction es with
    | nil => intro _; rfl
    | cons e es ih =>
      intro h
      rw [List.all_cons] at h
      obtain ⟨h1, h2⟩ := and2 h
      rw [star_cons h1]
      exact ih h2
  unfold methodCallForm
  rw [key es h]
  show (true && true && decide (es.length + (if ([] : List (Option Str × Sem Value)).isEmpty then 0 else 1) < 30)) = true
  simpa using hl
theorem b_all (hc : X.calm = true) (hgd : X.A.guards = some []) (hu : X.A.units + 64 < cLine) (b : Bi) (hx : x = Str.ofString b.name) (hg : Gl X x) (hm : X.mg x = none) (ha : PA X (e :: es) (tAs X.K ms)) (hs : (e :: es).all nst = true) :
    PE X (.Call (.Name x p) (e :: es) [] pos) (tI X.K fun ρ => bnd (ms ρ) (biD b)) := by
  subst hx
  cases b with
  | max1 => exact b_fn (cr_max hc) ok_max1 hg hm (by decide +kernel) (by decide) (by decide) ha hs
  | len => exact b_fn call_len_seq ok_len hg hm (by decide +kernel) (by decide) (by decide) ha hs
  | max2 => exact b_fn (call_max2 hc) ok_max hg hm (by decide +kernel) (by decide) (by decide) ha hs
  | min2 => exact b_fn (call_min2 hc) ok_min hg hm (by decide +kernel) (by decide) (by decide) ha hs
  | tup => exact b_ty call_tuple_of ok_tup hg hm (by decide +kernel) (by decide) (by decide) ha hs
  | lst => exact b_ty call_list_of ok_lst hg hm (by decide +kernel) (by decide) (by decide) ha hs
  | repr => exact b_fn (call_repr_dat hgd hu) ok_repr hg hm (by decide +kernel) (by decide) (by decide) ha hs
  | all => exact b_fn (cr_all hc) ok_all hg hm (by decide +kernel) (by decide) (by decide) ha hs
  | sum => exact b_fn (cr_sum hc) ok_sum hg hm (by decide +kernel) (by decide) (by decide) ha hs
  | sorted => exact b_fn cr_sortedI ok_sorted hg hm (by decide +kernel) (by decide) (by decide) ha hs
end
section
variable {G : Tb} {Φ : String → List D → M D} {N : List Str}
mutual
theorem sndE : ∀ (ir : Ex) (sc : Sx) (X : Cx) (e : Expr), Good G Φ N sc X → chk G N ir sc e = true → PE X e (tI X.K (ev Φ ir))
  | .var i, sc, X, e, g, h => by
    simp only [chk] at h
    split at h
    · obtain ⟨h, h4⟩ := and2 h
      obtain ⟨h, h3⟩ := and2 h
      obtain ⟨h1, h2⟩ := and2 h
      simp only [ev]
      exact s_var (by rw [g.hN]; exact of_decide_eq_true h1) (by rw [g.hs]; exact isVis_ok h2) (not_b h3) (not_b h4)
    · cases h
  | .int i, sc, X, e, g, h => by
    simp only [chk] at h
    split at h
    · rw [eq_of_beq h]
      simp only [ev]
      exact s_const pe_int fun _ => int_rep _
    · cases h
  | .bl b, sc, X, e, g, h => by
    simp only [chk] at h
    split at h
    · rw [eq_of_beq h]
      simp only [ev]
      exact s_const pe_bl fun _ => bl_rep _
    · cases h
  | .non, sc, X, e, g, h => by
    simp only [chk] at h
    split at h
    · simp only [ev]
      exact s_const pe_non fun _ => by simp only [Rep]
    · cases h
  | .str s, sc, X, e, g, h => by
    simp only [chk] at h
    split at h
    · rw [dec_eq h]
      simp only [ev]
      exact s_const pe_str fun _ => str_rep _
    · cases h
  | .glob x i, sc, X, e, g, h => by
    simp only [chk] at h
    split at h
    · obtain ⟨h, h4⟩ := and2 h
      obtain ⟨h, h3⟩ := and2 h
      obtain ⟨h1, h2⟩ := and2 h
      have hx := dec_eq h1
      subst hx
      obtain ⟨t, ht⟩ := g.cs _ _ (of_decide_eq_true h3)
      simp only [ev]
      exact s_const (pe_glob (g.gl h2) ht (show RelV (.int i) _ from ⟨t, rfl⟩) (not_b h4)) fun _ => int_rep _
    · cases h
  | .bin o a b, sc, X, e, g, h => by
    simp only [chk] at h
    split at h
    · obtain ⟨h, h4⟩ := and2 h
      obtain ⟨h, h3⟩ := and2 h
      obtain ⟨h1, h2⟩ := and2 h
      have ho := dec_eq h1
      subst ho
      obtain ⟨r, q1, q2⟩ := bin_all (X := X) o h2
      simp only [ev]
      exact s_bin q1 q2 (sndE a sc X _ g h3) (sndE b sc X _ g h4)
    · cases h
  | .neg a, sc, X, e, g, h => by
    simp only [chk] at h
    split at h
    · simp only [ev]
      exact s_neg (sndE a sc X _ g h)
    · cases h
  | .cmp o a b, sc, X, e, g, h => by
    simp only [chk] at h
    split at h
    · obtain ⟨h, h4⟩ := and2 h
      obtain ⟨h, h3⟩ := and2 h
      obtain ⟨h1, h2⟩ := and2 h
      have ho := dec_eq h1
      subst ho
      obtain ⟨h2, hb⟩ := and2 h2
      obtain ⟨r, q1, q2⟩ := cmp_all2 (X := X) g.hu g.hu5 o h2
      simp only [ev]
      exact s_cmp q1 q2 (sndE a sc X _ g h3) (sndE b sc X _ g h4) (not_b hb)
    · cases h
  | .chain o p a b c, sc, X, e, g, h => by
    simp only [chk] at h
    split at h
    · obtain ⟨h, h7⟩ := and2 h
      obtain ⟨h, h6⟩ := and2 h
      obtain ⟨h, h5⟩ := and2 h
      obtain ⟨h, h4⟩ := and2 h
      obtain ⟨h, h3⟩ := and2 h
      obtain ⟨h1, h2⟩ := and2 h
      have ho := dec_eq h1
      have hp := dec_eq h2
      subst ho hp
      obtain ⟨r, q1, q2⟩ := cmp_all (X := X) g.hu o h3
      obtain ⟨r', q3, q4⟩ := cmp_all (X := X) g.hu p h4
      simp only [ev]
      exact s_chain q1 q3 q2 q4 (sndE a sc X _ g h5) (sndE b sc X _ g h6) (sndE c sc X _ g h7) (okC_in h3 _) (okC_in h4 _)
    · cases h
  | .and a b, sc, X, e, g, h => by
    simp only [chk] at h
    split at h
    · rename_i x y r pos
      obtain ⟨h1, h2⟩ := and2 h
      have q := sndE b sc X _ g h2
      simp only [ev]
      refine s_and (sndE a sc X _ g h1) ?_
      cases r with
      | nil => exact pe_one q
      | cons z r => exact q
    · cases h
  | .or a b, sc, X, e, g, h => by
    simp only [chk] at h
    split at h
    · rename_i x y r pos
      obtain ⟨h1, h2⟩ := and2 h
      have q := sndE b sc X _ g h2
      simp only [ev]
      refine s_or (sndE a sc X _ g h1) ?_
      cases r with
      | nil => exact pe_one q
      | cons z r => exact q
    · cases h
  | .not a, sc, X, e, g, h => by
    simp only [chk] at h
    split at h
    · simp only [ev]
      exact s_not (sndE a sc X _ g h)
    · cases h
  | .ife c a b, sc, X, e, g, h => by
    simp only [chk] at h
    split at h
    · obtain ⟨h, h3⟩ := and2 h
      obtain ⟨h1, h2⟩ := and2 h
      simp only [ev]
      exact s_ife (sndT c sc X _ g h1) (sndE a sc X _ g h2) (sndE b sc X _ g h3)
    · cases h
  | .tup es, sc, X, e, g, h => by
    simp only [chk] at h
    split at h
    · simp only [ev]
      exact s_tup (sndD es sc X _ g h)
    · cases h
  | .lst m es, sc, X, e, g, h => by
    simp only [chk] at h
    split at h
    · simp only [ev]
      exact s_lst (sndD es sc X _ g h)
    · cases h
  | .ix a i, sc, X, e, g, h => by
    simp only [chk] at h
    split at h
    · obtain ⟨h, h3⟩ := and2 h
      obtain ⟨h1, h2⟩ := and2 h
      simp only [ev]
      exact s_ix (sndE a sc X _ g h2) (sndE i sc X _ g h3) (plain_ix h1)
    · cases h
  | .sl m a lo hi, sc, X, e, g, h => by
    simp only [chk] at h
    split at h
    · obtain ⟨h, h3⟩ := and2 h
      obtain ⟨h1, h2⟩ := and2 h
      simp only [ev]
      exact s_sl (sndE a sc X _ g h1) (sndO lo sc X _ g h2) (sndO hi sc X _ g h3)
    · cases h
  | .call f as, sc, X, e, g, h => by
    simp only [chk] at h
    split at h
    · rename_i x p xs pos
      obtain ⟨h, h4⟩ := and2 h
      obtain ⟨h, h3⟩ := and2 h
      obtain ⟨h, h2⟩ := and2 h
      obtain ⟨fq, h1, hq⟩ := nm_ok h
      obtain ⟨fa, k, F, hr, hat⟩ := g.ft f _ _ h1
      obtain ⟨hm, hk⟩ := hq _ _ _ hat
      have hr := hr.mono (Nat.le_succ k)
      have ha := sndA as sc X _ g h4
      have hn := chks_nst as sc xs h4
      have hl := evs_len (Φ := Φ) as sc xs h4
      simp only [ev]
      cases xs with
      | nil =>
        refine (g_call0 F g.gd hr (g.gl h2) hm hk (not_b h3)).weak ?_
        rintro σ H Q ⟨W, ρ, rfl, A, sl, d, S', e, q⟩
        obtain ⟨ds, S1, e1, e2⟩ := bnd_ok e
        have h0 := hl _ _ _ _ e1
        have hd : ds = [] := by
          cases ds with
          | nil => rfl
          | cons _ _ => simp at h0
        subst hd
        cases as with
        | nil =>
          simp only [evs] at e1
          obtain ⟨_, rfl⟩ := ret_ok e1
          exact ⟨rfl, W, [], rfl, A, by simp only [Reps], d, S', e2, q⟩
        | cons _ _ => simp only [chks] at h4; cases h4
        | star _ _ => simp only [chks] at h4; cases h4
      | cons y ys =>
        rw [List.all_cons] at hn
        obtain ⟨n1, n2⟩ := and2 hn
        exact (g_call F g.gd hr (g.gl h2) hm hk ha (not_b h3) (star_cons n1 ys _) (plain_args n2)).weak (f_call fun ρ S xs S' e => hl ρ S xs S' e)
    · cases h
  | .fld c f o, sc, X, e, g, h => by
    simp only [chk] at h
    split at h
    · obtain ⟨h, h4⟩ := and2 h
      obtain ⟨h, h3⟩ := and2 h
      obtain ⟨h1, h2⟩ := and2 h
      have hx := dec_eq h1
      subst hx
      obtain ⟨C, T, hn⟩ := g.fl _ _ (of_decide_eq_true h2)
      simp only [ev]
      exact s_fld T hn (sndE o sc X _ g h4) h3
    · cases h
  | .meth f c m o as, sc, X, e, g, h => by
    simp only [chk] at h
    split at h
    · rename_i x at_ ap xs cp
      obtain ⟨h, h7⟩ := and2 h
      obtain ⟨h, h6⟩ := and2 h
      obtain ⟨h, h5⟩ := and2 h
      obtain ⟨h, h4⟩ := and2 h
      obtain ⟨h, h3⟩ := and2 h
      obtain ⟨h1, h2⟩ := and2 h
      have hx := dec_eq h1
      subst hx
      obtain ⟨fa, k, F, hr, ⟨C, T, hm⟩⟩ := g.ft f _ _ (dec_eq h2)
      have hr := hr.mono (Nat.le_succ k)
      have ha := sndA as sc X _ g h7
      have hn := chks_nst as sc xs h7
      have hl := evs_len (Φ := Φ) as sc xs h7
      have hf := mform (pos := cp) (env := X.env) hn (of_decide_eq_true h5)
      simp only [ev]
      cases xs with
      | nil =>
        refine (g_meth0 (sndE o sc X _ g h6) h3 T.cls hm F g.gd hr h4).weak fun σ H Q h => ?_
        have hh := m_call (X := X) (m := Str.ofString m) (ms := evs Φ as) T rfl (n := 0 + 1) (fun ρ S xs S' e => by rw [hl ρ S xs S' e]; rfl) σ H Q h
        have e0 : tAs X.K (evs Φ as) = tAs X.K (evs Φ .nil) := by
          cases as with
          | nil => rfl
          | cons _ _ => simp only [chks] at h7; cases h7
          | star _ _ => simp only [chks] at h7; cases h7
        rw [e0] at hh
        obtain ⟨W, ρ, rfl, A, sl, d, S', e, k⟩ := hh
        refine ⟨W, ρ, rfl, A, sl, d, S', e, fun W1 v N r => ?_⟩
        obtain ⟨a, dx, fs, q1, q2, q3, W2, ρ2, q4, A2, _, ds, S2, e2, k2⟩ := k W1 v N r
        simp only [evs] at e2
        obtain ⟨rfl, rfl⟩ := ret_ok e2
        refine ⟨a, dx, fs, q1, q2, q3, ?_⟩
        have := k2 W2 [] (Nxt.refl A2) (by simp only [Reps])
        rw [q4] at this
        exact this
      | cons y ys =>
        rw [List.all_cons] at hn
        obtain ⟨n1, n2⟩ := and2 hn
        exact (g_meth (sndE o sc X _ g h6) h3 T.cls hm F g.gd hr ha (star_cons n1 ys _) (plain_args n2) hf h4).weak (m_call T rfl fun ρ S xs S' e => by rw [hl ρ S xs S' e])
    · cases h
  | .make c f as, sc, X, e, g, h => by
    simp only [chk] at h
    split at h
    · rename_i x p y ys pos
      obtain ⟨h, h5⟩ := and2 h
      obtain ⟨h, h4⟩ := and2 h
      obtain ⟨h, h3⟩ := and2 h
      obtain ⟨h1, h2⟩ := and2 h
      have hx := dec_eq h1
      subst hx
      obtain ⟨fa, k, F, hr, ⟨C, T, M, hm⟩⟩ := g.ft f _ _ (dec_eq h2)
      have hn := chks_nst as sc _ h5
      have hl := evs_len (Φ := Φ) as sc _ h5
      rw [List.all_cons] at hn
      obtain ⟨n1, n2⟩ := and2 hn
      simp only [ev]
      exact (g_make M F g.gd hr (g.gl h3) hm (sndA as sc X _ g h5) (not_b h4) (star_cons n1 ys _) (plain_args n2)).weak (mk_call T fun ρ S xs S' e => by rw [hl ρ S xs S' e]; rfl)
    · cases h
  | .dget d k, sc, X, e, g, h => by
    simp only [chk] at h
    split at h
    · obtain ⟨h, h3⟩ := and2 h
      obtain ⟨h1, h2⟩ := and2 h
      simp only [ev]
      exact s_dget (by have := g.hu; omega) (sndE d sc X _ g h2) (sndE k sc X _ g h3) (plain_ix h1)
    · cases h
  | .din n k d, sc, X, e, g, h => by
    simp only [chk] at h
    split at h
    · obtain ⟨h, h4⟩ := and2 h
      obtain ⟨h, h3⟩ := and2 h
      obtain ⟨h1, h2⟩ := and2 h
      simp only [ev]
      exact s_din (by have := g.hu; omega) (sndE k sc X _ g h3) (sndE d sc X _ g h4) (dec_eq h1) (not_b h2)
    · cases h
  | .dnew t, sc, X, e, g, h => by
    simp only [chk] at h
    split at h
    · simp only [ev]
      exact s_dnew
    · cases h
  | .mulL m a b, sc, X, e, g, h => by
    simp only [chk] at h
    split at h
    · obtain ⟨h, h3⟩ := and2 h
      obtain ⟨h1, h2⟩ := and2 h
      have ho := dec_eq h1
      subst ho
      simp only [ev]
      exact s_bin o_mul (fun W d1 d2 v1 v2 d S' Q A r1 r2 e k => mulLD_ok A r1 r2 e k) (sndE a sc X _ g h2) (sndE b sc X _ g h3)
    · cases h
  | .tenp a, sc, X, e, g, h => by
    simp only [chk] at h
    split at h
    · obtain ⟨h, h8⟩ := and2 h
      obtain ⟨h, h7⟩ := and2 h
      obtain ⟨h, h6⟩ := and2 h
      obtain ⟨h, h5⟩ := and2 h
      obtain ⟨h, h4⟩ := and2 h
      obtain ⟨h, h3⟩ := and2 h
      obtain ⟨h1, h2⟩ := and2 h
      have q1 := dec_eq h1
      have q2 := dec_eq h2
      have q3 := dec_eq h3
      have q4 := dec_eq h4
      have q5 := dec_eq h5
      subst q1 q2 q3 q4 q5
      simp only [ev]
      exact s_tenp (g.gl h7) (g.bt _ (of_decide_eq_true h6)) (sndE a sc X _ g h8) (fun e he => star_cons (by cases e <;> first | rfl | cases he) _ _)
    · cases h
  | .bi b as, sc, X, e, g, h => by
    simp only [chk] at h
    split at h
    · obtain ⟨h, h4⟩ := and2 h
      obtain ⟨h, h3⟩ := and2 h
      obtain ⟨h1, h2⟩ := and2 h
      simp only [ev]
      exact b_all g.calm g.gd g.hu b (dec_eq h1) (g.gl h3) (g.bt _ (of_decide_eq_true h2)) (sndA as sc X _ g h4) (chks_nst as sc _ h4)
    · cases h
  | .lrg m a, sc, X, e, g, h => by
    simp only [chk] at h
    split at h
    · obtain ⟨h, h8⟩ := and2 h
      obtain ⟨h, h7⟩ := and2 h
      obtain ⟨h, h6⟩ := and2 h
      obtain ⟨h, h5⟩ := and2 h
      obtain ⟨h, h4⟩ := and2 h
      obtain ⟨h, h3⟩ := and2 h
      obtain ⟨h1, h2⟩ := and2 h
      have q1 := dec_eq h1
      have q2 := dec_eq h2
      subst q1 q2
      simp only [ev]
      exact s_lrg g.calm (g.gl h5) (g.bt _ (of_decide_eq_true h3)) (g.gl h6) (g.bt _ (of_decide_eq_true h4)) (sndE a sc X _ g h8) (star_cons h7 _ _)
    · cases h
  | .trg a, sc, X, e, g, h => by
    simp only [chk] at h
    split at h
    · obtain ⟨h, h8⟩ := and2 h
      obtain ⟨h, h7⟩ := and2 h
      obtain ⟨h, h6⟩ := and2 h
      obtain ⟨h, h5⟩ := and2 h
      obtain ⟨h, h4⟩ := and2 h
      obtain ⟨h, h3⟩ := and2 h
      obtain ⟨h1, h2⟩ := and2 h
      have q1 := dec_eq h1
      have q2 := dec_eq h2
      subst q1 q2
      simp only [ev]
      exact s_trg g.calm (g.gl h5) (g.bt _ (of_decide_eq_true h3)) (g.gl h6) (g.bt _ (of_decide_eq_true h4)) (sndE a sc X _ g h8) (star_cons h7 _ _)
    · cases h
  | .isi a T, sc, X, e, g, h => by
    simp only [chk] at h
    split at h
    · obtain ⟨h, h8⟩ := and2 h
      obtain ⟨h, h7⟩ := and2 h
      obtain ⟨h, h6⟩ := and2 h
      obtain ⟨h, h5⟩ := and2 h
      obtain ⟨h, h4⟩ := and2 h
      obtain ⟨h, h3⟩ := and2 h
      obtain ⟨h1, h2⟩ := and2 h
      have q1 := dec_eq h1
      have q2 := dec_eq h2
      subst q1 q2
      simp only [ev]
      exact s_isi (g.gl h5) (g.bt _ (of_decide_eq_true h3)) (g.gl h6) (g.bt _ (of_decide_eq_true h4)) (sndE a sc X _ g h8) (star_cons h7 _ _)
    · cases h
  | .popAt o i, sc, X, e, g, h => by
    simp only [chk] at h
    split at h
    · obtain ⟨h, h6⟩ := and2 h
      obtain ⟨h, h5⟩ := and2 h
      obtain ⟨h, h4⟩ := and2 h
      obtain ⟨h, h3⟩ := and2 h
      obtain ⟨h1, h2⟩ := and2 h
      have q1 := dec_eq h1
      subst q1
      simp only [ev]
      exact s_pop (sndE o sc X _ g h5) (sndE i sc X _ g h6) (ab_name h2 _ _) h3 (star_cons h4 _ _)
    · cases h
  | .idxOf o i, sc, X, e, g, h => by
    simp only [chk] at h
    split at h
    · obtain ⟨h, h6⟩ := and2 h
      obtain ⟨h, h5⟩ := and2 h
      obtain ⟨h, h4⟩ := and2 h
      obtain ⟨h, h3⟩ := and2 h
      obtain ⟨h1, h2⟩ := and2 h
      have q1 := dec_eq h1
      subst q1
      simp only [ev]
      exact s_idx g.hu5 (sndE o sc X _ g h5) (sndE i sc X _ g h6) (ab_name h2 _ _) h3 (star_cons h4 _ _)
    · cases h
  | .cntOf o i, sc, X, e, g, h => by
    simp only [chk] at h
    split at h
    · obtain ⟨h, h6⟩ := and2 h
      obtain ⟨h, h5⟩ := and2 h
      obtain ⟨h, h4⟩ := and2 h
      obtain ⟨h, h3⟩ := and2 h
      obtain ⟨h1, h2⟩ := and2 h
      have q1 := dec_eq h1
      subst q1
      simp only [ev]
      exact s_cnt g.hu5 (sndE o sc X _ g h5) (sndE i sc X _ g h6) (ab_name h2 _ _) h3 (star_cons h4 _ _)
    · cases h
  | .opq, sc, X, e, g, h => by
    simp only [ev]
    exact s_opq fun _ => rfl
  | .tyeq a T, sc, X, e, g, h => by
    simp only [chk] at h
    split at h
    · obtain ⟨h, h8⟩ := and2 h
      obtain ⟨h, h7⟩ := and2 h
      obtain ⟨h, h6⟩ := and2 h
      obtain ⟨h, h5⟩ := and2 h
      obtain ⟨h, h4⟩ := and2 h
      obtain ⟨h, h3⟩ := and2 h
      obtain ⟨h1, h2⟩ := and2 h
      have q1 := dec_eq h1
      have q2 := dec_eq h2
      subst q1 q2
      simp only [ev]
      exact s_cmp o_eqTy k_eqTy (pe_typ (g.gl h5) (g.bt _ (of_decide_eq_true h3)) (sndE a sc X _ g h8) (star_cons h7 _ _)) (pe_tyn (g.gl h6) (g.bt _ (of_decide_eq_true h4))) (okC_in (o := .Eq) rfl _)
    · cases h
  | .lcm x es, sc, X, e, g, h => by
    simp only [chk] at h
    split at h
    · obtain ⟨h, h5⟩ := and2 h
      obtain ⟨h, h4⟩ := and2 h
      obtain ⟨h, h3⟩ := and2 h
      obtain ⟨h1, h2⟩ := and2 h
      have q1 := dec_eq h1
      subst q1
      simp only [ev]
      exact s_lcm (g.gl h2) (g.cs _ _ (of_decide_eq_true h3)) (not_b h4) (sndA es sc X _ g h5) (chks_nst es sc _ h5)
    · cases h
  | .maxd a j, sc, X, e, g, h => by
    simp only [chk] at h
    split at h
    · obtain ⟨h, h7⟩ := and2 h
      obtain ⟨h, h6⟩ := and2 h
      obtain ⟨h, h5⟩ := and2 h
      obtain ⟨h, h4⟩ := and2 h
      obtain ⟨h, h3⟩ := and2 h
      obtain ⟨h1, h2⟩ := and2 h
      have q1 := dec_eq h1
      have q2 := dec_eq h2
      have q6 := eq_of_beq h6
      subst q1 q2 q6
      simp only [ev]
      exact s_maxd g.calm g.hu5 (g.gl h4) (g.bt _ (of_decide_eq_true h3)) (sndE a sc X _ g h7) (star_cons h5 _ _)
    · cases h
  | .lc2 m elt tg tg1 own own1 it it1, sc, X, e, g, h => by
    simp only [chk] at h
    split at h
    · rename_i x gs scope pos
      split at h
      · rename_i c c1
        obtain ⟨t, i, ifs, a⟩ := c
        obtain ⟨t1, i1, ifs1, a1⟩ := c1
        simp only [] at h
        obtain ⟨h, h14⟩ := and2 h
        obtain ⟨z1, z2⟩ := and2 h14
        have z1 := List.isEmpty_iff.mp z1
        have z2 := List.isEmpty_iff.mp z2
        subst z1 z2
        obtain ⟨h, hT⟩ := and2 h
        obtain ⟨hT1, hT2⟩ := and2 hT
        obtain ⟨h, h13⟩ := and2 h
        obtain ⟨h, h12⟩ := and2 h
        obtain ⟨h, h11⟩ := and2 h
        obtain ⟨h, h10⟩ := and2 h
        obtain ⟨h, h9⟩ := and2 h
        obtain ⟨h, h8⟩ := and2 h
        obtain ⟨h, h7⟩ := and2 h
        obtain ⟨h, h6⟩ := and2 h
        obtain ⟨h, h5⟩ := and2 h
        obtain ⟨h, h4⟩ := and2 h
        obtain ⟨h, h3⟩ := and2 h
        obtain ⟨h1, h2⟩ := and2 h
        have q1 := dec_eq h1
        have q2 := dec_eq h2
        subst q1 q2
        have hb : BlkOk X.N X.env.scope scope (ownOf N own) := by rw [g.hN, g.hs]; exact blkOk_by h6
        have hmap : (ownOf N own).map (·.2) = own := own_map N own
        have key := pe_lc2 (own := ownOf N own) (vs1 := own1) (pos := pos) g.calm (by rw [g.hN]; exact g.nd) (sndI it sc X t i g hT1 h5) hb
          (fun j hj => by rw [hmap]; exact List.contains_iff_mem.mp (List.all_eq_true.mp h11 j hj))
          (g := gTg X.K tg) (tt := tT X.K fun _ => ret true) (g1 := gTg X.K tg1) (tt1 := tT X.K fun _ => ret true) (te := tI X.K (ev Φ elt)) (wi1 := tIt X.K (evi Φ it1))
          (fun s H C cl fp => (g.blk hb.kind s H C cl fp).tg h7)
          (fun s H C cl fp => sndC .no _ _ [] (g.blk hb.kind s H C cl fp) rfl)
          (fun s H C cl fp => sndI it1 _ _ t1 i1 (g.blk hb.kind s H C cl fp) hT2 h12)
          (fun s H C cl fp => (g.blk hb.kind s H C cl fp).tg h9)
          (fun s H C cl fp => sndC .no _ _ [] (g.blk hb.kind s H C cl fp) rfl)
          (fun s H C cl fp => sndE elt _ _ x (g.blk hb.kind s H C cl fp) h13)
          (fs_plain h3 _) (fun env => fs_plain h4 env)
        rw [hmap] at key
        simp only [ev]
        exact key.weak (lc2_ok (gTg_ok tg) (gTg_ok tg1) (fun j hj => List.contains_iff_mem.mp (List.all_eq_true.mp h8 j hj)) fun j hj => List.contains_iff_mem.mp (List.all_eq_true.mp h10 j hj))
      · cases h
    · cases h
  | .dic0, sc, X, e, g, h => by
    simp only [chk] at h
    split at h
    · simp only [ev]
      exact s_dic0
    · cases h
  | .dic1 i j, sc, X, e, g, h => by
    simp only [chk] at h
    split at h
    · obtain ⟨z1, z2⟩ := and2 h
      have z1 := eq_of_beq z1
      have z2 := eq_of_beq z2
      subst z1 z2
      simp only [ev]
      exact s_dic1 pe_int pe_int
    · cases h
  | .rev a, sc, X, e, g, h => by
    simp only [chk] at h
    split at h
    · obtain ⟨h1, h2⟩ := and2 h
      have q1 := eq_of_beq h1
      subst q1
      simp only [ev]
      exact s_rev (sndE a sc X _ g h2) (pe_m1 pe_int)
    · cases h
  | .lc m elt tg own it cd, sc, X, e, g, h => by
    simp only [chk] at h
    split at h
    · rename_i x t i ifs a scope pos
      obtain ⟨h, h8⟩ := and2 h
      obtain ⟨h, h7⟩ := and2 h
      obtain ⟨h, h6⟩ := and2 h
      obtain ⟨h, h5⟩ := and2 h
      obtain ⟨h, h4⟩ := and2 h
      obtain ⟨h, h3⟩ := and2 h
      obtain ⟨hT, h3⟩ := and2 h3
      obtain ⟨h1, h2⟩ := and2 h
      have q1 := dec_eq h1
      subst q1
      have hb : BlkOk X.N X.env.scope scope (ownOf N own) := by rw [g.hN, g.hs]; exact blkOk_by h4
      have hmap : (ownOf N own).map (·.2) = own := own_map N own
      have key := pe_lc (own := ownOf N own) (pos := pos) g.calm (by rw [g.hN]; exact g.nd) (sndI it sc X t i g hT h3) hb
        (g := gTg X.K tg) (tt := tT X.K (evc Φ cd)) (te := tI X.K (ev Φ elt))
        (fun s H C cl fp => (g.blk hb.kind s H C cl fp).tg h5)
        (fun s H C cl fp => sndC cd _ _ ifs (g.blk hb.kind s H C cl fp) h8)
        (fun s H C cl fp => sndE elt _ _ x (g.blk hb.kind s H C cl fp) h7)
        (fs_plain h2 _)
      rw [hmap] at key
      simp only [ev]
      refine key.weak (lc_ok (gTg_ok tg) fun j hj => ?_)
      have := List.all_eq_true.mp h6 j hj
      exact List.contains_iff_mem.mp this
    · cases h
theorem sndT : ∀ (ir : Ex) (sc : Sx) (X : Cx) (e : Expr), Good G Φ N sc X → chk G N ir sc e = true → PT X e (tT X.K (evt Φ ir))
  | .and a b, sc, X, e, g, h => by
    simp only [chk] at h
    split at h
    · rename_i x y r pos
      obtain ⟨h1, h2⟩ := and2 h
      have q := sndT b sc X _ g h2
      simp only [evt]
      refine PW.pt (w_and (sndT a sc X _ g h1) ?_)
      cases r with
      | nil => exact w_and1 q
      | cons z r => exact w_of q
    · cases h
  | .or a b, sc, X, e, g, h => by
    simp only [chk] at h
    split at h
    · rename_i x y r pos
      obtain ⟨h1, h2⟩ := and2 h
      have q := sndT b sc X _ g h2
      simp only [evt]
      refine PW.pt (w_or (sndT a sc X _ g h1) ?_)
      cases r with
      | nil => exact pw_or1 q
      | cons z r => exact w_of q
    · cases h
  | .not a, sc, X, e, g, h => by
    simp only [chk] at h
    split at h
    · simp only [evt]
      exact t_not (sndT a sc X _ g h)
    · cases h
  | .cmp o a b, sc, X, e, g, h => by
    simp only [chk] at h
    split at h
    · obtain ⟨h, h4⟩ := and2 h
      obtain ⟨h, h3⟩ := and2 h
      obtain ⟨h1, h2⟩ := and2 h
      have ho := dec_eq h1
      subst ho
      obtain ⟨h2, hb⟩ := and2 h2
      obtain ⟨r, q1, q2⟩ := cmp_all2 (X := X) g.hu g.hu5 o h2
      simp only [evt]
      exact t_cmp q1 q2 (sndE a sc X _ g h3) (sndE b sc X _ g h4) (not_b hb)
    · cases h
  | .chain o p a b c, sc, X, e, g, h => by
    simp only [chk] at h
    split at h
    · obtain ⟨h, h7⟩ := and2 h
      obtain ⟨h, h6⟩ := and2 h
      obtain ⟨h, h5⟩ := and2 h
      obtain ⟨h, h4⟩ := and2 h
      obtain ⟨h, h3⟩ := and2 h
      obtain ⟨h1, h2⟩ := and2 h
      have ho := dec_eq h1
      have hp := dec_eq h2
      subst ho hp
      obtain ⟨r, q1, q2⟩ := cmp_all (X := X) g.hu o h3
      obtain ⟨r', q3, q4⟩ := cmp_all (X := X) g.hu p h4
      simp only [evt]
      exact t_chain q1 q3 q2 q4 (sndE a sc X _ g h5) (sndE b sc X _ g h6) (sndE c sc X _ g h7) (okC_in h3 _) (okC_in h4 _)
    · cases h
  | .var i, sc, X, e, g, h => by
    have q := sndE (.var i) sc X e g h
    simp only [ev] at q
    simp only [evt]
    simp only [chk] at h
    split at h
    · exact t_tru q (tru_plain rfl _)
    · cases h
  | .bl b, sc, X, e, g, h => by
    have q := sndE (.bl b) sc X e g h
    simp only [ev] at q
    simp only [evt]
    simp only [chk] at h
    split at h
    · exact t_bool (n := fun _ => ret b) q (tru_plain rfl _)
    · cases h
  | .bin o a b, sc, X, e, g, h => by
    have q := sndE (.bin o a b) sc X e g h
    simp only [ev] at q
    simp only [evt]
    simp only [chk] at h
    split at h
    · exact t_tru q (tru_plain rfl _)
    · cases h
  | .call f as, sc, X, e, g, h => by
    have q := sndE (.call f as) sc X e g h
    simp only [ev] at q
    simp only [evt]
    simp only [chk] at h
    split at h
    · exact t_tru q (tru_plain rfl _)
    · cases h
  | .bi b as, sc, X, e, g, h => by
    have q := sndE (.bi b as) sc X e g h
    simp only [ev] at q
    simp only [evt]
    simp only [chk] at h
    split at h
    · exact t_tru q (tru_plain rfl _)
    · cases h
  | .isi a T, sc, X, e, g, h => by
    have q := sndE (.isi a T) sc X e g h
    simp only [ev] at q
    simp only [evt]
    simp only [chk] at h
    split at h
    · refine t_bool ?_ (tru_plain rfl _)
      simpa only [bnd_assoc] using q
    · cases h
  | .int _, _, _, _, _, _ => t_bad fun _ => rfl
  | .non, _, _, _, _, _ => t_bad fun _ => rfl
  | .str _, _, _, _, _, _ => t_bad fun _ => rfl
  | .glob _ _, _, _, _, _, _ => t_bad fun _ => rfl
  | .neg _, _, _, _, _, _ => t_bad fun _ => rfl
  | .ife _ _ _, _, _, _, _, _ => t_bad fun _ => rfl
  | .tup _, _, _, _, _, _ => t_bad fun _ => rfl
  | .lst _ _, _, _, _, _, _ => t_bad fun _ => rfl
  | .ix a i, sc, X, e, g, h => by
    have q := sndE (.ix a i) sc X e g h
    simp only [ev] at q
    simp only [evt]
    simp only [chk] at h
    split at h
    · exact t_tru q (tru_plain rfl _)
    · cases h
  | .fld c f o, sc, X, e, g, h => by
    have q := sndE (.fld c f o) sc X e g h
    simp only [ev] at q
    simp only [evt]
    simp only [chk] at h
    split at h
    · exact t_tru q (tru_plain rfl _)
    · cases h
  | .dget d k, sc, X, e, g, h => by
    have q := sndE (.dget d k) sc X e g h
    simp only [ev] at q
    simp only [evt]
    simp only [chk] at h
    split at h
    · exact t_tru q (tru_plain rfl _)
    · cases h
  | .din n k d, sc, X, e, g, h => by
    simp only [chk] at h
    split at h
    · obtain ⟨h, h4⟩ := and2 h
      obtain ⟨h, h3⟩ := and2 h
      obtain ⟨h1, h2⟩ := and2 h
      simp only [evt]
      exact t_din (by have := g.hu; omega) (sndE k sc X _ g h3) (sndE d sc X _ g h4) (dec_eq h1) (not_b h2)
    · cases h
  | .meth _ _ _ _ _, _, _, _, _, _ => t_bad fun _ => rfl
  | .make _ _ _, _, _, _, _, _ => t_bad fun _ => rfl
  | .dnew _, _, _, _, _, _ => t_bad fun _ => rfl
  | .mulL _ _ _, _, _, _, _, _ => t_bad fun _ => rfl
  | .tenp _, _, _, _, _, _ => t_bad fun _ => rfl
  | .sl _ _ _ _, _, _, _, _, _ => t_bad fun _ => rfl
  | .lrg _ _, _, _, _, _, _ => t_bad fun _ => rfl
  | .trg _, _, _, _, _, _ => t_bad fun _ => rfl
  | .popAt _ _, _, _, _, _, _ => t_bad fun _ => rfl
  | .tyeq a T, sc, X, e, g, h => by
    simp only [chk] at h
    split at h
    · obtain ⟨h, h8⟩ := and2 h
      obtain ⟨h, h7⟩ := and2 h
      obtain ⟨h, h6⟩ := and2 h
      obtain ⟨h, h5⟩ := and2 h
      obtain ⟨h, h4⟩ := and2 h
      obtain ⟨h, h3⟩ := and2 h
      obtain ⟨h1, h2⟩ := and2 h
      have q1 := dec_eq h1
      have q2 := dec_eq h2
      subst q1 q2
      simp only [evt]
      exact t_cmp o_eqTy k_eqTy (pe_typ (g.gl h5) (g.bt _ (of_decide_eq_true h3)) (sndE a sc X _ g h8) (star_cons h7 _ _)) (pe_tyn (g.gl h6) (g.bt _ (of_decide_eq_true h4))) (okC_in (o := .Eq) rfl _)
    · cases h
  | .lcm _ _, _, _, _, _, _ => t_bad fun _ => rfl
  | .maxd _ _, _, _, _, _, _ => t_bad fun _ => rfl
  | .lc2 _ _ _ _ _ _ _ _, _, _, _, _, _ => t_bad fun _ => rfl
  | .dic0, _, _, _, _, _ => t_bad fun _ => rfl
  | .dic1 _ _, _, _, _, _, _ => t_bad fun _ => rfl
  | .rev _, _, _, _, _, _ => t_bad fun _ => rfl
  | .idxOf _ _, _, _, _, _, _ => t_bad fun _ => rfl
  | .cntOf _ _, _, _, _, _, _ => t_bad fun _ => rfl
  | .opq, _, _, _, _, _ => t_bad fun _ => rfl
  | .lc _ _ _ _ _ _, _, _, _, _, _ => t_bad fun _ => rfl
theorem sndA : ∀ (as : Exs) (sc : Sx) (X : Cx) (es : List Expr), Good G Φ N sc X → chks G N as sc es = true → PA X es (tAs X.K (evs Φ as))
  | .nil, sc, X, es, g, h => by
    cases es with
    | nil => simp only [evs]; exact s_nil
    | cons x xs => simp only [chks] at h; cases h
  | .cons a as, sc, X, es, g, h => by
    cases es with
    | nil => simp only [chks] at h; cases h
    | cons x xs =>
      simp only [chks] at h
      obtain ⟨h, h3⟩ := and2 h
      obtain ⟨h1, h2⟩ := and2 h
      simp only [evs]
      exact s_cons (sndE a sc X x g h2) (sndA as sc X xs g h3) (star_cons h1 _ _)
  | .star a as, sc, X, es, g, h => by simp only [chks] at h; cases h
theorem sndD : ∀ (as : Exs) (sc : Sx) (X : Cx) (es : List Expr), Good G Φ N sc X → chkd G N as sc es = true → PA X es (tAs X.K (evs Φ as))
  | .nil, sc, X, es, g, h => by
    cases es with
    | nil => simp only [evs]; exact s_nil
    | cons x xs => simp only [chkd] at h; cases h
  | .cons a as, sc, X, es, g, h => by
    cases es with
    | nil => simp only [chkd] at h; cases h
    | cons x xs =>
      simp only [chkd] at h
      obtain ⟨h, h3⟩ := and2 h
      obtain ⟨h1, h2⟩ := and2 h
      simp only [evs]
      exact s_cons (sndE a sc X x g h2) (sndD as sc X xs g h3) (star_cons h1 _ _)
  | .star a as, sc, X, es, g, h => by
    simp only [chkd] at h
    split at h
    · obtain ⟨h1, h2⟩ := and2 h
      simp only [evs]
      exact s_star (sndE a sc X _ g h1) (sndD as sc X _ g h2) rfl
    · cases h
theorem sndO : ∀ (a : Exo) (sc : Sx) (X : Cx) (e : Option Expr), Good G Φ N sc X → chko G N a sc e = true → PO X e (tOi X.K (evo Φ a))
  | .no, sc, X, e, g, h => by
    cases e with
    | none => simp only [evo]; exact s_no
    | some x => simp only [chko] at h; cases h
  | .yes a, sc, X, e, g, h => by
    cases e with
    | none => simp only [chko] at h; cases h
    | some x =>
      simp only [chko] at h
      simp only [evo]
      exact s_yes (sndE a sc X x g h)
theorem sndC : ∀ (a : Exo) (sc : Sx) (X : Cx) (es : List Expr), Good G Φ N sc X → chkc G N a sc es = true → PTs X es (tT X.K (evc Φ a))
  | .no, sc, X, es, g, h => by
    cases es with
    | nil =>
      simp only [evc]
      refine ⟨fun pins s σ H Q I q => pts_nil.run pins s σ H Q I ?_⟩
      obtain ⟨W, ρ, rfl, A, sl, k, S', e, q⟩ := q
      obtain ⟨rfl, rfl⟩ := ret_ok e
      exact q W (Nxt.refl A)
    | cons x xs => simp only [chkc] at h; cases h
  | .yes a, sc, X, es, g, h => by
    simp only [chkc] at h
    split at h
    · simp only [evc]
      exact pts_one (sndT a sc X _ g h)
    · cases h
theorem sndI : ∀ (it : It) (sc : Sx) (X : Cx) (t e : Expr), Good G Φ N sc X → okT it t = true → chki G N it sc e = true → PI X t e (tIt X.K (evi Φ it))
  | .seq a, sc, X, t, e, g, _, h => by
    simp only [chki] at h
    simp only [evi]
    exact i_seq (sndE a sc X e g h)
  | .rng a, sc, X, t, e, g, _, h => by
    simp only [chki] at h
    split at h
    · obtain ⟨h, h5⟩ := and2 h
      obtain ⟨h, h4⟩ := and2 h
      obtain ⟨h, h3⟩ := and2 h
      obtain ⟨h1, h2⟩ := and2 h
      have q1 := dec_eq h1
      subst q1
      simp only [evi]
      exact i_rng (g.gl h3) (g.bt _ (of_decide_eq_true h2)) (sndE a sc X _ g h5) (star_cons h4 _ _)
    · cases h
  | .rng2 a b, sc, X, t, e, g, _, h => by
    simp only [chki] at h
    split at h
    · obtain ⟨h, h7⟩ := and2 h
      obtain ⟨h, h6⟩ := and2 h
      obtain ⟨h, h5⟩ := and2 h
      obtain ⟨h, h4⟩ := and2 h
      obtain ⟨h, h3⟩ := and2 h
      obtain ⟨h1, h2⟩ := and2 h
      have q1 := dec_eq h1
      subst q1
      simp only [evi]
      exact i_rng2 (g.gl h3) (g.bt _ (of_decide_eq_true h2)) (sndE a sc X _ g h6) (sndE b sc X _ g h7) (star_cons h4 _ _) (star_cons h5 _ _)
    · cases h
  | .enm a, sc, X, t, e, g, ht, h => by
    simp only [chki] at h
    split at h
    · obtain ⟨h, h5⟩ := and2 h
      obtain ⟨h, h4⟩ := and2 h
      obtain ⟨h, h3⟩ := and2 h
      obtain ⟨h1, h2⟩ := and2 h
      have q1 := dec_eq h1
      subst q1
      simp only [evi]
      cases t <;> first | exact i_enm (g.gl h3) (g.bt _ (of_decide_eq_true h2)) (sndE a sc X _ g h5) (star_cons h4 _ _) | exact Bool.noConfusion ht
    · cases h
  | .revl a, sc, X, t, e, g, ht, h => by
    simp only [chki] at h
    split at h
    · obtain ⟨h, h5⟩ := and2 h
      obtain ⟨h, h4⟩ := and2 h
      obtain ⟨h, h3⟩ := and2 h
      obtain ⟨h1, h2⟩ := and2 h
      have q1 := dec_eq h1
      subst q1
      simp only [evi]
      exact i_revl (g.gl h3) (g.bt _ (of_decide_eq_true h2)) (sndE a sc X _ g h5) (star_cons h4 _ _)
    · cases h
  | .zip a b, sc, X, t, e, g, ht, h => by
    simp only [chki] at h
    split at h
    · obtain ⟨h, h7⟩ := and2 h
      obtain ⟨h, h6⟩ := and2 h
      obtain ⟨h, h5⟩ := and2 h
      obtain ⟨h, h4⟩ := and2 h
      obtain ⟨h, h3⟩ := and2 h
      obtain ⟨h1, h2⟩ := and2 h
      have q1 := dec_eq h1
      subst q1
      simp only [evi]
      cases t <;> first | exact i_zip (g.gl h3) (g.bt _ (of_decide_eq_true h2)) (sndE a sc X _ g h6) (sndE b sc X _ g h7) (star_cons h4 _ _) (star_cons h5 _ _) | exact Bool.noConfusion ht
    · cases h
end
end
end AG
namespace AG
open PySem PySem.Spec PyProof.Rows L2
/-! ### statements -/
def nTup : Expr → Bool
  | .Tuple .. => false
  | _ => true
/-- the pair's stores stand as they are written: some name is no local one -/
def someCell (sc : Sx) (ts : List Expr) : Bool := ts.any fun t => match t with
  | .Name x _ => !(kd sc.sc x == some .local)
  | _ => true
def compTo (sc : Sx) (x : Str) (py : Pos) : Expr → Bool
  | .ListComp _ _ scope pos => (kd sc.sc x == some .local && (py.line == pos.line) && !(scope.names.any fun p => p.1 == x && (p.2 == .local || p.2 == .cell))) || kd sc.sc x == some .cell
  | _ => true
section
variable (G : Tb) (N : List Str)
mutual
def chkS : Sm → Sx → Stmt → Bool
  | .set i a, sc, st => match st with
    | .Assign [.Name x py] v _ => decide (N[i]? = some x) && isLoc sc x && (ncomp v || (match a with | .lc .. => true | .lc2 .. => true | _ => false)) && compTo sc x py v && chk G N a sc v
    | _ => false
  | .unp is a, sc, st => match st with
    | .Assign [.Tuple ts k p] v _ => chkTg N sc (.tup is) (.Tuple ts k p) && (nTup v || someCell sc ts) && chk G N a sc v
    | _ => false
  | .par i j a b, sc, st => match st with
    | .Assign [.Tuple [.Name x px, .Name y py] _ _] (.Tuple [u, v] _ _) _ => decide (N[i]? = some x) && decide (N[j]? = some y) && decide (i ≠ j) && (kd sc.sc x == some .local) && (kd sc.sc y == some .local) && (px.line == py.line) && !(x == y) &&
        nst u && nst v && !([u, v].all (foldedForSure 8)) && !([u, v].all (constantsAlone 8)) && chk G N a sc u && chk G N b sc v
    | _ => false
  | .setix o i a, sc, st => match st with
    | .Assign [.Subscript x y _] v _ => nsl y && chk G N o sc x && chk G N i sc y && chk G N a sc v
    | _ => false
  | .setfl c f o a, sc, st => match st with
    | .Assign [.Attribute x at_ _] v _ => decide (at_ = Str.ofString f) && decide ((c, f) ∈ G.fls) && chk G N o sc x && chk G N a sc v
    | _ => false
  | .dput o i a, sc, st => match st with
    | .Assign [.Subscript x y _] v _ => nsl y && chk G N o sc x && chk G N i sc y && chk G N a sc v
    | _ => false
  | .app o a, sc, st => match st with
    | .Expr (.Call (.Attribute x at_ ap) [y] [] cp) _ => decide (at_ = "append") && isName x && (ap.endLine == cp.line) && nst y && chk G N o sc x && chk G N a sc y
    | _ => false
  | .expr a, sc, st => match st with
    | .Expr v _ => ncomp v && chk G N a sc v
    | _ => false
  | .ret a, sc, st => match st with
    | .Return (some v) _ => chk G N a sc v
    | _ => false
  | .ife c a b, sc, st => match st with
    | .If t x y _ => chk G N c sc t && chkSs a sc x && chkSs b sc y
    | _ => false
  | .for tg it b, sc, st => match st with
    | .For t i body [] _ => nset i && chkTg N sc tg t && (okT it t && chki G N it sc i) && chkSs b sc body
    | _ => false
  | .while c b, sc, st => match st with
    | .While t body [] _ => chk G N c sc t && chkSs b sc body
    | _ => false
  | .opq, _, _ => true
  | .pass, _, st => match st with
    | .Pass _ => true
    | _ => false
  | .brk, _, st => match st with
    | .Break _ => true
    | _ => false
  | .cont, _, st => match st with
    | .Continue _ => true
    | _ => false
  | .settle _ s, sc, st => chkS s sc st
def chkSs : Sms → Sx → List Stmt → Bool
  | .nil, _, ss => match ss with
    | [] => true
    | _ => false
  | .cons a r, sc, ss => match ss with
    | x :: xs => chkS a sc x && chkSs r sc xs
    | _ => false
end
end
theorem ss_plain {ts : List Expr} {k : Nat} {p : Pos} {v : Expr} (h : nTup v = true) (env : PySem.Env) : swappedStores [.Tuple ts k p] v env = pure none := by
  cases v <;> first | rfl | cases h
theorem fm_short {α β : Type} (f : α → Option β) : ∀ l : List α, (∃ a ∈ l, f a = none) → (l.filterMap f).length ≠ l.length
  | [], ⟨_, h, _⟩ => nomatch h
  | x :: xs, ⟨a, h, ha⟩ => by
    have hle : ∀ l : List α, (l.filterMap f).length ≤ l.length := fun l => List.length_filterMap_le f l
    rw [List.filterMap_cons]
    cases hx : f x with
    | none =>
      simp only [List.length_cons]
      have := hle xs
      omega
    | some b =>
      simp only [List.length_cons]
      rcases List.mem_cons.mp h with e | h
      · subst e
        rw [ha] at hx
        cases hx
      · have := fm_short f xs ⟨a, h, ha⟩
        omega
theorem ss_cell {sc : Sx} {env : PySem.Env} (hs : env.scope = sc.sc) {ts vs : List Expr} {k k2 : Nat} {p p2 : Pos} (h : someCell sc ts = true) : swappedStores [.Tuple ts k p] (.Tuple vs k2 p2) env = pure none := by
  unfold swappedStores
  simp only []
  split
  · rfl
  · split
    · rfl
    · split
      · rfl
      · rename_i hh
        exfalso
        apply hh
        rw [Bool.or_eq_true]
        refine .inl (bne_iff_ne.mpr (fm_short _ ts ?_))
        unfold someCell at h
        obtain ⟨a, ha, q⟩ := List.any_eq_true.mp h
        refine ⟨a, ha, ?_⟩
        cases a with
        | Name x px =>
          have q' : (kd sc.sc x == some .local) = false := not_b q
          have e : (env.kindOf x == some .local) = false := by
            show (env.scope.names.lookup x == some .local) = false
            rw [hs]
            exact q'
          show (if (env.kindOf x == some .local && _) = true then some x else none) = none
          rw [e]
          rfl
        | _ => rfl
theorem ss_par {env : PySem.Env} {x y : Str} {px py pt pt2 : Pos} {kt k2 : Nat} {u v : Expr} (kx : env.kindOf x = some .local) (ky : env.kindOf y = some .local) (bk : env.blockKind = .function) (hl : px.line = py.line) (hxy : x ≠ y) (nu : nst u = true) (nv : nst v = true)
    (hf : [u, v].all (foldedForSure 8) = false) (hc : [u, v].all (constantsAlone 8) = false) : swappedStores [.Tuple [.Name x px, .Name y py] kt pt] (.Tuple [u, v] k2 pt2) env = pure (some [x, y]) := by
  unfold swappedStores
  simp only []
  rw [hf, hc]
  have ed : [x, y].eraseDups = [x, y] := by
    rw [List.eraseDups_cons, List.filter_cons]
    have : (!(y == x)) = true := by
      cases q : (y == x) with
      | false => rfl
      | true => exact absurd (eq_of_beq q).symm hxy
    rw [if_pos this, List.filter_nil, List.eraseDups_cons, List.filter_nil, List.eraseDups_nil]
  split
  · rename_i h
    exfalso
    rw [bk] at h
    simp at h
  · split
    · rename_i h
      exfalso
      obtain ⟨a, ha, q⟩ := List.any_eq_true.mp h
      simp only [List.mem_cons, List.not_mem_nil, or_false] at ha
      have hn : nst a = true := by rcases ha with e | e <;> rw [e] <;> assumption
      cases a <;> first | exact Bool.noConfusion (show false = true from q) | exact Bool.noConfusion (show false = true from hn)
    · split
      · rename_i h
        exfalso
        simp [kx, ky, hl, Expr.pos, ed] at h
      · simp [kx, ky, hl, Expr.pos]
section
variable {G : Tb} {Φ : String → List D → M D} {N : List Str} {fu : Nat}
theorem comp_eta {c : Comprehension} (h1 : c.is_async = 0) (h2 : c.ifs = []) : c = ⟨c.target, c.iter, [], 0⟩ := by
  cases c
  simp only at h1 h2
  subst h1 h2
  rfl
theorem s_settle {X : Cx} {st : Stmt} {m : Env → M Fl} {i : Nat} (h : PS X st (tS X.K m)) : PS X st (tS X.K fun ρ => bnd (setlD ρ i) m) := by
  refine h.weak ?_
  rintro D' σ H ⟨W, ρ, rfl, A, sl, f, S', e, k⟩
  obtain ⟨ρ2, S1, e1, e2⟩ := bnd_ok e
  unfold setlD at e1
  split at e1
  · rename_i c hi
    split at e1
    · rename_i xs hk
      cases e1
      obtain ⟨v, h1, r1⟩ := sl.2 i _ hi
      simp only [Rep] at r1
      obtain ⟨a, rfl, ha⟩ := r1
      obtain ⟨b, kd, ds0, vs, o0, h2, h3, h5, h4⟩ := A.cell c xs hk
      rw [ha] at h2
      cases h2
      obtain ⟨rfl, rfl⟩ := h5
      obtain ⟨A1, E1, r2⟩ := settle_cell A hk ha h3 h4
      refine ⟨{ W with S := W.S.set c none }, _, rfl, A1, ?_, f, S', e2, fun W' N => k W' ⟨N.st, N.lk, N.ab, E1.trans N.ext⟩⟩
      have q := (sl.ext A E1).set i r2
      rw [show σ.set i (some (V.ref a)) = σ from ?_] at q
      · exact q
      · apply List.ext_getElem?
        intro j
        by_cases hj : j = i
        · subst hj
          rw [List.getElem?_set_self (List.getElem?_eq_some_iff.mp h1).1, h1]
        · rw [List.getElem?_set_ne (Ne.symm hj)]
    · cases e1
  · cases e1
mutual
theorem sndS : ∀ (s : Sm) (sc : Sx) (X : Cx) (st : Stmt), Good G Φ N sc X → chkS G N s sc st = true → PS X st (tS X.K (ex Φ fu s))
  | .set i a, sc, X, st, g, h => by
    simp only [chkS] at h
    split at h
    · rename_i x py v pos
      obtain ⟨h, h5⟩ := and2 h
      obtain ⟨h, h4⟩ := and2 h
      obtain ⟨h, h3⟩ := and2 h
      obtain ⟨h1, h2⟩ := and2 h
      have hN : X.N.Nodup := by rw [g.hN]; exact g.nd
      have hi : X.N[i]? = some x := by rw [g.hN]; exact of_decide_eq_true h1
      have hl := isLoc_ok h2
      have hl' : Loc X.env.scope x := by rw [g.hs]; exact hl.imp id fun z => z.1
      have hf : X.fn x = true ∨ X.env.scope.names.lookup x = some .local := by
        rcases hl with q | q
        · exact .inr (by rw [g.hs]; exact q)
        · exact .inl (g.fn x q.2)
      have plain : swapsWith v (some (.Name x py)) pos.line X.env = pure false → PS X (.Assign [.Name x py] v pos) (tS X.K (ex Φ fu (.set i a))) := fun hsw => by
        simp only [ex]
        exact (ps_set hN hi hl' (sndE a sc X v g h5) hsw hf).weak set_ok
      by_cases hn : ncomp v = true
      · exact plain (sw_none hn _ _ _)
      · cases v with
        | ListComp elt gs scope cp =>
          simp only [compTo] at h4
          rcases Bool.or_eq_true_iff.mp h4 with h4 | h4
          · obtain ⟨h4, h8⟩ := and2 h4
            obtain ⟨h6, h7⟩ := and2 h4
            have hloc := kd_some h6
            have hloc' : X.env.scope.names.lookup x = some .local := by rw [g.hs]; exact hloc
            cases a with
            | lc m elt' tg own it cd =>
              simp only [chk] at h5
              split at h5
              · rename_i x' t i' ifs a' scope' pos' heq
                cases heq
                obtain ⟨h5, k8⟩ := and2 h5
                obtain ⟨h5, k7⟩ := and2 h5
                obtain ⟨h5, k6⟩ := and2 h5
                obtain ⟨h5, k5⟩ := and2 h5
                obtain ⟨h5, k4⟩ := and2 h5
                obtain ⟨h5, k3⟩ := and2 h5
                obtain ⟨kT, k3⟩ := and2 k3
                obtain ⟨k1, k2⟩ := and2 h5
                have q1 := dec_eq k1
                subst q1
                have hb : BlkOk X.N X.env.scope scope (ownOf N own) := by rw [g.hN, g.hs]; exact blkOk_by k4
                have hmap : (ownOf N own).map (·.2) = own := own_map N own
                have hsw : swapsWith (.ListComp elt [⟨t, i', ifs, 0⟩] scope cp) (some (.Name x py)) pos.line X.env = pure true :=
                  sw_true (by rw [g.hs]; exact g.kd) hloc' h7 (not_b h8)
                have key := ps_setLc (own := ownOf N own) (spos := pos) g.calm hN hi hloc' hsw (sndI it sc X t i' g kT k3) hb
                  (g := gTg X.K tg) (tt := tT X.K (evc Φ cd)) (te := tI X.K (ev Φ elt'))
                  (fun s H C cl fp => (g.blk hb.kind s H C cl fp).tg k5)
                  (fun s H C cl fp => sndC cd _ _ ifs (g.blk hb.kind s H C cl fp) k8)
                  (fun s H C cl fp => sndE elt' _ _ elt (g.blk hb.kind s H C cl fp) k7)
                  (fs_plain k2 _)
                rw [hmap] at key
                simp only [ex, ev]
                refine key.weak fun D' σ H q => ?_
                refine (show ∀ σ H Q, _ → tLc _ _ _ _ own σ H Q from lc_ok (m := m) (gTg_ok tg) fun j hj => List.contains_iff_mem.mp (List.all_eq_true.mp k6 j hj)) σ H _ ?_
                exact set_ok D' σ H q
              · cases h5
            | lc2 m elt' tg tg1 own own1 it it1 =>
              simp only [chk] at h5
              split at h5
              · rename_i c c1 ha hb0
                obtain ⟨h5, k14⟩ := and2 h5
                obtain ⟨z1, z2⟩ := and2 k14
                have z1 := List.isEmpty_iff.mp z1
                have z2 := List.isEmpty_iff.mp z2
                obtain ⟨h5, kT⟩ := and2 h5
                obtain ⟨kT1, kT2⟩ := and2 kT
                obtain ⟨h5, k13⟩ := and2 h5
                obtain ⟨h5, k12⟩ := and2 h5
                obtain ⟨h5, k11⟩ := and2 h5
                obtain ⟨h5, k10⟩ := and2 h5
                obtain ⟨h5, k9⟩ := and2 h5
                obtain ⟨h5, k8⟩ := and2 h5
                obtain ⟨h5, k7⟩ := and2 h5
                obtain ⟨h5, k6⟩ := and2 h5
                obtain ⟨h5, k5⟩ := and2 h5
                obtain ⟨h5, k4⟩ := and2 h5
                obtain ⟨h5, k3⟩ := and2 h5
                obtain ⟨k1, k2⟩ := and2 h5
                have q1 := dec_eq k1
                have q2 := dec_eq k2
                have e : [c, c1] = ([⟨c.target, c.iter, [], 0⟩, ⟨c1.target, c1.iter, [], 0⟩] : List Comprehension) := by rw [← comp_eta q1 z1, ← comp_eta q2 z2]
                rw [e]
                have hb : BlkOk X.N X.env.scope scope (ownOf N own) := by rw [g.hN, g.hs]; exact blkOk_by k6
                have hmap : (ownOf N own).map (·.2) = own := own_map N own
                have hsw : swapsWith (.ListComp elt [⟨c.target, c.iter, [], 0⟩, ⟨c1.target, c1.iter, [], 0⟩] scope cp) (some (.Name x py)) pos.line X.env = pure true :=
                  sw_true (by rw [g.hs]; exact g.kd) hloc' h7 (not_b h8)
                have key := ps_setLc2 (own := ownOf N own) (vs1 := own1) (spos := pos) g.calm hN hi hloc' hsw (sndI it sc X c.target c.iter g kT1 k5) hb
                  (fun j hj => by rw [hmap]; exact List.contains_iff_mem.mp (List.all_eq_true.mp k11 j hj))
                  (g := gTg X.K tg) (tt := tT X.K fun _ => ret true) (g1 := gTg X.K tg1) (tt1 := tT X.K fun _ => ret true) (te := tI X.K (ev Φ elt')) (wi1 := tIt X.K (evi Φ it1))
                  (fun s H C cl fp => (g.blk hb.kind s H C cl fp).tg k7)
                  (fun s H C cl fp => sndC .no _ _ [] (g.blk hb.kind s H C cl fp) rfl)
                  (fun s H C cl fp => sndI it1 _ _ c1.target c1.iter (g.blk hb.kind s H C cl fp) kT2 k12)
                  (fun s H C cl fp => (g.blk hb.kind s H C cl fp).tg k9)
                  (fun s H C cl fp => sndC .no _ _ [] (g.blk hb.kind s H C cl fp) rfl)
                  (fun s H C cl fp => sndE elt' _ _ elt (g.blk hb.kind s H C cl fp) k13)
                  (fs_plain k3 _) (fun env => fs_plain k4 env)
                rw [hmap] at key
                simp only [ex, ev]
                refine key.weak fun D' σ H q => ?_
                refine (show ∀ σ H Q, _ → tLc2 _ _ _ _ _ _ _ own own1 σ H Q from lc2_ok (m := m) (gTg_ok tg) (gTg_ok tg1) (fun j hj => List.contains_iff_mem.mp (List.all_eq_true.mp k8 j hj)) fun j hj => List.contains_iff_mem.mp (List.all_eq_true.mp k10 j hj)) σ H _ ?_
                exact set_ok D' σ H q
              · cases h5
            | _ => simp only [Bool.or_eq_true] at h3; rcases h3 with h3 | h3 <;> first | exact absurd h3 hn | cases h3
          · refine plain ?_
            have hc := kd_some h4
            have hk : X.env.kindOf x = some .cell := by show X.env.scope.names.lookup x = _; rw [g.hs]; exact hc
            unfold swapsWith
            simp only [hk]
            show (pure (X.env.blockKind == .function && (some NameKind.cell == some .local) && _ && _) : Sem Bool) = pure false
            have e : ((some NameKind.cell : Option NameKind) == some .local) = false := rfl
            rw [e, Bool.and_false, Bool.false_and, Bool.false_and]
        | SetComp _ _ _ _ =>
          exfalso
          cases a <;> simp only [chk] at h5 <;> cases h5
        | DictComp _ _ _ _ _ =>
          exfalso
          cases a <;> simp only [chk] at h5 <;> cases h5
        | _ => exact absurd rfl hn
    · cases h
  | .unp is a, sc, X, st, g, h => by
    simp only [chkS] at h
    split at h
    · rename_i ts k p v pos
      obtain ⟨h, h3⟩ := and2 h
      obtain ⟨h1, h2⟩ := and2 h
      simp only [ex]
      have hw : swappedStores [.Tuple ts k p] v X.env = pure none := by
        rcases Bool.or_eq_true_iff.mp h2 with h2 | h2
        · exact ss_plain h2 _
        · cases v with
          | Tuple vs k2 p2 => exact ss_cell g.hs h2
          | _ => rfl
      exact (ps_asg (sndE a sc X v g h3) (g.tg h1) (show swapsWithSole [.Tuple ts k p] v pos.line X.env = pure false from sw_tup (ts := ts) (k := k) (p := p) pos.line X.env) hw rfl).weak (asg_ok (gTg_ok (.tup is)))
    · cases h
  | .par i j a b, sc, X, st, g, h => by
    simp only [chkS] at h
    split at h
    · rename_i x px y py kt pt u v k2 pt2 pos
      obtain ⟨h, h13⟩ := and2 h
      obtain ⟨h, h12⟩ := and2 h
      obtain ⟨h, h11⟩ := and2 h
      obtain ⟨h, h10⟩ := and2 h
      obtain ⟨h, h9⟩ := and2 h
      obtain ⟨h, h8⟩ := and2 h
      obtain ⟨h, h7⟩ := and2 h
      obtain ⟨h, h6⟩ := and2 h
      obtain ⟨h, h5⟩ := and2 h
      obtain ⟨h, h4⟩ := and2 h
      obtain ⟨h, h3⟩ := and2 h
      obtain ⟨h1, h2⟩ := and2 h
      have hx : X.env.scope.names.lookup x = some .local := by rw [g.hs]; exact kd_some h4
      have hy : X.env.scope.names.lookup y = some .local := by rw [g.hs]; exact kd_some h5
      have kx : X.env.kindOf x = some .local := hx
      have ky : X.env.kindOf y = some .local := hy
      have bk : X.env.blockKind = .function := by
        unfold PySem.Env.blockKind
        rw [g.hs, g.kd]
        rfl
      have hw : swappedStores [.Tuple [.Name x px, .Name y py] kt pt] (.Tuple [u, v] k2 pt2) X.env = pure (some [x, y]) :=
        ss_par kx ky bk (eq_of_beq h6) (fun z => by subst z; rw [beq_self_eq_true] at h7; cases h7) h8 h9 (not_b h10) (not_b h11)
      have hN : X.N.Nodup := by rw [g.hN]; exact g.nd
      simp only [ex]
      refine (ps_par g.calm hN (by rw [g.hN]; exact of_decide_eq_true h1) (by rw [g.hN]; exact of_decide_eq_true h2) (of_decide_eq_true h3) hx hy (s_cons (sndE a sc X u g h12) (s_cons (sndE b sc X v g h13) s_nil (star_cons h9 _ _)) (star_cons h8 _ _)) hw rfl).weak par_ok
    · cases h
  | .setix o i a, sc, X, st, g, h => by
    simp only [chkS] at h
    split at h
    · rename_i x y p v pos
      obtain ⟨h, h4⟩ := and2 h
      obtain ⟨h, h3⟩ := and2 h
      obtain ⟨h1, h2⟩ := and2 h
      simp only [ex]
      have hpg := pg_sub (pos := p) (sndE o sc X x g h2) (sndE i sc X y g h3) (set_list (X := X)) (by intro _; cases y <;> first | rfl | cases h1)
      exact (ps_asg (sndE a sc X v g h4) hpg (show swapsWithSole [.Subscript x y p] v pos.line X.env = pure false from sw_sub (o := x) (i := y) (p := p) pos.line X.env) (by cases v <;> rfl) rfl).weak setix_ok
    · cases h
  | .app o a, sc, X, st, g, h => by
    simp only [chkS] at h
    split at h
    · rename_i x at_ ap y cp pos
      obtain ⟨h, h6⟩ := and2 h
      obtain ⟨h, h5⟩ := and2 h
      obtain ⟨h, h4⟩ := and2 h
      obtain ⟨h, h3⟩ := and2 h
      obtain ⟨h1, h2⟩ := and2 h
      have q1 := dec_eq h1
      subst q1
      have hs := star_cons (env := X.env) h4 []
      simp only [ex]
      exact (ps_expr (pe_bm PySem.F.plainAttrs_list PySem.F.slot_list_append PySem.F.type_list_append mt_append (sndE o sc X x g h5) (s_cons (sndE a sc X y g h6) s_nil hs) (ab_name h2 _ _) (by rw [hs]; rfl) h3 hs rfl) rfl).weak app_ok'
    · cases h
  | .expr a, sc, X, st, g, h => by
    simp only [chkS] at h
    split at h
    · obtain ⟨h1, h2⟩ := and2 h
      simp only [ex]
      exact (ps_expr (sndE a sc X _ g h2) (sw_none h1 _ _ _)).weak drop_ok
    · cases h
  | .ret a, sc, X, st, g, h => by
    simp only [chkS] at h
    split at h
    · simp only [ex]
      exact (ps_ret (sndE a sc X _ g h)).weak ret_ok'
    · cases h
  | .setfl c f o a, sc, X, st, g, h => by
    simp only [chkS] at h
    split at h
    · rename_i x at_ p1 v pos
      obtain ⟨h, h4⟩ := and2 h
      obtain ⟨h, h3⟩ := and2 h
      obtain ⟨h1, h2⟩ := and2 h
      have hx := dec_eq h1
      subst hx
      obtain ⟨C, T, hn⟩ := g.fl _ _ (of_decide_eq_true h2)
      simp only [ex]
      exact s_setfl T hn (sndE o sc X _ g h3) (sndE a sc X _ g h4) (by cases v <;> rfl)
    · cases h
  | .dput o i a, sc, X, st, g, h => by
    simp only [chkS] at h
    split at h
    · rename_i x y p1 v pos
      obtain ⟨h, h4⟩ := and2 h
      obtain ⟨h, h3⟩ := and2 h
      obtain ⟨h1, h2⟩ := and2 h
      simp only [ex]
      exact s_dput (by have := g.hu; omega) (sndE o sc X _ g h2) (sndE i sc X _ g h3) (sndE a sc X _ g h4) (sw_sub _ _)
    · cases h
  | .ife c a b, sc, X, st, g, h => by
    simp only [chkS] at h
    split at h
    · obtain ⟨h, h3⟩ := and2 h
      obtain ⟨h1, h2⟩ := and2 h
      simp only [ex]
      exact (ps_if (sndT c sc X _ g h1) (sndSs a sc X _ g h2) (sndSs b sc X _ g h3)).weak ife_ok
    · cases h
  | .for tg it b, sc, X, st, g, h => by
    simp only [chkS] at h
    split at h
    · obtain ⟨h, h4⟩ := and2 h
      obtain ⟨h, h3⟩ := and2 h
      obtain ⟨hT, h3⟩ := and2 h3
      obtain ⟨h1, h2⟩ := and2 h
      simp only [ex]
      exact (ps_for (by rw [g.xe]; exact PassesOwn.never) g.calm (sndI it sc X _ _ g hT h3) (g.tg h2) (sndSs b sc X _ g h4) (fs_plain h1 _)).weak (for_ok (gTg_ok tg))
    · cases h
  | .while c b, sc, X, st, g, h => by
    simp only [chkS] at h
    split at h
    · obtain ⟨h1, h2⟩ := and2 h
      simp only [ex]
      exact (ps_while (by rw [g.xe]; exact PassesOwn.never) (sndT c sc X _ g h1) (sndSs b sc X _ g h2)).weak while_ok
    · cases h
  | .opq, sc, X, st, g, h => by
    simp only [ex]
    exact ⟨fun pins s σ H D' I ⟨W, ρ, _, _, _, f, S', e, _⟩ => by cases e⟩
  | .pass, sc, X, st, g, h => by
    simp only [chkS] at h
    split at h
    · simp only [ex]
      exact ps_pass.weak next_ok
    · cases h
  | .brk, sc, X, st, g, h => by
    simp only [chkS] at h
    split at h
    · simp only [ex]
      exact ps_break.weak brk_ok
    · cases h
  | .settle i a, sc, X, st, g, h => by
    simp only [chkS] at h
    simp only [ex]
    exact s_settle (sndS a sc X st g h)
  | .cont, sc, X, st, g, h => by
    simp only [chkS] at h
    split at h
    · simp only [ex]
      exact ps_continue.weak cont_ok
    · cases h
theorem sndSs : ∀ (ss : Sms) (sc : Sx) (X : Cx) (sts : List Stmt), Good G Φ N sc X → chkSs G N ss sc sts = true → PSs X sts (tS X.K (exs Φ fu ss))
  | .nil, sc, X, sts, g, h => by
    cases sts with
    | nil => simp only [exs]; exact pss_nil.weak next_ok
    | cons x xs => simp only [chkSs] at h; cases h
  | .cons s r, sc, X, sts, g, h => by
    cases sts with
    | nil => simp only [chkSs] at h; cases h
    | cons x xs =>
      simp only [chkSs] at h
      obtain ⟨h1, h2⟩ := and2 h
      simp only [exs]
      exact (pss_cons (sndS s sc X x g h1) (sndSs r sc X xs g h2)).weak seq_ok
end
end
end AG
namespace AG
open PySem PySem.Spec PyProof.Rows L2
/-! ### all defs of a text at once -/
/-- a def: its key, how many names, its body -/
abbrev Defs := List (String × List Int × Nat × Sms)
def Phi (fu : Nat) (T : Defs) : Nat → String → List D → M D
  | 0, _, _ => bad
  | l + 1, i, ds => match T.lookup i with
    | some (dv, n, b) => runF (Phi fu T l) fu n b (ds ++ dv.map D.int)
    | none => bad
/-- how a def of the text stands there: its key, what it is, its name, its statement, its names, its parameters -/
structure Df where
  key : String
  kind : FK
  name : Str
  qual : Str
  st : Stmt
  N : List Str
  ps : List Str
  dv : List Int
structure DfOk (G : Tb) (T : Defs) (d : Df) : Prop where
  fn : G.fns.lookup d.key = some (d.kind, d.ps.length - d.dv.length)
  dl : d.dv.length ≤ d.ps.length
  sc : FnScope d.N d.ps (defScope d.st)
  tb : ∃ b, T.lookup d.key = some (d.dv, d.N.length, b) ∧ chkSs G d.N b ⟨defScope d.st, defScope d.st⟩ (defBody d.st) = true
section
variable {P : Program} {w : World} {K : PySem.W.Frag} {mg : Str → Option Value} {base : Heap} {G : Tb} {T : Defs} {fu : Nat}
theorem start_sl {W : Wd} {ds : List D} {vs : List V} {N : List Str} (r : Reps K W ds vs) (h : vs.length ≤ N.length) : Sl K W (ds.map some ++ List.replicate (N.length - ds.length) none) (L2.start N vs) := by
  have hl := reps_len _ _ r
  unfold L2.start
  refine ⟨by simp [hl], fun i d e => ?_⟩
  by_cases hi : i < ds.length
  · rw [List.getElem?_append_left (by simpa using hi), List.getElem?_map] at e
    cases q : ds[i]? with
    | none => rw [q] at e; cases e
    | some d' =>
      rw [q] at e
      cases e
      obtain ⟨v, h1, h2⟩ := reps_get _ _ i r d q
      refine ⟨v, ?_, h2⟩
      rw [List.getElem?_append_left (by simpa [hl] using hi), List.getElem?_map, h1]
      rfl
  · rw [List.getElem?_append_right (by simpa using hi), List.getElem?_replicate] at e
    split at e <;> cases e
/-- the table's words at level l -/
def Words (P : Program) (w : World) (K : PySem.W.Frag) (mg : Str → Option Value) (base : Heap) (G : Tb) (Φ : String → List D → M D) (l : Nat) : Prop :=
  ∀ (i : String) (q : FK) (n : Nat), G.fns.lookup i = some (q, n) → ∃ f, FnW P w K mg base (2 * l) f (spF K n (Φ i)) ∧ AtK K mg i f q
theorem room5 {k : Nat} {A : Around} (r : Room k A) : A.units + 65 < cLine := by have := r.un; omega
/-- what of the module a text leans on -/
structure Env9 (K : PySem.W.Frag) (mg : Str → Option Value) (G : Tb) : Prop where
  hb : ∀ x ∈ G.bts, mg x = none
  hc : ∀ (x : Str) (c : CV), (x, c) ∈ G.cs → CvOk (mg x) c
  fl : ∀ (c f : String), (c, f) ∈ G.fls → ∃ C, ClsT K c C ∧ NoAttr K C (Str.ofString f)
theorem def_step {d : Df} {l : Nat} {f : Addr} {fd : FuncData} (F : FunA K d.name d.qual d.st f fd) (ok : DfOk G T d) (h9 : Env9 K mg G)
    (ih : Words P w K mg base G (Phi fu T l) l) : ∃ b, T.lookup d.key = some (d.dv, d.N.length, b) ∧ FnG P w K mg base (2 * l + 2) f fd d.ps (spF K d.ps.length (runF (Phi fu T l) fu d.N.length b)) := by
  obtain ⟨b, hT, hchk⟩ := ok.tb
  refine ⟨b, hT, ?_⟩
  refine g_fn (k := 2 * l + 1) F ok.sc (fun vs H Q E h => h.1) ?_
  rintro cdv A outer s H vs Q E hgd hr ⟨hlen, W, ds, rfl, A0, r, dd, S', e, k⟩
  refine ⟨tS K (exs (Phi fu T l) fu b), ?_, ?_⟩
  · refine sndSs (X := (cxOf CX0 P w K mg base d.N d.qual (defScope d.st) f cdv A outer s W.H E).nox) b ⟨defScope d.st, defScope d.st⟩ _ ?_ hchk
    exact { hN := rfl, nd := ok.sc.nd, hs := rfl, kd := ok.sc.kind, calm := rfl, fn := fun _ _ => rfl, xe := rfl, gd := hgd, hu := hr.units, hu5 := room5 hr, bt := h9.hb, cs := h9.hc,
            ft := fun j q n hj => let ⟨f', F', h1⟩ := ih j q n hj; ⟨f', 2 * l, F', hr, h1⟩, fl := h9.fl }
  · unfold runF at e
    obtain ⟨fl, S1, e1, e2⟩ := bnd_ok e
    have hps : d.ps.length ≤ d.N.length := by
      have := congrArg List.length ok.sc.pre
      rw [List.length_take] at this
      omega
    refine ⟨W, _, rfl, A0, start_sl r (by omega), fl, S1, e1, fun W' N => ?_⟩
    cases fl with
    | nx ρ' =>
      obtain ⟨rfl, rfl⟩ := ret_ok (show ret D.non S1 = _ from e2)
      exact fun σ' _ => k W' _ N (by simp only [Rep])
    | rt x =>
      obtain ⟨rfl, rfl⟩ := ret_ok (show ret x S1 = _ from e2)
      exact fun v rv => k W' v N rv
    | bk ρ' => cases e2
    | ct ρ' => cases e2
/-- where each def stands -/
structure Stands (K : PySem.W.Frag) (mg : Str → Option Value) (d : Df) : Prop where
  ex : ∃ f fd es, FunA K d.name d.qual d.st f fd ∧ AtK K mg d.key f d.kind ∧ Vals (d.dv.map V.int) es ∧ Binds K fd d.ps es ∧ (d.key = "law" → ∀ us : List Value, us.length = d.ps.length → bindArgs fd ⟨us, []⟩ = pure (d.ps.zip us))
theorem reps_dv {W : Wd} : ∀ l : List Int, Reps K W (l.map D.int) (l.map V.int)
  | [] => by simp only [List.map_nil, Reps]
  | x :: xs => by
    simp only [List.map_cons, Reps]
    exact ⟨_, _, rfl, by simp only [Rep], reps_dv xs⟩
/-- as it is called: its defaults filled up -/
theorem def_word {d : Df} {l : Nat} {f : Addr} {fd : FuncData} {es : List Value} (F : FunA K d.name d.qual d.st f fd) (ok : DfOk G T d) (h9 : Env9 K mg G)
    (hd : Vals (d.dv.map V.int) es) (hb : Binds K fd d.ps es) (ih : Words P w K mg base G (Phi fu T l) l) : FnW P w K mg base (2 * l + 2) f (spF K (d.ps.length - d.dv.length) (Phi fu T (l + 1) d.key)) := by
  obtain ⟨b, hT, hF⟩ := def_step (fu := fu) F ok h9 ih
  refine hF.word hb hd ?_
  rintro vs H Q E ⟨hlen, W, ds, rfl, A, r, dd, S', e, k⟩
  have hl := ok.dl
  refine ⟨by rw [List.length_append, List.length_map, hlen]; omega, W, ds ++ d.dv.map D.int, rfl, A, reps_app _ _ _ _ r (reps_dv _), dd, S', ?_, k⟩
  have e' := e
  simp only [Phi, hT] at e'
  exact e'
theorem defs_all (ds : List Df) (hG : ∀ (i : String) (q : FK) (n : Nat), G.fns.lookup i = some (q, n) → ∃ d ∈ ds, d.key = i) (ok : ∀ d ∈ ds, DfOk G T d) (hs : ∀ d ∈ ds, Stands K mg d)
    (h9 : Env9 K mg G) : ∀ l, Words P w K mg base G (Phi fu T l) l
  | 0 => by
    intro i q n hi
    obtain ⟨d, hd, rfl⟩ := hG i q n hi
    obtain ⟨f, fd, es, F, hm, _⟩ := (hs d hd).ex
    have o := ok d hd
    have e := o.fn
    rw [hi] at e
    cases e
    refine ⟨f, ⟨?_⟩, hm⟩
    rintro A outer s H us vs Q E _ _ _ _ _ ⟨_, W, ds', _, _, _, dd, S', e, _⟩
    cases e
  | l + 1 => by
    intro i q n hi
    obtain ⟨d, hd, rfl⟩ := hG i q n hi
    obtain ⟨f, fd, es, F, hm, hv, hb, _⟩ := (hs d hd).ex
    have o := ok d hd
    have e := o.fn
    rw [hi] at e
    cases e
    exact ⟨f, def_word F o h9 hv hb (defs_all ds hG ok hs h9 l), hm⟩
end
/-! ### a law's own call -/
theorem g_law {P : Program} {w : World} {K : PySem.W.Frag} {mg mb : Str → Option Value} {k : Nat} {fa a : Addr} {fd : FuncData} {x : Str} {sp : Sp} {s1 : Shared} {vs : List Value} {ns : List Int}
    (kin : K.In s1.heap) (glo : s1.heap.Ns mainGlobals mg) (blt : s1.heap.Ns builtinsNs mb) (boot : ∀ x : Str, x ≠ "__name__" → mb x = bootBuiltins x) (lim : s1.heap.NoLimit) (gens : s1.gens = #[])
    (obj : s1.heap.get? a = some { cls := .type "list", data := .seq vs.toArray }) (hints : IntsAre vs ns) (few : ns.length ≤ sizeLine) (room : Room k callerA)
    (F : ∀ base : Heap, K.In base → base.Ns mainGlobals mg → FnG P w K mg base k fa fd [x] sp) (bind : ∀ (s : Shared) (u : Value), BindsTo s fd ⟨[u], []⟩ [(x, u)])
    (word : ∀ H : Hp, Only H → SqL K H a (ns.map V.int) → sp [.ref a] H (fun v _ => v = .bl true) E0) :
    codeAny (model P w) callerA (.call (.ref fa) ⟨[.ref a], []⟩) (fun r s' => r = .ok (.ret (.bool true)) ∧ OldK s1.heap s'.heap ∧ s'.os = s1.os ∧ AllBare s'.gens) s1 := by
  have rv := vals_ints hints
  have main : ∀ H : Hp, Only H → SqL K H a (ns.map V.int) → HOk P w H s1.heap → (∀ b u, H b = some u → b = a ∧ K.lookup a = none) →
      codeAny (model P w) callerA (.call (.ref fa) ⟨[.ref a], []⟩) (fun r s' => r = .ok (.ret (.bool true)) ∧ OldK s1.heap s'.heap ∧ s'.os = s1.os ∧ AllBare s'.gens) s1 := by
    intro H only seq held at_a
    -- a dict or an object of the module is no tracked one
    have free : ∀ {b : Addr} {o : Obj}, s1.heap.get? b = some o → (∀ its n, o.data ≠ .seq its n) → H b = none := by
      intro b o e nd
      cases q : H b with
      | none => rfl
      | some u =>
        obtain ⟨rfl, _⟩ := at_a b u q
        rw [obj] at e
        cases e
        exact absurd rfl (nd _ _)
    have keepNs : ∀ {b : Addr} {m : Str → Option Value}, s1.heap.Ns b m → (hidT s1.heap H).Ns b m := by
      rintro b m ⟨o, es, ep, e, d, r⟩
      exact ⟨o, es, ep, hidT_get e (free e (fun its n z => by rw [d] at z; cases z)), d, r⟩
    have keepK : K.In (hidT s1.heap H) := by
      intro b o e
      refine hidT_get (kin b o e) ?_
      cases q : H b with
      | none => rfl
      | some u =>
        obtain ⟨rfl, z⟩ := at_a b u q
        rw [z] at e
        cases e
    have m0 : Mod K mg (hidT s1.heap H) := by
      obtain ⟨mc, h1, h2⟩ := lim
      exact ⟨keepK, keepNs glo, ⟨mb, keepNs blt, boot⟩, mc, keepNs h1, h2⟩
    have noFr : ∀ b ∈ frs [], H b = none := fun b hb => nomatch hb
    have e0 : Env0 P w K mg (hidT s1.heap H) callerA [] s1 H :=
      { frames := rfl, mod := m0, bs := fun b o e => of_hidT e, bsz := Nat.le_of_eq (hidT_size _ _), funs := trivial, frf := noFr, hok := held, bare := .of_eq gens }
    have run := (F _ keepK (keepNs glo)).go callerA [] s1 H ⟨[.ref a], []⟩ [.ref a] [.ref a] (fun v _ => v = .bl true) E0 rfl room e0 (bind s1 (.ref a)) (.cons rfl .nil) (word H only seq)
    refine codeAny_mono run ?_
    intro res s' h
    match res, h with
    | .error _, h => exact h.elim
    | .ok .next, h => exact h.elim
    | .ok .brk, h => exact h.elim
    | .ok .cont, h => exact h.elim
    | .ok (.ret u), ⟨v, H', os, bare, un, held', rel, q⟩ =>
      have q : v = .bl true := q
      subst q
      cases (show u = Value.bool true from rel)
      refine ⟨rfl, OldK.of_keep ?_, os, bare⟩
      intro b o e
      cases q : H b with
      | none => exact un.keep b o e q (fun z => nomatch z) (fun z => nomatch z)
      | some u =>
        rcases only b with z | ⟨ob, xs, z⟩
        · rw [q] at z
          cases z
        · obtain ⟨e1, _⟩ := held b _ z
          obtain ⟨e2, _⟩ := held' b _ (un.frzs b ob _ z)
          rw [e] at e1
          cases e1
          exact e2
  cases hk : K.lookup a with
  | some o =>
    have e := kin a o hk
    rw [obj] at e
    cases e
    have sq : SqL K (fun _ => none) a (ns.map V.int) := .inr ⟨_, vs.toArray, _, hk, rfl, rfl, rfl, by rw [List.size_toArray, hints.length]; exact few, by simpa using rv⟩
    exact main (fun _ => none) (fun _ => .inl rfl) sq (fun b u z => nomatch (show (none : Option HO) = some u from z)) (fun b u z => nomatch (show (none : Option HO) = some u from z))
  | none =>
    have one : ∀ b u, (upd (fun _ => none) a (.frz { cls := .type "list", data := .seq vs.toArray } (.lst (ns.map V.int)))) b = some u → b = a ∧ u = .frz { cls := .type "list", data := .seq vs.toArray } (.lst (ns.map V.int)) := by
      intro b u z
      by_cases hb : b = a
      · subst hb
        rw [upd_same] at z
        exact ⟨rfl, (Option.some.inj z).symm⟩
      · rw [upd_ne hb] at z
        cases z
    refine main (upd (fun _ => none) a (.frz { cls := .type "list", data := .seq vs.toArray } (.lst (ns.map V.int)))) ?_ (.inl (.inr ⟨_, upd_same⟩)) ?_ (fun b u z => ⟨(one b u z).1, hk⟩)
    · intro b
      by_cases hb : b = a
      · subst hb
        exact .inr ⟨_, _, upd_same⟩
      · exact .inl (upd_ne hb)
    · intro b u z
      obtain ⟨rfl, rfl⟩ := one b u z
      exact ⟨obj, by rw [List.length_map]; exact few, vs, _, rv, obj⟩
theorem g_walk {l : PySem.W.OpenLaw} {n k : Nat} {q : Program} {loose : List Str} {XP : (Str → Option Value) → Heap → Prop} {YP : World → Heap → Prop} {d : DefRec} {K : Params → PySem.W.Frag} {sp : World → Sp} {x : Str}
    (hn : l.most = some n) (hn2 : n ≤ sizeLine) (hdf : d.params.defaults = []) (hr : Room k callerA) (hY : ∀ (w : World) (h : Heap), YP w h → (K w.params).In h)
    (F : ∀ (w : World) (mg : Str → Option Value) (fa : Addr) (h : Heap), (K w.params).In h → h.Ns mainGlobals mg → mg d.name = some (.ref fa) →
      ∃ fd : FuncData, (∀ (s : Shared) (u : Value), BindsTo s fd ⟨[u], []⟩ [(x, u)]) ∧ ∀ base : Heap, (K w.params).In base → base.Ns mainGlobals mg → FnG l.prog w (K w.params) mg base k fa fd [x] (sp w))
    (word : ∀ (w : World) (H : Hp) (a : Addr) (ns : List Int), ns.length ≤ n → Only H → SqL (K w.params) H a (ns.map V.int) → sp w [.ref a] H (fun v _ => v = .bl true) E0) :
    PySem.W.WalkO q loose XP YP l.row.toRowW d [] (fun f vs => PySem.call f vs) := by
  apply Att.attach_call hn hdf
  intro w s0 s1 mg mb fa o pm cd doc a vs ns G Y ho hd hcd hmg hobj hints hlen hg
  have kin := hY w _ Y
  obtain ⟨fd, hb, hF⟩ := F w mg fa _ kin G.T.g hmg
  exact g_law kin G.T.g G.T.b G.T.builtins G.T.nolimit hg hobj hints (Nat.le_trans hlen hn2) hr hF hb (fun H hO hS => word w H a ns hlen hO hS)
/-- the law's word from its meaning -/
theorem law_word {K : PySem.W.Frag} {F : List D → M D} {H : Hp} {a : Addr} {ns : List Int} (only : Only H) (seq : SqL K H a (ns.map V.int)) (h : ∃ S', F [.fro (ns.map D.int)] [] = .ok (.bl true) S') : spF K 1 F [.ref a] H (fun v _ => v = .bl true) E0 := by
  obtain ⟨S', e⟩ := h
  refine ⟨rfl, ⟨H, [], [], fun _ => False⟩, [.fro (ns.map D.int)], rfl, ⟨rfl, fun i j b kd kd' xs ys h => ?_, fun k xs h => ?_, fun b z => z.elim⟩, ?_, .bl true, S', e, fun W' v _ r => rep_bl r⟩
  · simp at h
  · simp at h
  · refine reps_one ?_
    simp only [Rep]
    refine ⟨a, ns.map V.int, rfl, ?_, ?_⟩
    · rcases seq with (z | z) | z
      · rcases only a with q | ⟨o, xs, q⟩ <;> (rw [z] at q; cases q)
      · exact .inl z
      · exact .inr (.inr z)
    · clear e seq
      induction ns with
      | nil => simp [Reps]
      | cons m ns ih =>
        simp only [List.map_cons, Reps]
        exact ⟨_, _, rfl, int_rep m, ih⟩
end AG
namespace AG
open PySem PySem.Spec PyProof.Rows L2
def mkG (ds : List Df) (bts : List Str) (cs : List (Str × CV)) (fls : List (String × String)) : Tb := ⟨ds.map fun d => (d.key, d.kind, d.ps.length - d.dv.length), bts, cs, fls⟩
def mkT (ds : List Df) (bs : List Sms) : Defs := (ds.zip bs).map fun p => (p.1.key, p.1.dv, p.1.N.length, p.2)
/-- the statement j of the class's body -/
def clsS (st : Stmt) (j : Nat) : Stmt := match st with
  | .ClassDef (body := b) .. => b.getD j (.Pass ⟨0, 0, 0, 0⟩)
  | _ => .Pass ⟨0, 0, 0, 0⟩
/-- what is to be looked at in a def, by computation -/
def okDf (G : Tb) (d : Df) (b : Sms) : Bool := chkSs G d.N b ⟨defScope d.st, defScope d.st⟩ (defBody d.st)
structure Look (ds : List Df) (bs : List Sms) (bts : List Str) (cs : List (Str × CV)) (fls : List (String × String)) (d : Df) (b : Sms) : Prop where
  sc : FnScope d.N d.ps (defScope d.st)
  ok : okDf (mkG ds bts cs fls) d b = true
  fk : (mkG ds bts cs fls).fns.lookup d.key = some (d.kind, d.ps.length - d.dv.length)
  dl : d.dv.length ≤ d.ps.length
  tk : (mkT ds bs).lookup d.key = some (d.dv, d.N.length, b)
theorem dfOk_of {ds : List Df} {bts : List Str} {cs : List (Str × CV)} {fls : List (String × String)} {bs : List Sms} (hl : ds.length = bs.length) (h : ∀ (i : Nat) (d : Df) (b : Sms), ds[i]? = some d → bs[i]? = some b → Look ds bs bts cs fls d b) :
    ∀ d ∈ ds, DfOk (mkG ds bts cs fls) (mkT ds bs) d := by
  intro d hd
  obtain ⟨i, hi, rfl⟩ := List.getElem_of_mem hd
  have hb : bs[i]? = some bs[i] := List.getElem?_eq_getElem (by rw [← hl]; exact hi)
  have L := h i _ _ (List.getElem?_eq_getElem hi) hb
  exact ⟨L.fk, L.dl, L.sc, _, L.tk, L.ok⟩
theorem mkG_has {bts : List Str} {cs : List (Str × CV)} {fls : List (String × String)} : ∀ {ds : List Df} (i : String) (q : FK) (n : Nat), (mkG ds bts cs fls).fns.lookup i = some (q, n) → ∃ d ∈ ds, d.key = i
  | [], i, q, n, h => by cases h
  | d :: ds, i, q, n, h => by
    have h : List.lookup i ((d.key, d.kind, d.ps.length - d.dv.length) :: ds.map fun d => (d.key, d.kind, d.ps.length - d.dv.length)) = some (q, n) := h
    rw [List.lookup] at h
    cases hk : (i == d.key) with
    | true => exact ⟨d, List.mem_cons_self .., (eq_of_beq hk).symm⟩
    | false =>
      rw [hk] at h
      obtain ⟨e, he, e2⟩ := mkG_has (bts := bts) (cs := cs) (fls := fls) (ds := ds) i q n h
      exact ⟨e, List.mem_cons_of_mem _ he, e2⟩
section
variable {K : PySem.W.Frag} {h : Heap} {mg : Str → Option Value}
/-- how a def's values are bound -/
structure BindOk (K : PySem.W.Frag) (d : Df) (dV kV : Value) (fd : FuncData) : Prop where
  ex : ∃ es, Vals (d.dv.map V.int) es ∧ Binds K fd d.ps es ∧ (d.key = "law" → ∀ us : List Value, us.length = d.ps.length → bindArgs fd ⟨us, []⟩ = pure (d.ps.zip us))
theorem bind_all {d : Df} {dV kV : Value} {fd : FuncData} (h0 : d.dv = []) (h : ∀ us : List Value, us.length = d.ps.length → bindArgs fd ⟨us, []⟩ = pure (d.ps.zip us)) : BindOk K d dV kV fd := ⟨[], by rw [h0]; exact .nil, .all h, fun _ => h⟩
/-- one default for the last parameter, left out -/
theorem bind_d1 {d : Df} {x : Int} {tk : Tok} {T : Addr} {oc : Value} {od : Option Addr} {osl : Array (Option Value)} {m : Nat} {kV doc pm : Value} {an : Option Addr} {cdv ct : Value} (h0 : d.dv = [x]) (lT : K.lookup T = some ⟨oc, od, .seq #[.int x tk] m, osl⟩)
    (h : ∀ (kV doc pm : Value) (an : Option Addr) (cdv ct : Value) (us : List Value), us.length + 1 = d.ps.length → ∃ k, bindArgs (PySem.W.fnOf d.name d.qual (defArgs d.st) (defBody d.st) (defScope d.st) (.ref T) kV doc pm an cdv ct) ⟨us, []⟩ = seqItems? (.ref T) >>= k ∧ k (some #[.int x tk]) = pure (d.ps.zip (us ++ [.int x tk]))) (hne : d.key ≠ "law") :
    BindOk K d (.ref T) kV (PySem.W.fnOf d.name d.qual (defArgs d.st) (defBody d.st) (defScope d.st) (.ref T) kV doc pm an cdv ct) := by
  refine ⟨[.int x tk], by rw [h0]; exact .cons ⟨_, rfl⟩ .nil, fun s us X hl => ?_, fun z => absurd z hne⟩
  rw [List.length_append] at hl
  obtain ⟨k, e1, e2⟩ := h kV doc pm an cdv ct us hl
  refine L2.BindsTo.of_looks fun M => ?_
  rw [e1]
  exact looks_items X lT rfl (.of_pure e2)
/-- one default, all given -/
theorem bind_d0 {d : Df} {x : Int} {tk : Tok} {T : Addr} {oc : Value} {od : Option Addr} {osl : Array (Option Value)} {m : Nat} {kV doc pm : Value} {an : Option Addr} {cdv ct : Value} (h0 : d.dv = []) (lT : K.lookup T = some ⟨oc, od, .seq #[.int x tk] m, osl⟩)
    (h : ∀ (kV doc pm : Value) (an : Option Addr) (cdv ct : Value) (us : List Value), us.length = d.ps.length → ∃ k, bindArgs (PySem.W.fnOf d.name d.qual (defArgs d.st) (defBody d.st) (defScope d.st) (.ref T) kV doc pm an cdv ct) ⟨us, []⟩ = seqItems? (.ref T) >>= k ∧ k (some #[.int x tk]) = pure (d.ps.zip us)) (hne : d.key ≠ "law") :
    BindOk K d (.ref T) kV (PySem.W.fnOf d.name d.qual (defArgs d.st) (defBody d.st) (defScope d.st) (.ref T) kV doc pm an cdv ct) := by
  refine ⟨[], by rw [h0]; exact .nil, fun s us X hl => ?_, fun z => absurd z hne⟩
  rw [List.append_nil] at hl ⊢
  obtain ⟨k, e1, e2⟩ := h kV doc pm an cdv ct us hl
  refine L2.BindsTo.of_looks fun M => ?_
  rw [e1]
  exact looks_items X lT rfl (.of_pure e2)
/-- one keyword-only default, left out -/
theorem bind_k1 {d : Df} {x : Int} {tk : Tok} {D : Addr} {y : Str} {doc pm : Value} {an : Option Addr} {cdv ct : Value} (h0 : d.dv = [x]) (lD : PySem.W.nsIn K D y = some (some (.int x tk)))
    (h : ∀ (D : Addr) (doc pm : Value) (an : Option Addr) (cdv ct : Value) (us : List Value), us.length + 1 = d.ps.length → KwChain D [(y, .int x tk)] (bindArgs (PySem.W.fnOf d.name d.qual (defArgs d.st) (defBody d.st) (defScope d.st) .none (.ref D) doc pm an cdv ct) ⟨us, []⟩) (d.ps.zip (us ++ [.int x tk]))) (hne : d.key ≠ "law") :
    BindOk K d .none (.ref D) (PySem.W.fnOf d.name d.qual (defArgs d.st) (defBody d.st) (defScope d.st) .none (.ref D) doc pm an cdv ct) := by
  refine ⟨[.int x tk], by rw [h0]; exact .cons ⟨_, rfl⟩ .nil, fun s us X hl => ?_, fun z => absurd z hne⟩
  rw [List.length_append] at hl
  exact L2.BindsTo.of_looks fun M => KwChain.looks X (fun q hq => by rw [List.mem_singleton.mp hq]; exact lD) (h D doc pm an cdv ct us hl)
theorem stand_mk (X : K.In h) (G : h.Ns mainGlobals mg) {d : Df} {x : Str} {f : Addr} {oc : Value} {od an : Option Addr} {osl : Array (Option Value)} {dV kV doc pm cdv ct : Value} (hkind : mg x = some (.ref f) → PySem.W.keepIn K (.ref f) = true → AtK K mg d.key f d.kind)
    (a : PySem.W.nsIn K mainGlobals x = some (some (.ref f))) (l : K.lookup f = some ⟨oc, od, .func (PySem.W.fnOf d.name d.qual (defArgs d.st) (defBody d.st) (defScope d.st) dV kV doc pm an cdv ct), osl⟩)
    (c : PySem.W.codeIn K cdv d.qual = true) (k : PySem.W.keepIn K (.ref f) = true)
    (b : BindOk K d dV kV (PySem.W.fnOf d.name d.qual (defArgs d.st) (defBody d.st) (defScope d.st) dV kV doc pm an cdv ct)) : Stands K mg d := by
  have F : FunA K d.name d.qual d.st f _ := ⟨_, _, _, _, _, _, _, _, _, _, rfl, l, c⟩
  obtain ⟨es, h1, h2, h3⟩ := b.ex
  exact ⟨f, _, es, F, hkind (PySem.W.mg_of X G a) k, h1, h2, h3⟩
theorem cls_mk {c : String} {C : Addr} (a : PySem.W.nsIn K mainGlobals (Str.ofString c) = some (some (.ref C))) (h1 : PySem.W.plainGet K C Str.empty = true) (h2 : PySem.W.hasDictIn K C = true) (h3 : PySem.W.plainOver K C = true)
    (h4 : PySem.W.findIn K (.ref C) "__setattr__" = some (some (.builtin "object.__setattr__"))) : ClsT K c C := ⟨a, ⟨h1, h2, h3, h4⟩⟩
theorem stand_me {d : Df} {c m : String} {C f : Addr} {oc : Value} {od an : Option Addr} {osl : Array (Option Value)} {dV kV doc pm cdv ct : Value} (hkind : d.kind = .me c m) (T : ClsT K c C)
    (m1 : PySem.W.findIn K (.ref C) (Str.ofString m) = some (some (.ref f))) (m2 : PySem.W.isFn K (.ref f) = true) (l : K.lookup f = some ⟨oc, od, .func (PySem.W.fnOf d.name d.qual (defArgs d.st) (defBody d.st) (defScope d.st) dV kV doc pm an cdv ct), osl⟩)
    (cc : PySem.W.codeIn K cdv d.qual = true) (k : PySem.W.keepIn K (.ref f) = true)
    (b : BindOk K d dV kV (PySem.W.fnOf d.name d.qual (defArgs d.st) (defBody d.st) (defScope d.st) dV kV doc pm an cdv ct)) : Stands K mg d := by
  have F : FunA K d.name d.qual d.st f _ := ⟨_, _, _, _, _, _, _, _, _, _, rfl, l, cc⟩
  obtain ⟨es, h1, h2, h3⟩ := b.ex
  exact ⟨f, _, es, F, by rw [hkind]; exact ⟨C, T, ⟨m1, m2, k⟩⟩, h1, h2, h3⟩
theorem stand_ini (X : K.In h) (G : h.Ns mainGlobals mg) {d : Df} {c : String} {C f : Addr} {oc : Value} {od an : Option Addr} {osl : Array (Option Value)} {dV kV doc pm cdv ct : Value} (hkind : d.kind = .ini c) (T : ClsT K c C)
    (m0 : PySem.W.makesIn K C = true) (m1 : PySem.W.findIn K (.ref C) "__init__" = some (some (.ref f))) (m2 : PySem.W.isFn K (.ref f) = true) (m3 : PySem.W.keepIn K (.ref C) = true)
    (l : K.lookup f = some ⟨oc, od, .func (PySem.W.fnOf d.name d.qual (defArgs d.st) (defBody d.st) (defScope d.st) dV kV doc pm an cdv ct), osl⟩)
    (cc : PySem.W.codeIn K cdv d.qual = true) (k : PySem.W.keepIn K (.ref f) = true)
    (b : BindOk K d dV kV (PySem.W.fnOf d.name d.qual (defArgs d.st) (defBody d.st) (defScope d.st) dV kV doc pm an cdv ct)) : Stands K mg d := by
  have F : FunA K d.name d.qual d.st f _ := ⟨_, _, _, _, _, _, _, _, _, _, rfl, l, cc⟩
  obtain ⟨es, h1, h2, h3⟩ := b.ex
  exact ⟨f, _, es, F, by rw [hkind]; exact ⟨C, T, ⟨m0, m1, m2, m3⟩, PySem.W.mg_of X G T.at_⟩, h1, h2, h3⟩
theorem fls_nil : ∀ (c f : String), (c, f) ∈ ([] : List (String × String)) → ∃ C, ClsT K c C ∧ NoAttr K C (Str.ofString f) := fun _ _ h => nomatch h
theorem fls_cons {c f : String} {C : Addr} {r : List (String × String)} (T : ClsT K c C) (n : PySem.W.findIn K (.ref C) (Str.ofString f) = some none) (hr : ∀ (c f : String), (c, f) ∈ r → ∃ C, ClsT K c C ∧ NoAttr K C (Str.ofString f)) :
    ∀ (c' f' : String), (c', f') ∈ (c, f) :: r → ∃ C, ClsT K c' C ∧ NoAttr K C (Str.ofString f') := fun c' f' h => by
  rcases List.mem_cons.mp h with z | z
  · cases z; exact ⟨C, T, n⟩
  · exact hr c' f' z
end
theorem stands_nil {K : PySem.W.Frag} {mg : Str → Option Value} : ∀ d ∈ ([] : List Df), Stands K mg d := fun _ h => nomatch h
theorem stands_cons {K : PySem.W.Frag} {mg : Str → Option Value} {d : Df} {ds : List Df} (h : Stands K mg d) (hs : ∀ e ∈ ds, Stands K mg e) : ∀ e ∈ d :: ds, Stands K mg e := fun e he => by
  rcases List.mem_cons.mp he with q | q
  · rw [q]; exact h
  · exact hs e q
theorem none_nil {mg : Str → Option Value} : ∀ x ∈ ([] : List Str), mg x = none := fun _ h => nomatch h
theorem none_cons {K : PySem.W.Frag} {h : Heap} {mg : Str → Option Value} (X : K.In h) (G : h.Ns mainGlobals mg) {x : Str} {xs : List Str} (z : PySem.W.nsIn K mainGlobals x = some none) (hs : ∀ y ∈ xs, mg y = none) : ∀ y ∈ x :: xs, mg y = none := fun y hy => by
  rcases List.mem_cons.mp hy with q | q
  · rw [q]; exact PySem.W.mg_none_of X G z
  · exact hs y q
theorem cons_nil {mg : Str → Option Value} : ∀ (x : Str) (c : CV), (x, c) ∈ ([] : List (Str × CV)) → CvOk (mg x) c := fun _ _ h => nomatch h
theorem cons_cons {K : PySem.W.Frag} {h : Heap} {mg : Str → Option Value} (X : K.In h) (G : h.Ns mainGlobals mg) {x : Str} {j : Int} {t : Tok} {xs : List (Str × CV)} (z : PySem.W.nsIn K mainGlobals x = some (some (.int j t))) (hs : ∀ (y : Str) (c : CV), (y, c) ∈ xs → CvOk (mg y) c) :
    ∀ (y : Str) (c : CV), (y, c) ∈ (x, CV.i j) :: xs → CvOk (mg y) c := fun y i hy => by
  rcases List.mem_cons.mp hy with q | q
  · cases q; exact ⟨t, PySem.W.mg_of X G z⟩
  · exact hs y i q
theorem cons_blt {K : PySem.W.Frag} {h : Heap} {mg : Str → Option Value} (X : K.In h) (G : h.Ns mainGlobals mg) {x : Str} {id : String} {xs : List (Str × CV)} (z : PySem.W.nsIn K mainGlobals x = some (some (.builtin id))) (hs : ∀ (y : Str) (c : CV), (y, c) ∈ xs → CvOk (mg y) c) :
    ∀ (y : Str) (c : CV), (y, c) ∈ (x, CV.b id) :: xs → CvOk (mg y) c := fun y i hy => by
  rcases List.mem_cons.mp hy with q | q
  · cases q; exact PySem.W.mg_of X G z
  · exact hs y i q
/-- the law's def, at the level above its words -/
theorem end_of {P : Program} {w : World} {K : PySem.W.Frag} {mg : Str → Option Value} {ds : List Df} {bs : List Sms} {bts : List Str} {cs : List (Str × CV)} {fls : List (String × String)} {fu lv : Nat} {fa : Addr} {dl : Df} {x : Str}
    (hl : ds.length = bs.length) (lk : ∀ (i : Nat) (d : Df) (b : Sms), ds[i]? = some d → bs[i]? = some b → Look ds bs bts cs fls d b) (hdl : dl ∈ ds) (hps : dl.ps = [x]) (hdv : dl.dv = []) (hkey : dl.key = "law") (hkind : dl.kind = .fn)
    (st : ∀ d ∈ ds, Stands K mg d) (hb : ∀ x ∈ bts, mg x = none) (hc : ∀ (x : Str) (c : CV), (x, c) ∈ cs → CvOk (mg x) c) (hfl : ∀ (c f : String), (c, f) ∈ fls → ∃ C, ClsT K c C ∧ NoAttr K C (Str.ofString f)) (hfa : mg (Str.ofString dl.key) = some (.ref fa)) :
    ∃ fd : FuncData, (∀ (s : Shared) (u : Value), BindsTo s fd ⟨[u], []⟩ [(x, u)]) ∧ ∀ base : Heap, K.In base → base.Ns mainGlobals mg → FnG P w K mg base (2 * lv + 2) fa fd [x] (spF K 1 (Phi fu (mkT ds bs) (lv + 1) dl.key)) := by
  obtain ⟨f, fd, es, F, hm, _, _, hbd⟩ := (st dl hdl).ex
  rw [hkind] at hm
  have e : f = fa := by
    have := hm.1.symm.trans hfa
    cases this
    rfl
  subst e
  refine ⟨fd, fun s u => ?_, fun base hK hG => ?_⟩
  · have q := hbd hkey [u] (by rw [hps]; rfl)
    rw [hps] at q
    exact .of_eq q
  · have W := defs_all (P := P) (w := w) (base := base) (fu := fu) (T := mkT ds bs) ds mkG_has (dfOk_of hl lk) st ⟨hb, hc, hfl⟩ lv
    obtain ⟨b, hT, q⟩ := def_step (fu := fu) F (dfOk_of hl lk dl hdl) ⟨hb, hc, hfl⟩ W
    rw [hps] at q
    have e : Phi fu (mkT ds bs) (lv + 1) dl.key = runF (Phi fu (mkT ds bs) lv) fu dl.N.length b := by
      funext ds'
      simp only [Phi, hT, hdv, List.map_nil, List.append_nil]
    rw [e]
    exact q
end AG
namespace AG
open PySem
/-! ### what a run comes to -/
def Ok {α : Type} (m : M α) (S : Sto) (P : α → Sto → Prop) : Prop := ∃ a S', m S = .ok a S' ∧ P a S'
theorem Ok.mono {α : Type} {m : M α} {S : Sto} {P Q : α → Sto → Prop} (h : Ok m S P) (k : ∀ a S', P a S' → Q a S') : Ok m S Q := let ⟨a, S', e, p⟩ := h; ⟨a, S', e, k a S' p⟩
theorem ok_ret' {α : Type} {a : α} {S : Sto} {P : α → Sto → Prop} : Ok (ret a) S P = P a S := by
  apply propext
  constructor
  · rintro ⟨b, S', e, p⟩; cases e; exact p
  · intro p; exact ⟨a, S, rfl, p⟩
theorem ok_bnd {α β : Type} {m : M α} {f : α → M β} {S : Sto} {P : β → Sto → Prop} : Ok (bnd m f) S P = Ok m S fun a S' => Ok (f a) S' P := by
  apply propext
  constructor
  · rintro ⟨b, S', e, p⟩
    obtain ⟨a, S1, e1, e2⟩ := bnd_ok e
    exact ⟨a, S1, e1, b, S', e2, p⟩
  · rintro ⟨a, S1, e1, b, S', e2, p⟩
    exact ⟨b, S', bnd_mk e1 e2, p⟩
theorem ok_need {α : Type} {c : Bool} {m : M α} {S : Sto} {P : α → Sto → Prop} : Ok (need c m) S P = (c = true ∧ Ok m S P) := by
  cases c with
  | true => simp [need]
  | false =>
    apply propext
    constructor
    · rintro ⟨_, _, e, _⟩; cases e
    · rintro ⟨h, _⟩; cases h
theorem getV_at {ρ : Env} {i : Nat} {d : D} {S : Sto} (h : ρ[i]? = some (some d)) : getV ρ i S = .ok d S := by
  unfold getV
  rw [h]
  rfl
theorem getV_in {ρ : Env} {i : Nat} {d : D} {S S' : Sto} (e : getV ρ i S = .ok d S') : ρ[i]? = some (some d) ∧ S = S' := by
  unfold getV at e
  cases h : ρ[i]? with
  | none => rw [h] at e; cases e
  | some o =>
    rw [h] at e
    cases o with
    | none => cases e
    | some d' =>
      obtain ⟨rfl, rfl⟩ := ret_ok e
      exact ⟨rfl, rfl⟩
theorem ok_getV {ρ : Env} {i : Nat} {S : Sto} {P : D → Sto → Prop} : Ok (getV ρ i) S P = ∃ d, ρ[i]? = some (some d) ∧ P d S := by
  apply propext
  constructor
  · rintro ⟨b, S', e, p⟩
    obtain ⟨h, rfl⟩ := getV_in e
    exact ⟨b, h, p⟩
  · rintro ⟨d, e, p⟩
    exact ⟨d, S, getV_at e, p⟩
theorem getC_at {k : Nat} {xs : List D} {S : Sto} (h : S[k]? = some (some xs)) : getC k S = .ok xs S := by
  unfold getC
  rw [h]
theorem ok_getC {k : Nat} {S : Sto} {P : List D → Sto → Prop} : Ok (getC k) S P = ∃ xs, S[k]? = some (some xs) ∧ P xs S := by
  apply propext
  constructor
  · rintro ⟨b, S', e, p⟩
    unfold getC at e
    split at e
    · rename_i xs h
      cases e
      exact ⟨_, h, p⟩
    · cases e
  · rintro ⟨xs, e, p⟩
    exact ⟨xs, S, getC_at e, p⟩
theorem ok_setC {k : Nat} {ys : List D} {S : Sto} {P : Unit → Sto → Prop} : Ok (setC k ys) S P = ∃ xs, S[k]? = some (some xs) ∧ P () (S.set k (some ys)) := by
  apply propext
  constructor
  · rintro ⟨b, S', e, p⟩
    unfold setC at e
    split at e
    · rename_i xs h
      cases e
      exact ⟨_, h, p⟩
    · cases e
  · rintro ⟨xs, e, p⟩
    refine ⟨(), _, ?_, p⟩
    unfold setC
    rw [e]
theorem ok_opt {α : Type} {o : Option α} {S : Sto} {P : α → Sto → Prop} : Ok (opt o) S P = ∃ a, o = some a ∧ P a S := by
  apply propext
  cases o with
  | none => constructor <;> rintro ⟨_, h⟩ <;> first | (obtain ⟨_, e, _⟩ := h; cases e) | (cases h.1)
  | some a =>
    constructor
    · rintro ⟨b, S', e, p⟩; cases e; exact ⟨a, rfl, p⟩
    · rintro ⟨b, e, p⟩; cases e; exact ⟨a, S, rfl, p⟩
theorem ok_newC {xs : List D} {S : Sto} {P : D → Sto → Prop} : Ok (newC xs) S P = P (.ref S.length) (S ++ [some xs]) := by
  apply propext
  constructor
  · rintro ⟨b, S', e, p⟩; cases e; exact p
  · intro p; exact ⟨_, _, rfl, p⟩
theorem ok_mkLf {xs : List D} {S : Sto} {P : D → Sto → Prop} : Ok (mkL false xs) S P = P (.lst xs) S := ok_ret'
theorem ok_mkLt {xs : List D} {S : Sto} {P : D → Sto → Prop} : Ok (mkL true xs) S P = P (.ref S.length) (S ++ [some xs]) := ok_newC
theorem ok_iteT {α : Type} {m n : M α} {S : Sto} {P : α → Sto → Prop} : Ok (if true = true then m else n) S P = Ok m S P := rfl
theorem ok_iteF {α : Type} {m n : M α} {S : Sto} {P : α → Sto → Prop} : Ok (if false = true then m else n) S P = Ok n S P := rfl
theorem ok_ite {α : Type} {c : Bool} {m n : M α} {S : Sto} {P : α → Sto → Prop} : Ok (if c = true then m else n) S P = ((c = true → Ok m S P) ∧ (c = false → Ok n S P)) := by
  apply propext
  cases c <;> simp
/-- a loop by what holds between its turns -/
theorem ok_forL {tg : Tg} {b : Env → M Fl} {P : Fl → Sto → Prop} (I : Nat → Env → Sto → Prop) : ∀ (xs : List D) (ρ : Env) (S : Sto) (i : Nat), I i ρ S →
    (∀ j x ρ S, xs[j]? = some x → I (i + j) ρ S → ∃ ρ2, asg tg x ρ = some ρ2 ∧ Ok (b ρ2) S fun f S' => match f with
      | .nx ρ3 => I (i + j + 1) ρ3 S'
      | .ct ρ3 => I (i + j + 1) ρ3 S'
      | .bk ρ3 => P (.nx ρ3) S'
      | .rt d => P (.rt d) S') →
    (∀ ρ S, I (i + xs.length) ρ S → P (.nx ρ) S) → Ok (forL tg b xs ρ) S P
  | [], ρ, S, i, h0, _, hd => by
    simp only [forL, ok_ret']
    exact hd ρ S h0
  | x :: xs, ρ, S, i, h0, ht, hd => by
    obtain ⟨ρ2, e2, h2⟩ := ht 0 x ρ S rfl h0
    simp only [forL, ok_bnd, ok_opt]
    refine ⟨ρ2, e2, h2.mono fun f S' hf => ?_⟩
    have rest : ∀ ρ3 S', I (i + 1) ρ3 S' → Ok (forL tg b xs ρ3) S' P := fun ρ3 S' h3 =>
      ok_forL I xs ρ3 S' (i + 1) h3 (fun j y ρ S hj hI => by
        have := ht (j + 1) y ρ S (by simpa using hj) (by rw [show i + (j + 1) = i + 1 + j by omega]; exact hI)
        rw [show i + (j + 1) = i + 1 + j by omega] at this
        exact this) (fun ρ S hI => hd ρ S (by rw [List.length_cons, show i + (xs.length + 1) = i + 1 + xs.length by omega]; exact hI))
    cases f with
    | nx ρ3 => exact rest ρ3 S' hf
    | ct ρ3 => exact rest ρ3 S' hf
    | bk ρ3 => simp only [ok_ret']; exact hf
    | rt d => simp only [ok_ret']; exact hf
theorem ok_for {tg : Tg} {b : Env → M Fl} {P : Fl → Sto → Prop} {xs : List D} {ρ : Env} {S : Sto} (I : Nat → Env → Sto → Prop) (h0 : I 0 ρ S)
    (ht : ∀ j x ρ S, xs[j]? = some x → I j ρ S → ∃ ρ2, asg tg x ρ = some ρ2 ∧ Ok (b ρ2) S fun f S' => match f with
      | .nx ρ3 => I (j + 1) ρ3 S'
      | .ct ρ3 => I (j + 1) ρ3 S'
      | .bk ρ3 => P (.nx ρ3) S'
      | .rt d => P (.rt d) S')
    (hd : ∀ ρ S, I xs.length ρ S → P (.nx ρ) S) : Ok (forL tg b xs ρ) S P :=
  ok_forL I xs ρ S 0 h0 (fun j x ρ S hx hI => by simpa only [Nat.zero_add] using ht j x ρ S hx (by simpa only [Nat.zero_add] using hI)) (fun ρ S h => hd ρ S (by simpa only [Nat.zero_add] using h))
/-- a comprehension without a test -/
theorem ok_lcL {elt : Env → M D} {tg : Tg} {ρ : Env} {P : List D → Sto → Prop} (I : Nat → List D → Sto → Prop) : ∀ (xs acc : List D) (S : Sto) (i : Nat), I i acc S → acc.length = i → i + xs.length ≤ 1000000 →
    (∀ j x acc S, xs[j]? = some x → acc.length = i + j → I (i + j) acc S → ∃ ρ2, asg tg x ρ = some ρ2 ∧ Ok (elt ρ2) S fun y S' => I (i + j + 1) (acc ++ [y]) S') →
    (∀ acc S, acc.length = i + xs.length → I (i + xs.length) acc S → P acc S) → Ok (lcL elt tg (fun _ => ret true) ρ xs acc) S P
  | [], acc, S, i, h0, hl, _, _, hd => by
    simp only [lcL, ok_ret']
    exact hd acc S hl h0
  | x :: xs, acc, S, i, h0, hl, hb, ht, hd => by
    obtain ⟨ρ2, e2, h2⟩ := ht 0 x acc S rfl hl h0
    rw [List.length_cons] at hb
    simp only [lcL]
    rw [ok_bnd, ok_opt]
    refine ⟨ρ2, e2, ?_⟩
    rw [ok_bnd, ok_ret', if_pos rfl, ok_bnd]
    refine h2.mono fun y S' hy => ?_
    rw [ok_need]
    refine ⟨by unfold small; rw [hl]; exact decide_eq_true (by omega), ?_⟩
    refine ok_lcL I xs (acc ++ [y]) S' (i + 1) hy (by simp [hl]) (by omega) (fun j z acc S hj hl hI => ?_) (fun acc S hl hI => hd acc S (by rw [hl, List.length_cons]; omega) (by rw [List.length_cons, show i + (xs.length + 1) = i + 1 + xs.length by omega]; exact hI))
    have := ht (j + 1) z acc S (by simpa using hj) (by rw [hl]; omega) (by rw [show i + (j + 1) = i + 1 + j by omega]; exact hI)
    rw [show i + (j + 1) = i + 1 + j by omega] at this
    exact this
theorem ok_lc {elt : Env → M D} {tg : Tg} {ρ : Env} {P : List D → Sto → Prop} {xs : List D} {S : Sto} (I : Nat → List D → Sto → Prop) (h0 : I 0 [] S) (hb : xs.length ≤ 1000000)
    (ht : ∀ j x acc S, xs[j]? = some x → acc.length = j → I j acc S → ∃ ρ2, asg tg x ρ = some ρ2 ∧ Ok (elt ρ2) S fun y S' => I (j + 1) (acc ++ [y]) S')
    (hd : ∀ acc S, acc.length = xs.length → I xs.length acc S → P acc S) : Ok (lcL elt tg (fun _ => ret true) ρ xs []) S P :=
  ok_lcL I xs [] S 0 h0 rfl (by omega) (fun j x acc S hx hl hI => by simpa only [Nat.zero_add] using ht j x acc S hx (by simpa using hl) (by simpa only [Nat.zero_add] using hI)) (fun acc S hl h => hd acc S (by simpa using hl) (by simpa only [Nat.zero_add] using h))
/-- a comprehension whose element is a function of its item, and leaves the store -/
theorem ok_lcmap {elt : Env → M D} {tg : Tg} {ρ : Env} {P : List D → Sto → Prop} {xs : List D} {S : Sto} (f : D → D) (hb : xs.length ≤ 1000000)
    (ht : ∀ x ∈ xs, ∃ ρ2, asg tg x ρ = some ρ2 ∧ Ok (elt ρ2) S fun y S' => y = f x ∧ S' = S) (hd : P (xs.map f) S) : Ok (lcL elt tg (fun _ => ret true) ρ xs []) S P := by
  refine ok_lc (fun i acc S' => acc = (xs.take i).map f ∧ S' = S) ⟨rfl, rfl⟩ hb (fun j x acc S' hx hl ⟨h1, h2⟩ => ?_) (fun acc S' hl ⟨h1, h2⟩ => ?_)
  · subst h2
    obtain ⟨ρ2, e, h⟩ := ht x (List.mem_of_getElem? hx)
    refine ⟨ρ2, e, h.mono fun y S2 ⟨hy, hS⟩ => ⟨?_, hS⟩⟩
    rw [h1, hy, List.take_add_one, hx]
    simp
  · subst h2
    rw [h1, List.take_of_length_le (Nat.le_refl _)]
    exact hd
/-- a while by what holds, and a number that falls -/
theorem ok_wh {c : Env → M Bool} {b : Env → M Fl} {P : Fl → Sto → Prop} (I : Nat → Env → Sto → Prop) : ∀ (n : Nat) (m : Nat) (ρ : Env) (S : Sto), m < n → I m ρ S →
    (∀ m ρ S, I m ρ S → Ok (c ρ) S fun k S1 => if k = true then Ok (b ρ) S1 fun f S' => match f with
      | .nx ρ3 => ∃ m', m' < m ∧ I m' ρ3 S'
      | .ct ρ3 => ∃ m', m' < m ∧ I m' ρ3 S'
      | .bk ρ3 => P (.nx ρ3) S'
      | .rt d => P (.rt d) S' else P (.nx ρ) S1) → Ok (whL c b n ρ) S P
  | 0, m, ρ, S, hm, _, _ => absurd hm (Nat.not_lt_zero _)
  | n + 1, m, ρ, S, hm, h0, ht => by
    simp only [whL, ok_bnd]
    refine (ht m ρ S h0).mono fun k S1 hk => ?_
    cases k with
    | false =>
      simp only [Bool.false_eq_true, if_false, ok_ret'] at hk ⊢
      exact hk
    | true =>
      simp only [if_true, ok_bnd] at hk ⊢
      refine hk.mono fun f S2 hf => ?_
      cases f with
      | nx ρ3 =>
        obtain ⟨m', h1, h2⟩ := hf
        exact ok_wh I n m' ρ3 S2 (by omega) h2 ht
      | ct ρ3 =>
        obtain ⟨m', h1, h2⟩ := hf
        exact ok_wh I n m' ρ3 S2 (by omega) h2 ht
      | bk ρ3 => simp only [ok_ret']; exact hf
      | rt d => simp only [ok_ret']; exact hf
end AG
namespace AG
open PySem
theorem ixN_of {n j : Nat} (h : j < n) : L2.ixN n (j : Int) = some j := by
  unfold L2.ixN
  rw [if_pos (by omega), if_pos (by omega)]
  rfl
theorem atI_of {α : Type} (xs : List α) (j : Nat) : L2.atI xs (j : Int) = xs[j]? := by
  unfold L2.atI
  by_cases h : j < xs.length
  · rw [ixN_of h]; rfl
  · have : L2.ixN xs.length (j : Int) = none := by
      unfold L2.ixN
      rw [if_pos (by omega), if_neg (by omega)]
    rw [this, List.getElem?_eq_none (by omega)]
    rfl
theorem atI_0 {α : Type} (xs : List α) : L2.atI xs 0 = xs[0]? := atI_of xs 0
theorem atI_1 {α : Type} (xs : List α) : L2.atI xs 1 = xs[1]? := atI_of xs 1
theorem atI_2 {α : Type} (xs : List α) : L2.atI xs 2 = xs[2]? := atI_of xs 2
theorem atI_3 {α : Type} (xs : List α) : L2.atI xs 3 = xs[3]? := atI_of xs 3
theorem ixN_30 : L2.ixN 3 0 = some 0 := rfl
theorem ixN_31 : L2.ixN 3 1 = some 1 := rfl
theorem ixN_32 : L2.ixN 3 2 = some 2 := rfl
theorem big_of {i : Int} (h1 : -(2 ^ 199) < i) (h2 : i < 2 ^ 199) : big i = true := by
  unfold big
  apply decide_eq_true
  have : (2 : Nat) ^ 200 = 2 * 2 ^ 199 := by decide
  have h : ((2 : Int) ^ 199) = ((2 ^ 199 : Nat) : Int) := by norm_cast
  omega
end AG
namespace AG
open PySem
theorem addD_ii (i j : Int) : addD (.int i) (.int j) = ret (.int (i + j)) := rfl
theorem addD_tt (i j : List D) : addD (.tup i) (.tup j) = need (small i.length && small j.length) (ret (.tup (i ++ j))) := rfl
theorem addD_ll (i j : List D) : addD (.lst i) (.lst j) = need (small i.length && small j.length) (ret (.lst (i ++ j))) := rfl
theorem subD_ii (i j : Int) : subD (.int i) (.int j) = ret (.int (i - j)) := rfl
theorem mulD_ii (i j : Int) : mulD (.int i) (.int j) = need (big i && big j) (ret (.int (i * j))) := rfl
theorem divD_ii (i j : Int) : divD (.int i) (.int j) = need (decide (0 < j) && big j) (ret (.int (i / j))) := rfl
theorem modD_ii (i j : Int) : modD (.int i) (.int j) = need (decide (0 < j)) (ret (.int (i % j))) := rfl
theorem powD_ii (i j : Int) : powD (.int i) (.int j) = need (decide (0 ≤ j) && decide (j ≤ 1000) && decide (i.natAbs < 2 ^ 64)) (ret (.int (i ^ j.toNat))) := rfl
theorem bandD_ii (i j : Int) : bandD (.int i) (.int j) = ret (.int (Builtin.bitAnd i j)) := rfl
theorem ltD_ii (i j : Int) : ltD (.int i) (.int j) = ret (decide (i < j)) := rfl
theorem leD_ii (i j : Int) : leD (.int i) (.int j) = ret (decide (i ≤ j)) := rfl
theorem isD_bb (i j : Bool) : isD (.bl i) (.bl j) = ret (decide (i = j)) := rfl
theorem eqD_ii (i j : Int) : eqD (.int i) (.int j) = ret (decide (i = j)) := rfl
theorem eqD_ss (i j : Str) : eqD (.str i) (.str j) = ret (decide (i = j)) := rfl
theorem eqD_bb (i j : Bool) : eqD (.bl i) (.bl j) = ret (decide (i = j)) := rfl
theorem items_tup (xs : List D) : itemsD (.tup xs) = ret xs := rfl
theorem items_lst (xs : List D) : itemsD (.lst xs) = ret xs := rfl
theorem items_fro (xs : List D) : itemsD (.fro xs) = ret xs := rfl
theorem items_ref (k : Nat) : itemsD (.ref k) = getC k := rfl
theorem ixD_i (a : D) (j : Int) : ixD a (.int j) = bnd (itemsD a) fun xs => opt (L2.atI xs j) := rfl
theorem setIx_ri (k : Nat) (j : Int) (v : D) : setIx (.ref k) (.int j) v = bnd (getC k) fun xs => match L2.ixN xs.length j with
    | some n => setC k (xs.set n v)
    | none => bad := rfl
theorem appD_r (k : Nat) (v : D) : appD (.ref k) v = bnd (getC k) fun xs => need (small xs.length) (setC k (xs ++ [v])) := rfl
theorem isC_r (k : Nat) : isC (.ref k) = bnd (getC k) fun _ => ret () := rfl
theorem tru_b (b : Bool) : truD (.bl b) = ret b := rfl
theorem tru_i (i : Int) : truD (.int i) = ret (i != 0) := rfl
theorem lenB_1 (a : D) : lenB [a] = bnd (itemsD a) fun xs => ret (.int xs.length) := rfl
theorem maxB_ii (i j : Int) : maxB [.int i, .int j] = ret (.int (if j > i then j else i)) := rfl
theorem minB_ii (i j : Int) : minB [.int i, .int j] = ret (.int (if j < i then j else i)) := rfl
theorem tupB_1 (a : D) : tupB [a] = bnd (itemsD a) fun xs => ret (.tup xs) := rfl
theorem lstB_1 (a : D) : lstB [a] = bnd (itemsD a) fun xs => ret (.lst xs) := rfl
theorem reprB_1 (a : D) : reprB [a] = reprD a := rfl
theorem allB_1 (xs : List D) : allB [.lst xs] = bnd (opt (allD xs)) fun k => ret (.bl k) := rfl
theorem slD_t (m : Bool) (xs : List D) (lo hi : Option Int) : slD m (.tup xs) lo hi = ret (.tup (cutD xs lo hi)) := rfl
theorem slD_l (m : Bool) (xs : List D) (lo hi : Option Int) : slD m (.lst xs) lo hi = mkL m (cutD xs lo hi) := rfl
theorem slD_f (m : Bool) (xs : List D) (lo hi : Option Int) : slD m (.fro xs) lo hi = mkL m (cutD xs lo hi) := rfl
theorem slD_r (m : Bool) (k : Nat) (lo hi : Option Int) : slD m (.ref k) lo hi = bnd (getC k) fun xs => mkL m (cutD xs lo hi) := rfl
theorem atI_m1 {α : Type} (xs : List α) : L2.atI xs (-1) = xs[xs.length - 1]? := by
  unfold L2.atI L2.ixN
  rw [if_neg (by omega)]
  by_cases h : 0 < xs.length
  · rw [if_pos (by omega)]
    show xs[_]? = _
    congr 1
    omega
  · rw [if_neg (by omega)]
    rw [List.getElem?_eq_none (by omega)]
    rfl
theorem ints2_ii (i j : Int) : ints2 (.int i) (.int j) = ret (i, j) := rfl
theorem popD_ri (k : Nat) (j : Int) : popD (.ref k) (.int j) = bnd (getC k) fun xs => match xs[j.toNat]? with
    | some y => need (decide (0 ≤ j) && decide (j < 1000000)) (bnd (setC k (xs.eraseIdx j.toNat)) fun _ => ret y)
    | none => bad := rfl
theorem asg_n (i : Nat) (d : D) (ρ : Env) : asg (.name i) d ρ = some (ρ.set i (some d)) := rfl
theorem asg_t (is : List Nat) (ds : List D) (ρ : Env) : asg (.tup is) (.tup ds) ρ = AG.setAll is ds ρ := rfl
theorem asg_p (i : Nat) (is : List Nat) (d : D) (ds : List D) (ρ : Env) : asg (.pair i is) (.tup [d, .tup ds]) ρ = AG.setAll is ds (ρ.set i (some d)) := rfl
theorem b_add : binD .Add = addD := rfl
theorem b_sub : binD .Sub = subD := rfl
theorem b_mul : binD .Mult = mulD := rfl
theorem b_div : binD .FloorDiv = divD := rfl
theorem b_mod : binD .Mod = modD := rfl
theorem b_pow : binD .Pow = powD := rfl
theorem b_band : binD .BitAnd = bandD := rfl
theorem c_eq : cmpD .Eq = eqD := rfl
theorem c_ne (a b : D) : cmpD .NotEq a b = notB (eqD a b) := rfl
theorem c_lt : cmpD .Lt = ltD := rfl
theorem c_le : cmpD .LtE = leD := rfl
theorem c_gt (a b : D) : cmpD .Gt a b = ltD b a := rfl
theorem c_ge (a b : D) : cmpD .GtE a b = leD b a := rfl
theorem c_is : cmpD .Is = isD := rfl
theorem c_isn (a b : D) : cmpD .IsNot a b = notB (isD a b) := rfl
theorem ok_notB {m : M Bool} {S : Sto} {P : Bool → Sto → Prop} : Ok (notB m) S P = Ok m S fun k S' => P (!k) S' := by
  unfold notB
  rw [ok_bnd]
  congr 1
  funext k S'
  exact ok_ret'
theorem bi_len : biD .len = lenB := rfl
theorem bi_max : biD .max2 = maxB := rfl
theorem bi_min : biD .min2 = minB := rfl
theorem bi_tup : biD .tup = tupB := rfl
theorem bi_lst : biD .lst = lstB := rfl
theorem bi_repr : biD .repr = reprB := rfl
theorem bi_all : biD .all = allB := rfl
end AG
namespace AGL
open PySem AG
def b_rule_clock : Sms := .cons (.unp [1, 2, 3] (.var 0)) (.cons (.ife (.cmp .Eq (.ix (.var 3) (.int 0)) (.str "own")) (.cons (.ret (.bin .Mult (.var 1) (.bi .len (.cons (.ix (.var 3) (.int 1)) .nil)))) .nil) .nil) (.cons (.ret (.var 1)) .nil))
def b_clock : Sms := .cons (.set 1 (.int 1)) (.cons (.for (.name 2) (.seq (.ix (.var 0) (.int 2))) (.cons (.for (.name 3) (.seq (.var 2)) (.cons (.set 1 (.lcm "lcm" (.cons (.var 1) (.cons (.call "_rule_clock" (.cons (.var 3) .nil)) .nil)))) .nil)) .nil)) (.cons (.ret (.var 1)) .nil))
def b_rule_at : Sms := .cons (.set 3 (.ix (.ix (.var 0) (.int 2)) (.var 1))) (.cons (.for (.pair 4 [5, 6, 7]) (.enm (.sl false (.var 3) .no (.yes (.neg (.int 1))))) (.cons (.ife (.cmp .Eq (.bin .Mod (.bin .Sub (.var 2) (.var 6)) (.var 5)) (.int 0)) (.cons (.ret (.var 4)) .nil) .nil) .nil)) (.cons (.ret (.bin .Sub (.bi .len (.cons (.var 3) .nil)) (.int 1))) .nil))
def b_law_bag : Sms := .cons (.ret (.lst true (.cons (.bi .max2 (.cons (.int 0) (.cons (.bin .Sub (.var 0) (.bin .Pow (.int 10) (.int 18))) .nil))) (.cons (.var 0) (.cons (.int 0) .nil))))) .nil
def b_law_pick : Sms := .cons (.setix (.var 0) (.int 2) (.bin .Add (.ix (.var 0) (.int 2)) (.int 1))) (.cons (.ife (.cmp .Gt (.ix (.var 0) (.int 0)) (.int 0)) (.cons (.set 2 (.bin .Mod (.ix (.var 0) (.int 0)) (.var 1))) (.cons (.setix (.var 0) (.int 0) (.bin .FloorDiv (.ix (.var 0) (.int 0)) (.var 1))) (.cons (.ret (.var 2)) .nil))) .nil) (.cons (.set 3 (.bin .Mod (.bin .Add (.bin .Add (.bin .Mult (.bin .Mod (.ix (.var 0) (.int 1)) (.int 2147483629)) (.int 48271)) (.bin .Mult (.ix (.var 0) (.int 2)) (.int 69621))) (.int 12345)) (.int 2147483647))) (.cons (.set 4 (.bin .Mod (.bin .Add (.bin .Mult (.var 3) (.var 3)) (.bin .Mult (.ix (.var 0) (.int 2)) (.int 40692))) (.int 2147483587))) (.cons (.ret (.bin .Mod (.bin .FloorDiv (.bin .Add (.bin .Mult (.var 3) (.int 2147483587)) (.var 4)) (.int 32)) (.var 1))) .nil))))
def b_law_turn : Sms := .cons (.set 2 (.call "_law_pick" (.cons (.var 0) (.cons (.int 4) .nil)))) (.cons (.ife (.cmp .Lt (.var 2) (.int 2)) (.cons (.set 3 (.bin .Mult (.var 2) (.call "_law_pick" (.cons (.var 0) (.cons (.var 1) .nil))))) (.cons (.ret (.bi .tup (.cons (.lc false (.bin .Mod (.bin .Add (.var 4) (.var 3)) (.var 1)) (.name 4) [4] (.rng (.var 1)) .no) .nil))) .nil)) .nil) (.cons (.ife (.cmp .Eq (.var 2) (.int 2)) (.cons (.set 5 (.lrg true (.var 1))) (.cons (.ret (.bi .tup (.cons (.lc false (.popAt (.var 5) (.call "_law_pick" (.cons (.var 0) (.cons (.bi .len (.cons (.var 5) .nil)) .nil)))) (.name 4) [4] (.rng (.var 1)) .no) .nil))) .nil)) .nil) (.cons (.ret (.bi .tup (.cons (.lc false (.call "_law_pick" (.cons (.var 0) (.cons (.var 1) .nil))) (.name 4) [4] (.rng (.var 1)) .no) .nil))) .nil)))
def b_law_rule : Sms := .cons (.set 4 (.bin .Add (.int 1) (.bin .Mult (.call "_law_pick" (.cons (.var 0) (.cons (.int 12) .nil))) (.bin .Sub (.int 1) (.var 3))))) (.cons (.set 5 (.call "_law_pick" (.cons (.var 0) (.cons (.var 4) .nil)))) (.cons (.ife (.cmp .Eq (.call "_law_pick" (.cons (.var 0) (.cons (.int 4) .nil))) (.int 0)) (.cons (.ret (.tup (.cons (.var 4) (.cons (.var 5) (.cons (.tup (.cons (.str "own") (.cons (.bi .tup (.cons (.lc false (.call "_law_pick" (.cons (.var 0) (.cons (.var 1) .nil))) (.name 6) [6] (.rng (.bin .Add (.int 1) (.call "_law_pick" (.cons (.var 0) (.cons (.int 6) .nil))))) .no) .nil)) .nil))) .nil))))) .nil) .nil) (.cons (.set 7 (.bin .Add (.int 1) (.call "_law_pick" (.cons (.var 0) (.cons (.ix (.lst false (.cons (.int 3) (.cons (.int 12) .nil))) (.call "_law_pick" (.cons (.var 0) (.cons (.int 2) .nil)))) .nil))))) (.cons (.ret (.tup (.cons (.var 4) (.cons (.var 5) (.cons (.tup (.cons (.str "copy") (.cons (.call "_law_pick" (.cons (.var 0) (.cons (.var 2) .nil))) (.cons (.var 7) (.cons (.call "_law_turn" (.cons (.var 0) (.cons (.var 1) .nil))) .nil))))) .nil))))) .nil))))
def b_law_common : Sms := .cons (.set 2 (.bi .max2 (.cons (.var 0) (.cons (.var 1) .nil)))) (.cons (.while (.or (.cmp .Gt (.bin .Mod (.var 2) (.var 0)) (.int 0)) (.cmp .Gt (.bin .Mod (.var 2) (.var 1)) (.int 0))) (.cons (.set 2 (.bin .Add (.var 2) (.bi .max2 (.cons (.var 0) (.cons (.var 1) .nil))))) .nil)) (.cons (.ret (.var 2)) .nil))
def b_law_clock : Sms := .cons (.set 1 (.int 1)) (.cons (.for (.name 2) (.seq (.var 0)) (.cons (.for (.tup [3, 4, 5]) (.seq (.var 2)) (.cons (.set 6 (.ife (.cmp .Eq (.ix (.var 5) (.int 0)) (.str "own")) (.bin .Mult (.var 3) (.bi .len (.cons (.ix (.var 5) (.int 1)) .nil))) (.var 3))) (.cons (.ife (.cmp .LtE (.var 1) (.int 240)) (.cons (.set 1 (.call "_law_common" (.cons (.var 1) (.cons (.var 6) .nil)))) .nil) .nil) .nil))) .nil)) (.cons (.ret (.var 1)) .nil))
def b_law_tamed : Sms := .cons (.set 1 (.lst true .nil)) (.cons (.for (.tup [2, 3, 4]) (.seq (.var 0)) (.cons (.set 5 (.ix (.lst false (.cons (.int 1) (.cons (.int 1) (.cons (.int 2) (.cons (.int 3) (.cons (.int 4) (.cons (.int 4) (.cons (.int 6) (.cons (.int 6) (.cons (.int 4) (.cons (.int 3) (.cons (.int 2) (.cons (.int 6) (.cons (.int 12) .nil)))))))))))))) (.var 2))) (.cons (.app (.var 1) (.tup (.cons (.var 5) (.cons (.bin .Mod (.var 3) (.var 5)) (.cons (.ife (.cmp .Eq (.ix (.var 4) (.int 0)) (.str "own")) (.bin .Add (.sl false (.var 4) .no (.yes (.int 1))) (.tup (.cons (.sl false (.ix (.var 4) (.int 1)) .no (.yes (.int 3))) .nil))) (.var 4)) .nil))))) .nil))) (.cons (.ret (.bi .tup (.cons (.var 1) .nil))) .nil))
def b_law_web : Sms := .cons (.set 1 (.ix (.lst false (.cons (.bin .Add (.int 1) (.call "_law_pick" (.cons (.var 0) (.cons (.int 9) .nil)))) (.cons (.bin .Add (.int 2) (.call "_law_pick" (.cons (.var 0) (.cons (.int 3) .nil)))) .nil))) (.call "_law_pick" (.cons (.var 0) (.cons (.int 2) .nil))))) (.cons (.set 2 (.bin .Add (.int 1) (.call "_law_pick" (.cons (.var 0) (.cons (.int 6) .nil))))) (.cons (.set 3 (.lst true .nil)) (.cons (.for (.name 4) (.rng (.var 2)) (.cons (.set 5 (.lc false (.call "_law_rule" (.cons (.var 0) (.cons (.var 1) (.cons (.var 2) (.cons (.int 0) .nil))))) (.name 6) [6] (.rng (.call "_law_pick" (.cons (.var 0) (.cons (.ix (.lst false (.cons (.int 3) (.cons (.int 6) .nil))) (.call "_law_pick" (.cons (.var 0) (.cons (.int 2) .nil)))) .nil)))) .no)) (.cons (.app (.var 3) (.bi .tup (.cons (.bin .Add (.var 5) (.lst false (.cons (.call "_law_rule" (.cons (.var 0) (.cons (.var 1) (.cons (.var 2) (.cons (.int 1) .nil))))) .nil))) .nil))) .nil))) (.cons (.settle 3 (.ife (.cmp .Gt (.call "_law_clock" (.cons (.var 3) .nil)) (.int 240)) (.cons (.set 3 (.lc false (.call "_law_tamed" (.cons (.var 7) .nil)) (.name 7) [7] (.seq (.var 3)) .no)) .nil) .nil)) (.cons (.ret (.tup (.cons (.var 1) (.cons (.bi .tup (.cons (.lc false (.call "_law_pick" (.cons (.var 0) (.cons (.var 1) .nil))) (.name 4) [4] (.rng (.var 2)) .no) .nil)) (.cons (.bi .tup (.cons (.var 3) .nil)) .nil))))) .nil)))))
def b_law_far : Sms := .cons (.set 1 (.bin .Pow (.int 10) (.int 18))) (.cons (.set 2 (.tenp (.bin .Add (.int 4) (.call "_law_pick" (.cons (.var 0) (.cons (.int 14) .nil)))))) (.cons (.set 3 (.lst false (.cons (.call "_law_pick" (.cons (.var 0) (.cons (.int 30) .nil))) (.cons (.call "_law_pick" (.cons (.var 0) (.cons (.int 3000) .nil))) (.cons (.call "_law_pick" (.cons (.var 0) (.cons (.var 2) .nil))) (.cons (.call "_law_pick" (.cons (.var 0) (.cons (.bin .Add (.var 1) (.int 1)) .nil))) .nil)))))) (.cons (.ret (.ix (.bin .Add (.var 3) (.lst false (.cons (.bin .Sub (.var 1) (.call "_law_pick" (.cons (.var 0) (.cons (.int 300) .nil)))) .nil))) (.call "_law_pick" (.cons (.var 0) (.cons (.int 5) .nil))))) .nil)))
end AGL
namespace AGL
open PySem AG
/-! ### the bag of draws -/
structure Bag (S : Sto) (k n : Nat) : Prop where
  ex : ∃ a b c : Int, S[k]? = some (some [.int a, .int b, .int c]) ∧ 0 ≤ c ∧ c ≤ n
theorem Bag.lt {S : Sto} {k n : Nat} (h : Bag S k n) : k < S.length := let ⟨_, _, _, e, _⟩ := h.ex; (List.getElem?_eq_some_iff.mp e).1
theorem Bag.up {S : Sto} {k n m : Nat} (h : Bag S k n) (hm : n ≤ m) : Bag S k m := let ⟨a, b, c, e, h0, h1⟩ := h.ex; ⟨a, b, c, e, h0, by omega⟩
/-- the cells but k are as they were; there may be more -/
structure Fr (k : Nat) (S S' : Sto) : Prop where
  len : S.length ≤ S'.length
  at_ : ∀ j, j < S.length → j ≠ k → S'[j]? = S[j]?
theorem Fr.refl (k : Nat) (S : Sto) : Fr k S S := ⟨Nat.le_refl _, fun _ _ _ => rfl⟩
theorem Fr.trans {k : Nat} {S1 S2 S3 : Sto} (a : Fr k S1 S2) (b : Fr k S2 S3) : Fr k S1 S3 := ⟨Nat.le_trans a.len b.len, fun j h n => (b.at_ j (Nat.lt_of_lt_of_le h a.len) n).trans (a.at_ j h n)⟩
theorem Fr.set (k : Nat) (S : Sto) (x : Option (List D)) : Fr k S (S.set k x) := ⟨by simp, fun j _ h => by rw [List.getElem?_set_ne (Ne.symm h)]⟩
theorem Fr.app (k : Nat) (S : Sto) (x : Option (List D)) : Fr k S (S ++ [x]) := ⟨by simp, fun j h _ => by rw [List.getElem?_append_left h]⟩
theorem set_at {S : Sto} {k : Nat} {o : Option (List D)} (h : S[k]? = some o) (x : Option (List D)) : (S.set k x)[k]? = some x := List.getElem?_set_self (List.getElem?_eq_some_iff.mp h).1
theorem Bag.app {S : Sto} {k n : Nat} (h : Bag S k n) (x : Option (List D)) : Bag (S ++ [x]) k n := by
  obtain ⟨a, b, c, e, h0⟩ := h.ex
  exact ⟨a, b, c, by rw [List.getElem?_append_left h.lt]; exact e, h0⟩
section
variable {Φ : String → List D → M D} {fu : Nat}
theorem pick_run {S : Sto} {k n : Nat} {many : Int} (h : Bag S k n) (hn : n ≤ 1000000000) (h1 : 1 ≤ many) (h2 : many < 2 ^ 100) :
    Ok (runF Φ fu 5 b_law_pick [.ref k, .int many]) S fun d S' => ∃ t : Nat, d = .int t ∧ (t : Int) < many ∧ Bag S' k (n + 1) ∧ S'.length = S.length ∧ Fr k S S' := by
  obtain ⟨a, b, c, hS, c0, cn⟩ := h.ex
  have hk : k < S.length := (List.getElem?_eq_some_iff.mp hS).1
  simp only [b_law_pick, hS, hk, runF, exs, ex, ev, evs, evt, evo, evi, evc, ok_bnd, ok_ret', ok_getV, ok_getC, ok_setC, ok_opt, ok_need, ok_ite, ok_mkLf, ok_mkLt, ok_notB, List.map_cons, List.map_nil, List.replicate_zero, List.replicate_succ, List.length_cons, List.length_nil, List.cons_append, List.nil_append, Nat.reduceSub, Nat.reduceAdd, List.getElem?_cons_zero, List.getElem?_cons_succ, Option.some.injEq, exists_eq_left', ixD_i, setIx_ri, appD_r, isC_r, items_tup, items_lst, items_fro, items_ref, tru_b, tru_i, b_add, b_sub, b_mul, b_div, b_mod, b_pow, b_band, addD_ii, subD_ii, mulD_ii, modD_ii, divD_ii, powD_ii, bandD_ii, addD_tt, addD_ll, c_eq, c_ne, c_lt, c_le, c_gt, c_ge, c_is, c_isn, isD_bb, eqD_ii, eqD_ss, eqD_bb, ltD_ii, leD_ii, bi_len, bi_max, bi_min, bi_tup, bi_lst, bi_repr, bi_all, maxB_ii, minB_ii, lenB_1, tupB_1, lstB_1, reprB_1, allB_1, slD_t, slD_l, slD_f, slD_r, ints2_ii, popD_ri, AG.wipeD, asg_n, asg_t, asg_p, AG.setAll, atI_0, atI_1, atI_2, atI_3, ixN_30, ixN_31, ixN_32, List.set_cons_zero, List.set_cons_succ, List.getElem?_set_self, List.length_set, Bool.and_eq_true, decide_eq_true_eq, decide_eq_false_iff_not, bne_iff_ne, bne_eq_false_iff_eq, Int.toNat_natCast]
  have tn : ∀ x : Int, ∃ t : Nat, D.int (x % many) = .int t ∧ (t : Int) < many := fun x =>
    ⟨(x % many).toNat, by rw [Int.toNat_of_nonneg (Int.emod_nonneg _ (by omega))], by rw [Int.toNat_of_nonneg (Int.emod_nonneg _ (by omega))]; exact Int.emod_lt_of_pos _ (by omega)⟩
  refine ⟨fun ha => ⟨by omega, ⟨by omega, big_of (by omega) (by omega)⟩, ?_⟩, fun _ => ?_⟩
  · obtain ⟨t, e1, e2⟩ := tn a
    exact ⟨t, e1, e2, ⟨_, _, _, set_at (set_at hS _) _, by omega, by omega⟩, by simp, (Fr.set _ _ _).trans (Fr.set _ _ _)⟩
  · have q1 : big (b % 2147483629) = true := big_of (by omega) (by omega)
    have q2 : big (c + 1) = true := big_of (by omega) (by omega)
    have q3 : big ((b % 2147483629 * 48271 + (c + 1) * 69621 + 12345) % 2147483647) = true := big_of (by omega) (by omega)
    refine ⟨by decide, ⟨q1, by decide⟩, ⟨q2, by decide⟩, by decide, ⟨q3, q3⟩, ⟨q2, by decide⟩, by decide, ⟨q3, by decide⟩, ⟨by decide, by decide⟩, by omega, ?_⟩
    obtain ⟨t, e1, e2⟩ := tn (((b % 2147483629 * 48271 + (c + 1) * 69621 + 12345) % 2147483647 * 2147483587 + ((b % 2147483629 * 48271 + (c + 1) * 69621 + 12345) % 2147483647 * ((b % 2147483629 * 48271 + (c + 1) * 69621 + 12345) % 2147483647) + (c + 1) * 40692) % 2147483587) / 32)
    exact ⟨t, e1, e2, ⟨_, _, _, set_at hS _, by omega, by omega⟩, by simp, Fr.set _ _ _⟩
theorem bag_run {S : Sto} {cell : Int} : Ok (runF Φ fu 1 b_law_bag [.int cell]) S fun d S' => d = .ref S.length ∧ Bag S' S.length 0 ∧ S'.length = S.length + 1 ∧ Fr S.length S S' := by
  simp only [b_law_bag, runF, exs, ex, ev, evs, evt, evo, evi, evc, ok_bnd, ok_ret', ok_getV, ok_getC, ok_setC, ok_opt, ok_need, ok_ite, ok_mkLf, ok_mkLt, ok_notB, List.map_cons, List.map_nil, List.replicate_zero, List.replicate_succ, List.length_cons, List.length_nil, List.cons_append, List.nil_append, Nat.reduceSub, Nat.reduceAdd, List.getElem?_cons_zero, List.getElem?_cons_succ, Option.some.injEq, exists_eq_left', ixD_i, setIx_ri, appD_r, isC_r, items_tup, items_lst, items_fro, items_ref, tru_b, tru_i, b_add, b_sub, b_mul, b_div, b_mod, b_pow, b_band, addD_ii, subD_ii, mulD_ii, modD_ii, divD_ii, powD_ii, bandD_ii, addD_tt, addD_ll, c_eq, c_ne, c_lt, c_le, c_gt, c_ge, c_is, c_isn, isD_bb, eqD_ii, eqD_ss, eqD_bb, ltD_ii, leD_ii, bi_len, bi_max, bi_min, bi_tup, bi_lst, bi_repr, bi_all, maxB_ii, minB_ii, lenB_1, tupB_1, lstB_1, reprB_1, allB_1, slD_t, slD_l, slD_f, slD_r, ints2_ii, popD_ri, AG.wipeD, asg_n, asg_t, asg_p, AG.setAll, atI_0, atI_1, atI_2, atI_3, ixN_30, ixN_31, ixN_32, List.set_cons_zero, List.set_cons_succ, List.getElem?_set_self, List.length_set, Bool.and_eq_true, decide_eq_true_eq, decide_eq_false_iff_not, bne_iff_ne, bne_eq_false_iff_eq, Int.toNat_natCast]
  refine ⟨⟨⟨by decide, by decide⟩, by decide⟩, by decide, trivial, ⟨_, _, _, by rw [List.getElem?_append_right (Nat.le_refl _), Nat.sub_self]; rfl, by omega, by omega⟩, by simp, Fr.app _ _ _⟩
/-- the word of _law_pick -/
def PickW (F : List D → M D) : Prop := ∀ (S : Sto) (k n : Nat) (many : Int), Bag S k n → n ≤ 1000000000 → 1 ≤ many → many < 2 ^ 100 →
  Ok (F [.ref k, .int many]) S fun d S' => ∃ t : Nat, d = .int t ∧ (t : Int) < many ∧ Bag S' k (n + 1) ∧ S'.length = S.length ∧ Fr k S S'
end
/-! ### turns -/
/-- a turn's datum -/
def tN (ts : List Nat) : D := .tup (ts.map fun t => .int (t : Nat))
/-- a turn of m -/
structure Tn (m : Nat) (ts : List Nat) : Prop where
  len : ts.length = m
  lt : ∀ t ∈ ts, t < m
section
variable {Φ : String → List D → M D} {fu : Nat}
theorem rngL_0 (m : Nat) : rngL 0 m = (List.range m).map fun t => D.int (t : Nat) := by
  unfold rngL
  congr 1
  funext k
  rw [Int.zero_add]
theorem erase_map {α β : Type} (f : α → β) : ∀ (l : List α) (i : Nat), (l.map f).eraseIdx i = (l.eraseIdx i).map f
  | [], i => by simp
  | x :: xs, 0 => by simp
  | x :: xs, i + 1 => by simp [erase_map f xs i]
theorem tN_mk {us : List Nat} {ds : List D} (h : ds = us.map fun t => D.int (t : Nat)) : D.tup ds = tN us := by rw [h]; rfl
theorem rng_mem {m : Nat} {x : D} (h : x ∈ rngL 0 m) : ∃ j : Nat, x = .int j ∧ j < m := by
  rw [rngL_0] at h
  obtain ⟨j, hj, rfl⟩ := List.mem_map.mp h
  exact ⟨j, rfl, List.mem_range.mp hj⟩
theorem okR_nat {m : Nat} (h : m ≤ 1000) : okR (m : Int) = true := by
  unfold okR
  rw [Bool.and_eq_true]
  exact ⟨decide_eq_true (by omega), decide_eq_true (by omega)⟩
theorem rng_len {m : Nat} : (rngL 0 m).length = m := by rw [rngL_0]; simp
theorem big_nat {m : Nat} (h : m ≤ 1000000000) : big (m : Int) = true := big_of (by omega) (by omega)
theorem turn_run (hp : PickW (Φ "_law_pick")) {S : Sto} {k n m : Nat} (h : Bag S k n) (hn : n ≤ 1000000) (h1 : 1 ≤ m) (h2 : m ≤ 9) :
    Ok (runF Φ fu 6 b_law_turn [.ref k, .int m]) S fun d S' => ∃ ts, d = tN ts ∧ Tn m ts ∧ Bag S' k (n + 11) ∧ Fr k S S' := by
  simp only [b_law_turn, runF, exs, ex, ev, evs, evt, evo, evi, evc, ok_bnd, ok_ret', ok_getV, ok_getC, ok_setC, ok_opt, ok_need, ok_ite, ok_mkLf, ok_mkLt, ok_notB, List.map_cons, List.map_nil, List.replicate_zero, List.replicate_succ, List.length_cons, List.length_nil, List.cons_append, List.nil_append, Nat.reduceSub, Nat.reduceAdd, List.getElem?_cons_zero, List.getElem?_cons_succ, Option.some.injEq, exists_eq_left', ixD_i, setIx_ri, appD_r, isC_r, items_tup, items_lst, items_fro, items_ref, tru_b, tru_i, b_add, b_sub, b_mul, b_div, b_mod, b_pow, b_band, addD_ii, subD_ii, mulD_ii, modD_ii, divD_ii, powD_ii, bandD_ii, addD_tt, addD_ll, c_eq, c_ne, c_lt, c_le, c_gt, c_ge, c_is, c_isn, isD_bb, eqD_ii, eqD_ss, eqD_bb, ltD_ii, leD_ii, bi_len, bi_max, bi_min, bi_tup, bi_lst, bi_repr, bi_all, maxB_ii, minB_ii, lenB_1, tupB_1, lstB_1, reprB_1, allB_1, slD_t, slD_l, slD_f, slD_r, ints2_ii, popD_ri, AG.wipeD, asg_n, asg_t, asg_p, AG.setAll, atI_0, atI_1, atI_2, atI_3, ixN_30, ixN_31, ixN_32, List.set_cons_zero, List.set_cons_succ, List.getElem?_set_self, List.length_set, Bool.and_eq_true, decide_eq_true_eq, decide_eq_false_iff_not, bne_iff_ne, bne_eq_false_iff_eq, Int.toNat_natCast]
  refine (hp S k n 4 h (by omega) (by decide) (by decide)).mono fun d S1 ⟨t, hd, ht, hb, hl, hf⟩ => ?_
  subst hd
  simp only [runF, exs, ex, ev, evs, evt, evo, evi, evc, ok_bnd, ok_ret', ok_getV, ok_getC, ok_setC, ok_opt, ok_need, ok_ite, ok_mkLf, ok_mkLt, ok_notB, List.map_cons, List.map_nil, List.replicate_zero, List.replicate_succ, List.length_cons, List.length_nil, List.cons_append, List.nil_append, Nat.reduceSub, Nat.reduceAdd, List.getElem?_cons_zero, List.getElem?_cons_succ, Option.some.injEq, exists_eq_left', ixD_i, setIx_ri, appD_r, isC_r, items_tup, items_lst, items_fro, items_ref, tru_b, tru_i, b_add, b_sub, b_mul, b_div, b_mod, b_pow, b_band, addD_ii, subD_ii, mulD_ii, modD_ii, divD_ii, powD_ii, bandD_ii, addD_tt, addD_ll, c_eq, c_ne, c_lt, c_le, c_gt, c_ge, c_is, c_isn, isD_bb, eqD_ii, eqD_ss, eqD_bb, ltD_ii, leD_ii, bi_len, bi_max, bi_min, bi_tup, bi_lst, bi_repr, bi_all, maxB_ii, minB_ii, lenB_1, tupB_1, lstB_1, reprB_1, allB_1, slD_t, slD_l, slD_f, slD_r, ints2_ii, popD_ri, AG.wipeD, asg_n, asg_t, asg_p, AG.setAll, atI_0, atI_1, atI_2, atI_3, ixN_30, ixN_31, ixN_32, List.set_cons_zero, List.set_cons_succ, List.getElem?_set_self, List.length_set, Bool.and_eq_true, decide_eq_true_eq, decide_eq_false_iff_not, bne_iff_ne, bne_eq_false_iff_eq, Int.toNat_natCast]
  refine ⟨fun c1 => ?_, fun c1 => ⟨fun c2 => ?_, fun c2 => ?_⟩⟩
  · refine (hp S1 k (n + 1) m hb (by omega) (by omega) (by omega)).mono fun d S2 ⟨u, hd, hu, hb2, hl2, hf2⟩ => ?_
    subst hd
    simp only [runF, exs, ex, ev, evs, evt, evo, evi, evc, ok_bnd, ok_ret', ok_getV, ok_getC, ok_setC, ok_opt, ok_need, ok_ite, ok_mkLf, ok_mkLt, ok_notB, List.map_cons, List.map_nil, List.replicate_zero, List.replicate_succ, List.length_cons, List.length_nil, List.cons_append, List.nil_append, Nat.reduceSub, Nat.reduceAdd, List.getElem?_cons_zero, List.getElem?_cons_succ, Option.some.injEq, exists_eq_left', ixD_i, setIx_ri, appD_r, isC_r, items_tup, items_lst, items_fro, items_ref, tru_b, tru_i, b_add, b_sub, b_mul, b_div, b_mod, b_pow, b_band, addD_ii, subD_ii, mulD_ii, modD_ii, divD_ii, powD_ii, bandD_ii, addD_tt, addD_ll, c_eq, c_ne, c_lt, c_le, c_gt, c_ge, c_is, c_isn, isD_bb, eqD_ii, eqD_ss, eqD_bb, ltD_ii, leD_ii, bi_len, bi_max, bi_min, bi_tup, bi_lst, bi_repr, bi_all, maxB_ii, minB_ii, lenB_1, tupB_1, lstB_1, reprB_1, allB_1, slD_t, slD_l, slD_f, slD_r, ints2_ii, popD_ri, AG.wipeD, asg_n, asg_t, asg_p, AG.setAll, atI_0, atI_1, atI_2, atI_3, ixN_30, ixN_31, ixN_32, List.set_cons_zero, List.set_cons_succ, List.getElem?_set_self, List.length_set, Bool.and_eq_true, decide_eq_true_eq, decide_eq_false_iff_not, bne_iff_ne, bne_eq_false_iff_eq, Int.toNat_natCast]
    refine ⟨⟨big_nat (by omega), big_nat (by omega)⟩, okR_nat (by omega), ?_⟩
    refine ok_lcmap (fun x => match x with
      | .int j => .int ((j + t * u) % m)
      | x => x) (by rw [rng_len]; omega) (fun x hx => ?_) ?_
    · obtain ⟨j, rfl, hj⟩ := rng_mem hx
      refine ⟨_, rfl, ?_⟩
      simp only [runF, exs, ex, ev, evs, evt, evo, evi, evc, ok_bnd, ok_ret', ok_getV, ok_getC, ok_setC, ok_opt, ok_need, ok_ite, ok_mkLf, ok_mkLt, ok_notB, List.map_cons, List.map_nil, List.replicate_zero, List.replicate_succ, List.length_cons, List.length_nil, List.cons_append, List.nil_append, Nat.reduceSub, Nat.reduceAdd, List.getElem?_cons_zero, List.getElem?_cons_succ, Option.some.injEq, exists_eq_left', ixD_i, setIx_ri, appD_r, isC_r, items_tup, items_lst, items_fro, items_ref, tru_b, tru_i, b_add, b_sub, b_mul, b_div, b_mod, b_pow, b_band, addD_ii, subD_ii, mulD_ii, modD_ii, divD_ii, powD_ii, bandD_ii, addD_tt, addD_ll, c_eq, c_ne, c_lt, c_le, c_gt, c_ge, c_is, c_isn, isD_bb, eqD_ii, eqD_ss, eqD_bb, ltD_ii, leD_ii, bi_len, bi_max, bi_min, bi_tup, bi_lst, bi_repr, bi_all, maxB_ii, minB_ii, lenB_1, tupB_1, lstB_1, reprB_1, allB_1, slD_t, slD_l, slD_f, slD_r, ints2_ii, popD_ri, AG.wipeD, asg_n, asg_t, asg_p, AG.setAll, atI_0, atI_1, atI_2, atI_3, ixN_30, ixN_31, ixN_32, List.set_cons_zero, List.set_cons_succ, List.getElem?_set_self, List.length_set, Bool.and_eq_true, decide_eq_true_eq, decide_eq_false_iff_not, bne_iff_ne, bne_eq_false_iff_eq, Int.toNat_natCast]
      exact ⟨by omega, trivial, trivial⟩
    · refine ⟨(List.range m).map fun j => (j + t * u) % m, ?_, ⟨by simp, ?_⟩, hb2.up (by omega), hf.trans hf2⟩
      · apply tN_mk
        rw [rngL_0, List.map_map, List.map_map]
        congr 1
      · intro x hx
        obtain ⟨j, _, rfl⟩ := List.mem_map.mp hx
        exact Nat.mod_lt _ (by omega)
  · refine ⟨⟨by omega, by omega⟩, okR_nat (by omega), ?_⟩
    have hkl : k < S1.length := hb.lt
    refine ok_lc (fun j acc S' => ∃ us ls : List Nat, acc = (us.map fun t => D.int (t : Nat)) ∧ (∀ t ∈ us, t < m) ∧ S'[S1.length]? = some (some (ls.map fun t => D.int (t : Nat))) ∧ ls.length + j = m ∧ (∀ t ∈ ls, t < m) ∧ Bag S' k (n + 1 + j) ∧ Fr k S1 S')
      ⟨[], List.range m, rfl, (fun _ h => nomatch h), by rw [List.getElem?_append_right (Nat.le_refl _), Nat.sub_self, rngL_0]; rfl, by simp, fun t ht => List.mem_range.mp ht, hb.app _, Fr.app _ _ _⟩ (by rw [rng_len]; omega) ?_ ?_
    · rintro j x acc S' hx hacc ⟨us, ls, e1, e2, e3, e4, e5, e6, e7⟩
      have hj : j < m := by
        have := (List.getElem?_eq_some_iff.mp hx).1
        rw [rng_len] at this
        exact this
      refine ⟨_, rfl, ?_⟩
      simp only [e3, List.length_map, runF, exs, ex, ev, evs, evt, evo, evi, evc, ok_bnd, ok_ret', ok_getV, ok_getC, ok_setC, ok_opt, ok_need, ok_ite, ok_mkLf, ok_mkLt, ok_notB, List.map_cons, List.map_nil, List.replicate_zero, List.replicate_succ, List.length_cons, List.length_nil, List.cons_append, List.nil_append, Nat.reduceSub, Nat.reduceAdd, List.getElem?_cons_zero, List.getElem?_cons_succ, Option.some.injEq, exists_eq_left', ixD_i, setIx_ri, appD_r, isC_r, items_tup, items_lst, items_fro, items_ref, tru_b, tru_i, b_add, b_sub, b_mul, b_div, b_mod, b_pow, b_band, addD_ii, subD_ii, mulD_ii, modD_ii, divD_ii, powD_ii, bandD_ii, addD_tt, addD_ll, c_eq, c_ne, c_lt, c_le, c_gt, c_ge, c_is, c_isn, isD_bb, eqD_ii, eqD_ss, eqD_bb, ltD_ii, leD_ii, bi_len, bi_max, bi_min, bi_tup, bi_lst, bi_repr, bi_all, maxB_ii, minB_ii, lenB_1, tupB_1, lstB_1, reprB_1, allB_1, slD_t, slD_l, slD_f, slD_r, ints2_ii, popD_ri, AG.wipeD, asg_n, asg_t, asg_p, AG.setAll, atI_0, atI_1, atI_2, atI_3, ixN_30, ixN_31, ixN_32, List.set_cons_zero, List.set_cons_succ, List.getElem?_set_self, List.length_set, Bool.and_eq_true, decide_eq_true_eq, decide_eq_false_iff_not, bne_iff_ne, bne_eq_false_iff_eq, Int.toNat_natCast]
      refine (hp S' k (n + 1 + j) ls.length e6 (by omega) (by omega) (by omega)).mono fun d S2 ⟨u, hd, hu, hb2, hl2, hf2⟩ => ?_
      subst hd
      have hq : S2[S1.length]? = some (some (ls.map fun t => D.int (t : Nat))) := by
        rw [hf2.at_ _ (List.getElem?_eq_some_iff.mp e3).1 (by omega)]
        exact e3
      have hul : u < ls.length := by omega
      simp only [hq, runF, exs, ex, ev, evs, evt, evo, evi, evc, ok_bnd, ok_ret', ok_getV, ok_getC, ok_setC, ok_opt, ok_need, ok_ite, ok_mkLf, ok_mkLt, ok_notB, List.map_cons, List.map_nil, List.replicate_zero, List.replicate_succ, List.length_cons, List.length_nil, List.cons_append, List.nil_append, Nat.reduceSub, Nat.reduceAdd, List.getElem?_cons_zero, List.getElem?_cons_succ, Option.some.injEq, exists_eq_left', ixD_i, setIx_ri, appD_r, isC_r, items_tup, items_lst, items_fro, items_ref, tru_b, tru_i, b_add, b_sub, b_mul, b_div, b_mod, b_pow, b_band, addD_ii, subD_ii, mulD_ii, modD_ii, divD_ii, powD_ii, bandD_ii, addD_tt, addD_ll, c_eq, c_ne, c_lt, c_le, c_gt, c_ge, c_is, c_isn, isD_bb, eqD_ii, eqD_ss, eqD_bb, ltD_ii, leD_ii, bi_len, bi_max, bi_min, bi_tup, bi_lst, bi_repr, bi_all, maxB_ii, minB_ii, lenB_1, tupB_1, lstB_1, reprB_1, allB_1, slD_t, slD_l, slD_f, slD_r, ints2_ii, popD_ri, AG.wipeD, asg_n, asg_t, asg_p, AG.setAll, atI_0, atI_1, atI_2, atI_3, ixN_30, ixN_31, ixN_32, List.set_cons_zero, List.set_cons_succ, List.getElem?_set_self, List.length_set, Bool.and_eq_true, decide_eq_true_eq, decide_eq_false_iff_not, bne_iff_ne, bne_eq_false_iff_eq, Int.toNat_natCast]
      rw [List.getElem?_map, List.getElem?_eq_getElem hul]
      simp only [Option.map_some, runF, exs, ex, ev, evs, evt, evo, evi, evc, ok_bnd, ok_ret', ok_getV, ok_getC, ok_setC, ok_opt, ok_need, ok_ite, ok_mkLf, ok_mkLt, ok_notB, List.map_cons, List.map_nil, List.replicate_zero, List.replicate_succ, List.length_cons, List.length_nil, List.cons_append, List.nil_append, Nat.reduceSub, Nat.reduceAdd, List.getElem?_cons_zero, List.getElem?_cons_succ, Option.some.injEq, exists_eq_left', ixD_i, setIx_ri, appD_r, isC_r, items_tup, items_lst, items_fro, items_ref, tru_b, tru_i, b_add, b_sub, b_mul, b_div, b_mod, b_pow, b_band, addD_ii, subD_ii, mulD_ii, modD_ii, divD_ii, powD_ii, bandD_ii, addD_tt, addD_ll, c_eq, c_ne, c_lt, c_le, c_gt, c_ge, c_is, c_isn, isD_bb, eqD_ii, eqD_ss, eqD_bb, ltD_ii, leD_ii, bi_len, bi_max, bi_min, bi_tup, bi_lst, bi_repr, bi_all, maxB_ii, minB_ii, lenB_1, tupB_1, lstB_1, reprB_1, allB_1, slD_t, slD_l, slD_f, slD_r, ints2_ii, popD_ri, AG.wipeD, asg_n, asg_t, asg_p, AG.setAll, atI_0, atI_1, atI_2, atI_3, ixN_30, ixN_31, ixN_32, List.set_cons_zero, List.set_cons_succ, List.getElem?_set_self, List.length_set, Bool.and_eq_true, decide_eq_true_eq, decide_eq_false_iff_not, bne_iff_ne, bne_eq_false_iff_eq, Int.toNat_natCast, hq]
      refine ⟨⟨by omega, by omega⟩, us ++ [ls[u]], ls.eraseIdx u, by rw [e1, List.map_append]; rfl, ?_, ?_, ?_, ?_, ?_, ?_⟩
      · intro t ht
        rcases List.mem_append.mp ht with ht | ht
        · exact e2 t ht
        · rw [List.mem_singleton.mp ht]
          exact e5 _ (List.getElem_mem hul)
      · rw [set_at hq]
        congr 2
        exact erase_map _ _ _
      · rw [List.length_eraseIdx_of_lt hul]
        omega
      · intro t ht
        exact e5 t (List.mem_of_mem_eraseIdx ht)
      · obtain ⟨a, b, c, e, h0⟩ := hb2.ex
        exact ⟨a, b, c, by rw [List.getElem?_set_ne (by omega)]; exact e, by omega⟩
      · have f := e7.trans hf2
        refine ⟨by rw [List.length_set]; exact f.len, fun i hi hne => ?_⟩
        rw [List.getElem?_set_ne (by omega)]
        exact f.at_ i hi hne
    · rintro acc S' hacc ⟨us, ls, e1, e2, e3, e4, e5, e6, e7⟩
      rw [rng_len] at *
      exact ⟨us, tN_mk e1, ⟨by rw [e1] at hacc; simpa using hacc, e2⟩, e6.up (by omega), hf.trans e7⟩
  · refine ⟨okR_nat (by omega), ?_⟩
    refine ok_lc (fun j acc S' => ∃ us : List Nat, acc = (us.map fun t => D.int (t : Nat)) ∧ (∀ t ∈ us, t < m) ∧ Bag S' k (n + 1 + j) ∧ Fr k S1 S')
      ⟨[], rfl, (fun _ h => nomatch h), hb, Fr.refl _ _⟩ (by rw [rng_len]; omega) ?_ ?_
    · rintro j x acc S' hx hacc ⟨us, e1, e2, e6, e7⟩
      have hj : j < m := by
        have := (List.getElem?_eq_some_iff.mp hx).1
        rw [rng_len] at this
        exact this
      refine ⟨_, rfl, ?_⟩
      simp only [runF, exs, ex, ev, evs, evt, evo, evi, evc, ok_bnd, ok_ret', ok_getV, ok_getC, ok_setC, ok_opt, ok_need, ok_ite, ok_mkLf, ok_mkLt, ok_notB, List.map_cons, List.map_nil, List.replicate_zero, List.replicate_succ, List.length_cons, List.length_nil, List.cons_append, List.nil_append, Nat.reduceSub, Nat.reduceAdd, List.getElem?_cons_zero, List.getElem?_cons_succ, Option.some.injEq, exists_eq_left', ixD_i, setIx_ri, appD_r, isC_r, items_tup, items_lst, items_fro, items_ref, tru_b, tru_i, b_add, b_sub, b_mul, b_div, b_mod, b_pow, b_band, addD_ii, subD_ii, mulD_ii, modD_ii, divD_ii, powD_ii, bandD_ii, addD_tt, addD_ll, c_eq, c_ne, c_lt, c_le, c_gt, c_ge, c_is, c_isn, isD_bb, eqD_ii, eqD_ss, eqD_bb, ltD_ii, leD_ii, bi_len, bi_max, bi_min, bi_tup, bi_lst, bi_repr, bi_all, maxB_ii, minB_ii, lenB_1, tupB_1, lstB_1, reprB_1, allB_1, slD_t, slD_l, slD_f, slD_r, ints2_ii, popD_ri, AG.wipeD, asg_n, asg_t, asg_p, AG.setAll, atI_0, atI_1, atI_2, atI_3, ixN_30, ixN_31, ixN_32, List.set_cons_zero, List.set_cons_succ, List.getElem?_set_self, List.length_set, Bool.and_eq_true, decide_eq_true_eq, decide_eq_false_iff_not, bne_iff_ne, bne_eq_false_iff_eq, Int.toNat_natCast]
      refine (hp S' k (n + 1 + j) m e6 (by omega) (by omega) (by omega)).mono fun d S2 ⟨u, hd, hu, hb2, hl2, hf2⟩ => ?_
      subst hd
      refine ⟨us ++ [u], by rw [e1, List.map_append]; rfl, ?_, hb2.up (by omega), e7.trans hf2⟩
      intro t ht
      rcases List.mem_append.mp ht with ht | ht
      · exact e2 t ht
      · rw [List.mem_singleton.mp ht]
        omega
    · rintro acc S' hacc ⟨us, e1, e2, e6, e7⟩
      rw [rng_len] at *
      exact ⟨us, tN_mk e1, ⟨by rw [e1] at hacc; simpa using hacc, e2⟩, e6.up (by omega), hf.trans e7⟩
end
end AGL
namespace AGL
open PySem AG
/-! ### webs -/
inductive Wh where
  | own (row : List Nat) | cop (hand ago : Nat) (turn : List Nat)
structure Ru where
  every : Nat
  at_ : Nat
  wh : Wh
structure We where
  many : Nat
  before : List Nat
  hands : List (List Ru)
def dW : Wh → D
  | .own row => .tup [.str "own", tN row]
  | .cop h a t => .tup [.str "copy", .int (h : Nat), .int (a : Nat), tN t]
def dR (r : Ru) : D := .tup [.int (r.every : Nat), .int (r.at_ : Nat), dW r.wh]
def dH (h : List Ru) : D := .tup (h.map dR)
def dWe (w : We) : D := .tup [.int (w.many : Nat), tN w.before, .tup (w.hands.map dH)]
def WhOk (m c : Nat) : Wh → Prop
  | .own row => 1 ≤ row.length ∧ row.length ≤ 6 ∧ ∀ t ∈ row, t < m
  | .cop h a t => h < c ∧ 1 ≤ a ∧ a ≤ 12 ∧ Tn m t
structure RuOk (m c : Nat) (r : Ru) : Prop where
  e1 : 1 ≤ r.every
  e12 : r.every ≤ 12
  at_ : r.at_ < r.every
  wh : WhOk m c r.wh
def TurnW (F : List D → M D) : Prop := ∀ (S : Sto) (k n m : Nat), Bag S k n → n ≤ 1000000 → 1 ≤ m → m ≤ 9 → Ok (F [.ref k, .int m]) S fun d S' => ∃ ts, d = tN ts ∧ Tn m ts ∧ Bag S' k (n + 11) ∧ Fr k S S'
def BagW (F : List D → M D) : Prop := ∀ (S : Sto) (cell : Int), Ok (F [.int cell]) S fun d S' => d = .ref S.length ∧ Bag S' S.length 0 ∧ S'.length = S.length + 1 ∧ Fr S.length S S'
def RuleW (F : List D → M D) : Prop := ∀ (S : Sto) (k n m c l : Nat), Bag S k n → n ≤ 500000 → 1 ≤ m → m ≤ 9 → 1 ≤ c → c ≤ 6 → l ≤ 1 → Ok (F [.ref k, .int m, .int c, .int l]) S fun d S' => ∃ r, d = dR r ∧ RuOk m c r ∧ (l = 1 → r.every = 1) ∧ Bag S' k (n + 20) ∧ Fr k S S'
section
variable {Φ : String → List D → M D} {fu : Nat}
theorem rule_run (hp : PickW (Φ "_law_pick")) (ht : TurnW (Φ "_law_turn")) : RuleW (runF Φ fu 8 b_law_rule) := by
  intro S k n m c l hb hn h1 h9 c1 c6 hl
  simp only [b_law_rule, runF, exs, ex, ev, evs, evt, evo, evi, evc, ok_bnd, ok_ret', ok_getV, ok_getC, ok_setC, ok_opt, ok_need, ok_ite, ok_mkLf, ok_mkLt, ok_notB, List.map_cons, List.map_nil, List.replicate_zero, List.replicate_succ, List.length_cons, List.length_nil, List.cons_append, List.nil_append, Nat.reduceSub, Nat.reduceAdd, List.getElem?_cons_zero, List.getElem?_cons_succ, Option.some.injEq, exists_eq_left', ixD_i, setIx_ri, appD_r, isC_r, items_tup, items_lst, items_fro, items_ref, tru_b, tru_i, b_add, b_sub, b_mul, b_div, b_mod, b_pow, b_band, addD_ii, subD_ii, mulD_ii, modD_ii, divD_ii, powD_ii, bandD_ii, addD_tt, addD_ll, c_eq, c_ne, c_lt, c_le, c_gt, c_ge, c_is, c_isn, isD_bb, eqD_ii, eqD_ss, eqD_bb, ltD_ii, leD_ii, bi_len, bi_max, bi_min, bi_tup, bi_lst, bi_repr, bi_all, maxB_ii, minB_ii, lenB_1, tupB_1, lstB_1, reprB_1, allB_1, slD_t, slD_l, slD_f, slD_r, ints2_ii, popD_ri, AG.wipeD, asg_n, asg_t, asg_p, AG.setAll, atI_0, atI_1, atI_2, atI_3, ixN_30, ixN_31, ixN_32, List.set_cons_zero, List.set_cons_succ, List.getElem?_set_self, List.length_set, Bool.and_eq_true, decide_eq_true_eq, decide_eq_false_iff_not, bne_iff_ne, bne_eq_false_iff_eq, Int.toNat_natCast]
  refine (hp S k n 12 hb (by omega) (by decide) (by decide)).mono fun d S1 ⟨t, hd, ht12, b1, l1, f1⟩ => ?_
  subst hd
  try simp only [runF, exs, ex, ev, evs, evt, evo, evi, evc, ok_bnd, ok_ret', ok_getV, ok_getC, ok_setC, ok_opt, ok_need, ok_ite, ok_mkLf, ok_mkLt, ok_notB, List.map_cons, List.map_nil, List.replicate_zero, List.replicate_succ, List.length_cons, List.length_nil, List.cons_append, List.nil_append, Nat.reduceSub, Nat.reduceAdd, List.getElem?_cons_zero, List.getElem?_cons_succ, Option.some.injEq, exists_eq_left', ixD_i, setIx_ri, appD_r, isC_r, items_tup, items_lst, items_fro, items_ref, tru_b, tru_i, b_add, b_sub, b_mul, b_div, b_mod, b_pow, b_band, addD_ii, subD_ii, mulD_ii, modD_ii, divD_ii, powD_ii, bandD_ii, addD_tt, addD_ll, c_eq, c_ne, c_lt, c_le, c_gt, c_ge, c_is, c_isn, isD_bb, eqD_ii, eqD_ss, eqD_bb, ltD_ii, leD_ii, bi_len, bi_max, bi_min, bi_tup, bi_lst, bi_repr, bi_all, maxB_ii, minB_ii, lenB_1, tupB_1, lstB_1, reprB_1, allB_1, slD_t, slD_l, slD_f, slD_r, ints2_ii, popD_ri, AG.wipeD, asg_n, asg_t, asg_p, AG.setAll, atI_0, atI_1, atI_2, atI_3, ixN_30, ixN_31, ixN_32, List.set_cons_zero, List.set_cons_succ, List.getElem?_set_self, List.length_set, Bool.and_eq_true, decide_eq_true_eq, decide_eq_false_iff_not, bne_iff_ne, bne_eq_false_iff_eq, Int.toNat_natCast]
  obtain ⟨evn, hev, hev1, hev12, hevl⟩ : ∃ evn : Nat, (1 : Int) + (t : Nat) * (1 - (l : Nat)) = (evn : Nat) ∧ 1 ≤ evn ∧ evn ≤ 12 ∧ (l = 1 → evn = 1) := by
    have : l = 0 ∨ l = 1 := by omega
    rcases this with h | h <;> subst h
    · exact ⟨1 + t, by omega, by omega, by omega, fun h => by omega⟩
    · exact ⟨1, by simp, by omega, by omega, fun _ => rfl⟩
  rw [hev]
  refine ⟨⟨big_nat (by omega), big_of (by omega) (by omega)⟩, ?_⟩
  refine (hp S1 k (n + 1) evn b1 (by omega) (by omega) (by omega)).mono fun d S2 ⟨a, hd, ha, b2, l2, f2⟩ => ?_
  subst hd
  try simp only [runF, exs, ex, ev, evs, evt, evo, evi, evc, ok_bnd, ok_ret', ok_getV, ok_getC, ok_setC, ok_opt, ok_need, ok_ite, ok_mkLf, ok_mkLt, ok_notB, List.map_cons, List.map_nil, List.replicate_zero, List.replicate_succ, List.length_cons, List.length_nil, List.cons_append, List.nil_append, Nat.reduceSub, Nat.reduceAdd, List.getElem?_cons_zero, List.getElem?_cons_succ, Option.some.injEq, exists_eq_left', ixD_i, setIx_ri, appD_r, isC_r, items_tup, items_lst, items_fro, items_ref, tru_b, tru_i, b_add, b_sub, b_mul, b_div, b_mod, b_pow, b_band, addD_ii, subD_ii, mulD_ii, modD_ii, divD_ii, powD_ii, bandD_ii, addD_tt, addD_ll, c_eq, c_ne, c_lt, c_le, c_gt, c_ge, c_is, c_isn, isD_bb, eqD_ii, eqD_ss, eqD_bb, ltD_ii, leD_ii, bi_len, bi_max, bi_min, bi_tup, bi_lst, bi_repr, bi_all, maxB_ii, minB_ii, lenB_1, tupB_1, lstB_1, reprB_1, allB_1, slD_t, slD_l, slD_f, slD_r, ints2_ii, popD_ri, AG.wipeD, asg_n, asg_t, asg_p, AG.setAll, atI_0, atI_1, atI_2, atI_3, ixN_30, ixN_31, ixN_32, List.set_cons_zero, List.set_cons_succ, List.getElem?_set_self, List.length_set, Bool.and_eq_true, decide_eq_true_eq, decide_eq_false_iff_not, bne_iff_ne, bne_eq_false_iff_eq, Int.toNat_natCast]
  refine (hp S2 k (n + 1 + 1) 4 b2 (by omega) (by decide) (by decide)).mono fun d S3 ⟨w, hd, hw, b3, l3, f3⟩ => ?_
  subst hd
  try simp only [runF, exs, ex, ev, evs, evt, evo, evi, evc, ok_bnd, ok_ret', ok_getV, ok_getC, ok_setC, ok_opt, ok_need, ok_ite, ok_mkLf, ok_mkLt, ok_notB, List.map_cons, List.map_nil, List.replicate_zero, List.replicate_succ, List.length_cons, List.length_nil, List.cons_append, List.nil_append, Nat.reduceSub, Nat.reduceAdd, List.getElem?_cons_zero, List.getElem?_cons_succ, Option.some.injEq, exists_eq_left', ixD_i, setIx_ri, appD_r, isC_r, items_tup, items_lst, items_fro, items_ref, tru_b, tru_i, b_add, b_sub, b_mul, b_div, b_mod, b_pow, b_band, addD_ii, subD_ii, mulD_ii, modD_ii, divD_ii, powD_ii, bandD_ii, addD_tt, addD_ll, c_eq, c_ne, c_lt, c_le, c_gt, c_ge, c_is, c_isn, isD_bb, eqD_ii, eqD_ss, eqD_bb, ltD_ii, leD_ii, bi_len, bi_max, bi_min, bi_tup, bi_lst, bi_repr, bi_all, maxB_ii, minB_ii, lenB_1, tupB_1, lstB_1, reprB_1, allB_1, slD_t, slD_l, slD_f, slD_r, ints2_ii, popD_ri, AG.wipeD, asg_n, asg_t, asg_p, AG.setAll, atI_0, atI_1, atI_2, atI_3, ixN_30, ixN_31, ixN_32, List.set_cons_zero, List.set_cons_succ, List.getElem?_set_self, List.length_set, Bool.and_eq_true, decide_eq_true_eq, decide_eq_false_iff_not, bne_iff_ne, bne_eq_false_iff_eq, Int.toNat_natCast]
  have f03 := (f1.trans f2).trans f3
  constructor
  · intro _
    refine (hp S3 k (n + 1 + 1 + 1) 6 b3 (by omega) (by decide) (by decide)).mono fun d S4 ⟨z, hd, hz, b4, l4, f4⟩ => ?_
    subst hd
    try simp only [runF, exs, ex, ev, evs, evt, evo, evi, evc, ok_bnd, ok_ret', ok_getV, ok_getC, ok_setC, ok_opt, ok_need, ok_ite, ok_mkLf, ok_mkLt, ok_notB, List.map_cons, List.map_nil, List.replicate_zero, List.replicate_succ, List.length_cons, List.length_nil, List.cons_append, List.nil_append, Nat.reduceSub, Nat.reduceAdd, List.getElem?_cons_zero, List.getElem?_cons_succ, Option.some.injEq, exists_eq_left', ixD_i, setIx_ri, appD_r, isC_r, items_tup, items_lst, items_fro, items_ref, tru_b, tru_i, b_add, b_sub, b_mul, b_div, b_mod, b_pow, b_band, addD_ii, subD_ii, mulD_ii, modD_ii, divD_ii, powD_ii, bandD_ii, addD_tt, addD_ll, c_eq, c_ne, c_lt, c_le, c_gt, c_ge, c_is, c_isn, isD_bb, eqD_ii, eqD_ss, eqD_bb, ltD_ii, leD_ii, bi_len, bi_max, bi_min, bi_tup, bi_lst, bi_repr, bi_all, maxB_ii, minB_ii, lenB_1, tupB_1, lstB_1, reprB_1, allB_1, slD_t, slD_l, slD_f, slD_r, ints2_ii, popD_ri, AG.wipeD, asg_n, asg_t, asg_p, AG.setAll, atI_0, atI_1, atI_2, atI_3, ixN_30, ixN_31, ixN_32, List.set_cons_zero, List.set_cons_succ, List.getElem?_set_self, List.length_set, Bool.and_eq_true, decide_eq_true_eq, decide_eq_false_iff_not, bne_iff_ne, bne_eq_false_iff_eq, Int.toNat_natCast]
    have ez : (1 : Int) + (z : Nat) = ((1 + z : Nat) : Int) := by omega
    rw [ez]
    refine ⟨okR_nat (by omega), ?_⟩
    refine ok_lc (fun j acc S' => ∃ us : List Nat, acc = (us.map fun t => D.int (t : Nat)) ∧ (∀ t ∈ us, t < m) ∧ Bag S' k (n + 4 + j) ∧ Fr k S4 S')
      ⟨[], rfl, (fun _ h => nomatch h), b4, Fr.refl _ _⟩ (by rw [rng_len]; omega) ?_ ?_
    · rintro j x acc S' hx hacc ⟨us, e1, e2, e6, e7⟩
      have hj : j < 1 + z := by
        have := (List.getElem?_eq_some_iff.mp hx).1
        rw [rng_len] at this
        exact this
      refine ⟨_, rfl, ?_⟩
      try simp only [runF, exs, ex, ev, evs, evt, evo, evi, evc, ok_bnd, ok_ret', ok_getV, ok_getC, ok_setC, ok_opt, ok_need, ok_ite, ok_mkLf, ok_mkLt, ok_notB, List.map_cons, List.map_nil, List.replicate_zero, List.replicate_succ, List.length_cons, List.length_nil, List.cons_append, List.nil_append, Nat.reduceSub, Nat.reduceAdd, List.getElem?_cons_zero, List.getElem?_cons_succ, Option.some.injEq, exists_eq_left', ixD_i, setIx_ri, appD_r, isC_r, items_tup, items_lst, items_fro, items_ref, tru_b, tru_i, b_add, b_sub, b_mul, b_div, b_mod, b_pow, b_band, addD_ii, subD_ii, mulD_ii, modD_ii, divD_ii, powD_ii, bandD_ii, addD_tt, addD_ll, c_eq, c_ne, c_lt, c_le, c_gt, c_ge, c_is, c_isn, isD_bb, eqD_ii, eqD_ss, eqD_bb, ltD_ii, leD_ii, bi_len, bi_max, bi_min, bi_tup, bi_lst, bi_repr, bi_all, maxB_ii, minB_ii, lenB_1, tupB_1, lstB_1, reprB_1, allB_1, slD_t, slD_l, slD_f, slD_r, ints2_ii, popD_ri, AG.wipeD, asg_n, asg_t, asg_p, AG.setAll, atI_0, atI_1, atI_2, atI_3, ixN_30, ixN_31, ixN_32, List.set_cons_zero, List.set_cons_succ, List.getElem?_set_self, List.length_set, Bool.and_eq_true, decide_eq_true_eq, decide_eq_false_iff_not, bne_iff_ne, bne_eq_false_iff_eq, Int.toNat_natCast]
      refine (hp S' k (n + 4 + j) m e6 (by omega) (by omega) (by omega)).mono fun d S2 ⟨u, hd, hu, hb2, hl2, hf2⟩ => ?_
      subst hd
      refine ⟨us ++ [u], by rw [e1, List.map_append]; rfl, ?_, hb2.up (by omega), e7.trans hf2⟩
      intro t ht
      rcases List.mem_append.mp ht with ht | ht
      · exact e2 t ht
      · rw [List.mem_singleton.mp ht]
        omega
    · rintro acc S' hacc ⟨us, e1, e2, e6, e7⟩
      rw [rng_len] at *
      have hul : us.length = 1 + z := by rw [e1, List.length_map] at hacc; omega
      try simp only [runF, exs, ex, ev, evs, evt, evo, evi, evc, ok_bnd, ok_ret', ok_getV, ok_getC, ok_setC, ok_opt, ok_need, ok_ite, ok_mkLf, ok_mkLt, ok_notB, List.map_cons, List.map_nil, List.replicate_zero, List.replicate_succ, List.length_cons, List.length_nil, List.cons_append, List.nil_append, Nat.reduceSub, Nat.reduceAdd, List.getElem?_cons_zero, List.getElem?_cons_succ, Option.some.injEq, exists_eq_left', ixD_i, setIx_ri, appD_r, isC_r, items_tup, items_lst, items_fro, items_ref, tru_b, tru_i, b_add, b_sub, b_mul, b_div, b_mod, b_pow, b_band, addD_ii, subD_ii, mulD_ii, modD_ii, divD_ii, powD_ii, bandD_ii, addD_tt, addD_ll, c_eq, c_ne, c_lt, c_le, c_gt, c_ge, c_is, c_isn, isD_bb, eqD_ii, eqD_ss, eqD_bb, ltD_ii, leD_ii, bi_len, bi_max, bi_min, bi_tup, bi_lst, bi_repr, bi_all, maxB_ii, minB_ii, lenB_1, tupB_1, lstB_1, reprB_1, allB_1, slD_t, slD_l, slD_f, slD_r, ints2_ii, popD_ri, AG.wipeD, asg_n, asg_t, asg_p, AG.setAll, atI_0, atI_1, atI_2, atI_3, ixN_30, ixN_31, ixN_32, List.set_cons_zero, List.set_cons_succ, List.getElem?_set_self, List.length_set, Bool.and_eq_true, decide_eq_true_eq, decide_eq_false_iff_not, bne_iff_ne, bne_eq_false_iff_eq, Int.toNat_natCast]
      refine ⟨by decide, by decide, ⟨evn, a, .own us⟩, by rw [tN_mk e1]; rfl, ⟨hev1, hev12, by show a < evn; omega, by omega, by omega, e2⟩, hevl, e6.up (by omega), (f03.trans f4).trans e7⟩
  · intro _
    refine ⟨by decide, ?_⟩
    refine (hp S3 k (n + 1 + 1 + 1) 2 b3 (by omega) (by decide) (by decide)).mono fun d S4 ⟨z, hd, hz, b4, l4, f4⟩ => ?_
    subst hd
    try simp only [runF, exs, ex, ev, evs, evt, evo, evi, evc, ok_bnd, ok_ret', ok_getV, ok_getC, ok_setC, ok_opt, ok_need, ok_ite, ok_mkLf, ok_mkLt, ok_notB, List.map_cons, List.map_nil, List.replicate_zero, List.replicate_succ, List.length_cons, List.length_nil, List.cons_append, List.nil_append, Nat.reduceSub, Nat.reduceAdd, List.getElem?_cons_zero, List.getElem?_cons_succ, Option.some.injEq, exists_eq_left', ixD_i, setIx_ri, appD_r, isC_r, items_tup, items_lst, items_fro, items_ref, tru_b, tru_i, b_add, b_sub, b_mul, b_div, b_mod, b_pow, b_band, addD_ii, subD_ii, mulD_ii, modD_ii, divD_ii, powD_ii, bandD_ii, addD_tt, addD_ll, c_eq, c_ne, c_lt, c_le, c_gt, c_ge, c_is, c_isn, isD_bb, eqD_ii, eqD_ss, eqD_bb, ltD_ii, leD_ii, bi_len, bi_max, bi_min, bi_tup, bi_lst, bi_repr, bi_all, maxB_ii, minB_ii, lenB_1, tupB_1, lstB_1, reprB_1, allB_1, slD_t, slD_l, slD_f, slD_r, ints2_ii, popD_ri, AG.wipeD, asg_n, asg_t, asg_p, AG.setAll, atI_0, atI_1, atI_2, atI_3, ixN_30, ixN_31, ixN_32, List.set_cons_zero, List.set_cons_succ, List.getElem?_set_self, List.length_set, Bool.and_eq_true, decide_eq_true_eq, decide_eq_false_iff_not, bne_iff_ne, bne_eq_false_iff_eq, Int.toNat_natCast]
    rw [atI_of]
    obtain ⟨q, hq, hq1, hq12⟩ : ∃ q : Nat, ([D.int 3, D.int 12] : List D)[z]? = some (D.int (q : Nat)) ∧ 1 ≤ q ∧ q ≤ 12 := by
      have : z = 0 ∨ z = 1 := by omega
      rcases this with h | h <;> subst h
      · exact ⟨3, rfl, by omega, by omega⟩
      · exact ⟨12, rfl, by omega, by omega⟩
    refine ⟨_, hq, ?_⟩
    try simp only [runF, exs, ex, ev, evs, evt, evo, evi, evc, ok_bnd, ok_ret', ok_getV, ok_getC, ok_setC, ok_opt, ok_need, ok_ite, ok_mkLf, ok_mkLt, ok_notB, List.map_cons, List.map_nil, List.replicate_zero, List.replicate_succ, List.length_cons, List.length_nil, List.cons_append, List.nil_append, Nat.reduceSub, Nat.reduceAdd, List.getElem?_cons_zero, List.getElem?_cons_succ, Option.some.injEq, exists_eq_left', ixD_i, setIx_ri, appD_r, isC_r, items_tup, items_lst, items_fro, items_ref, tru_b, tru_i, b_add, b_sub, b_mul, b_div, b_mod, b_pow, b_band, addD_ii, subD_ii, mulD_ii, modD_ii, divD_ii, powD_ii, bandD_ii, addD_tt, addD_ll, c_eq, c_ne, c_lt, c_le, c_gt, c_ge, c_is, c_isn, isD_bb, eqD_ii, eqD_ss, eqD_bb, ltD_ii, leD_ii, bi_len, bi_max, bi_min, bi_tup, bi_lst, bi_repr, bi_all, maxB_ii, minB_ii, lenB_1, tupB_1, lstB_1, reprB_1, allB_1, slD_t, slD_l, slD_f, slD_r, ints2_ii, popD_ri, AG.wipeD, asg_n, asg_t, asg_p, AG.setAll, atI_0, atI_1, atI_2, atI_3, ixN_30, ixN_31, ixN_32, List.set_cons_zero, List.set_cons_succ, List.getElem?_set_self, List.length_set, Bool.and_eq_true, decide_eq_true_eq, decide_eq_false_iff_not, bne_iff_ne, bne_eq_false_iff_eq, Int.toNat_natCast]
    refine (hp S4 k _ q b4 (by omega) (by omega) (by omega)).mono fun d S5 ⟨g, hd, hg, b5, l5, f5⟩ => ?_
    subst hd
    try simp only [runF, exs, ex, ev, evs, evt, evo, evi, evc, ok_bnd, ok_ret', ok_getV, ok_getC, ok_setC, ok_opt, ok_need, ok_ite, ok_mkLf, ok_mkLt, ok_notB, List.map_cons, List.map_nil, List.replicate_zero, List.replicate_succ, List.length_cons, List.length_nil, List.cons_append, List.nil_append, Nat.reduceSub, Nat.reduceAdd, List.getElem?_cons_zero, List.getElem?_cons_succ, Option.some.injEq, exists_eq_left', ixD_i, setIx_ri, appD_r, isC_r, items_tup, items_lst, items_fro, items_ref, tru_b, tru_i, b_add, b_sub, b_mul, b_div, b_mod, b_pow, b_band, addD_ii, subD_ii, mulD_ii, modD_ii, divD_ii, powD_ii, bandD_ii, addD_tt, addD_ll, c_eq, c_ne, c_lt, c_le, c_gt, c_ge, c_is, c_isn, isD_bb, eqD_ii, eqD_ss, eqD_bb, ltD_ii, leD_ii, bi_len, bi_max, bi_min, bi_tup, bi_lst, bi_repr, bi_all, maxB_ii, minB_ii, lenB_1, tupB_1, lstB_1, reprB_1, allB_1, slD_t, slD_l, slD_f, slD_r, ints2_ii, popD_ri, AG.wipeD, asg_n, asg_t, asg_p, AG.setAll, atI_0, atI_1, atI_2, atI_3, ixN_30, ixN_31, ixN_32, List.set_cons_zero, List.set_cons_succ, List.getElem?_set_self, List.length_set, Bool.and_eq_true, decide_eq_true_eq, decide_eq_false_iff_not, bne_iff_ne, bne_eq_false_iff_eq, Int.toNat_natCast]
    refine (hp S5 k _ c b5 (by omega) (by omega) (by omega)).mono fun d S6 ⟨hh, hd, hhh, b6, l6, f6⟩ => ?_
    subst hd
    try simp only [runF, exs, ex, ev, evs, evt, evo, evi, evc, ok_bnd, ok_ret', ok_getV, ok_getC, ok_setC, ok_opt, ok_need, ok_ite, ok_mkLf, ok_mkLt, ok_notB, List.map_cons, List.map_nil, List.replicate_zero, List.replicate_succ, List.length_cons, List.length_nil, List.cons_append, List.nil_append, Nat.reduceSub, Nat.reduceAdd, List.getElem?_cons_zero, List.getElem?_cons_succ, Option.some.injEq, exists_eq_left', ixD_i, setIx_ri, appD_r, isC_r, items_tup, items_lst, items_fro, items_ref, tru_b, tru_i, b_add, b_sub, b_mul, b_div, b_mod, b_pow, b_band, addD_ii, subD_ii, mulD_ii, modD_ii, divD_ii, powD_ii, bandD_ii, addD_tt, addD_ll, c_eq, c_ne, c_lt, c_le, c_gt, c_ge, c_is, c_isn, isD_bb, eqD_ii, eqD_ss, eqD_bb, ltD_ii, leD_ii, bi_len, bi_max, bi_min, bi_tup, bi_lst, bi_repr, bi_all, maxB_ii, minB_ii, lenB_1, tupB_1, lstB_1, reprB_1, allB_1, slD_t, slD_l, slD_f, slD_r, ints2_ii, popD_ri, AG.wipeD, asg_n, asg_t, asg_p, AG.setAll, atI_0, atI_1, atI_2, atI_3, ixN_30, ixN_31, ixN_32, List.set_cons_zero, List.set_cons_succ, List.getElem?_set_self, List.length_set, Bool.and_eq_true, decide_eq_true_eq, decide_eq_false_iff_not, bne_iff_ne, bne_eq_false_iff_eq, Int.toNat_natCast]
    refine (ht S6 k _ m b6 (by omega) h1 h9).mono fun d S7 ⟨ts, hd, ht1, b7, f7⟩ => ?_
    subst hd
    try simp only [runF, exs, ex, ev, evs, evt, evo, evi, evc, ok_bnd, ok_ret', ok_getV, ok_getC, ok_setC, ok_opt, ok_need, ok_ite, ok_mkLf, ok_mkLt, ok_notB, List.map_cons, List.map_nil, List.replicate_zero, List.replicate_succ, List.length_cons, List.length_nil, List.cons_append, List.nil_append, Nat.reduceSub, Nat.reduceAdd, List.getElem?_cons_zero, List.getElem?_cons_succ, Option.some.injEq, exists_eq_left', ixD_i, setIx_ri, appD_r, isC_r, items_tup, items_lst, items_fro, items_ref, tru_b, tru_i, b_add, b_sub, b_mul, b_div, b_mod, b_pow, b_band, addD_ii, subD_ii, mulD_ii, modD_ii, divD_ii, powD_ii, bandD_ii, addD_tt, addD_ll, c_eq, c_ne, c_lt, c_le, c_gt, c_ge, c_is, c_isn, isD_bb, eqD_ii, eqD_ss, eqD_bb, ltD_ii, leD_ii, bi_len, bi_max, bi_min, bi_tup, bi_lst, bi_repr, bi_all, maxB_ii, minB_ii, lenB_1, tupB_1, lstB_1, reprB_1, allB_1, slD_t, slD_l, slD_f, slD_r, ints2_ii, popD_ri, AG.wipeD, asg_n, asg_t, asg_p, AG.setAll, atI_0, atI_1, atI_2, atI_3, ixN_30, ixN_31, ixN_32, List.set_cons_zero, List.set_cons_succ, List.getElem?_set_self, List.length_set, Bool.and_eq_true, decide_eq_true_eq, decide_eq_false_iff_not, bne_iff_ne, bne_eq_false_iff_eq, Int.toNat_natCast]
    have eg : (1 : Int) + (g : Nat) = ((1 + g : Nat) : Int) := by omega
    rw [eg]
    refine ⟨by decide, by decide, ⟨evn, a, .cop hh (1 + g) ts⟩, rfl, ⟨hev1, hev12, by show a < evn; omega, by omega, by omega, by omega, ht1⟩, hevl, b7.up (by omega), (((f03.trans f4).trans f5).trans f6).trans f7⟩
/-! ### the least common number -/
def ComW (F : List D → M D) : Prop := ∀ (S : Sto) (a b : Nat), 1 ≤ a → a ≤ 240 → 1 ≤ b → b ≤ 72 → Ok (F [.int a, .int b]) S fun d S' => d = .int (Nat.lcm a b : Nat) ∧ S' = S
theorem max_nat (a b : Nat) : (if (b : Int) > (a : Int) then (b : Int) else (a : Int)) = ((max a b : Nat) : Int) := by
  split <;> omega
theorem common_run (hfu : 80 ≤ fu) : ComW (runF Φ fu 3 b_law_common) := by
  intro S a b a1 a240 b1 b72
  simp only [b_law_common, runF, exs, ex, ev, evs, evt, evo, evi, evc, ok_bnd, ok_ret', ok_getV, ok_getC, ok_setC, ok_opt, ok_need, ok_ite, ok_mkLf, ok_mkLt, ok_notB, List.map_cons, List.map_nil, List.replicate_zero, List.replicate_succ, List.length_cons, List.length_nil, List.cons_append, List.nil_append, Nat.reduceSub, Nat.reduceAdd, List.getElem?_cons_zero, List.getElem?_cons_succ, Option.some.injEq, exists_eq_left', ixD_i, setIx_ri, appD_r, isC_r, items_tup, items_lst, items_fro, items_ref, tru_b, tru_i, b_add, b_sub, b_mul, b_div, b_mod, b_pow, b_band, addD_ii, subD_ii, mulD_ii, modD_ii, divD_ii, powD_ii, bandD_ii, addD_tt, addD_ll, c_eq, c_ne, c_lt, c_le, c_gt, c_ge, c_is, c_isn, isD_bb, eqD_ii, eqD_ss, eqD_bb, ltD_ii, leD_ii, bi_len, bi_max, bi_min, bi_tup, bi_lst, bi_repr, bi_all, maxB_ii, minB_ii, lenB_1, tupB_1, lstB_1, reprB_1, allB_1, slD_t, slD_l, slD_f, slD_r, ints2_ii, popD_ri, AG.wipeD, asg_n, asg_t, asg_p, AG.setAll, atI_0, atI_1, atI_2, atI_3, ixN_30, ixN_31, ixN_32, List.set_cons_zero, List.set_cons_succ, List.getElem?_set_self, List.length_set, Bool.and_eq_true, decide_eq_true_eq, decide_eq_false_iff_not, bne_iff_ne, bne_eq_false_iff_eq, Int.toNat_natCast]
  rw [max_nat]
  have hM1 : 1 ≤ max a b := by omega
  have hMd : max a b ∣ Nat.lcm a b := by
    rcases Nat.le_total a b with h | h
    · rw [Nat.max_eq_right h]; exact Nat.dvd_lcm_right a b
    · rw [Nat.max_eq_left h]; exact Nat.dvd_lcm_left a b
  have hLle : Nat.lcm a b ≤ max a b * 72 := by
    have h1 : Nat.lcm a b ≤ a * b := by unfold Nat.lcm; exact Nat.div_le_self _ _
    have h2 : a * b ≤ max a b * 72 := Nat.mul_le_mul (by omega) b72
    omega
  have hL1 : 1 ≤ Nat.lcm a b := Nat.lcm_pos (by omega) (by omega)
  obtain ⟨L, hL⟩ := hMd
  have hL72 : L ≤ 72 := by
    rw [hL] at hLle
    exact Nat.le_of_mul_le_mul_left hLle (by omega)
  generalize hM : max a b = Mx at *
  refine ok_wh (fun n ρ S' => S' = S ∧ ∃ q, 1 ≤ q ∧ q ≤ L ∧ n = L - q ∧ ρ = [some (.int (a : Nat)), some (.int (b : Nat)), some (.int ((Mx * q : Nat) : Int))]) fu (L - 1) _ _ (by omega)
    ⟨rfl, 1, by omega, ?_, rfl, by rw [Nat.mul_one]⟩ ?_
  · rcases Nat.eq_zero_or_pos L with h | h
    · subst h; rw [Nat.mul_zero] at hL; omega
    · exact h
  · rintro n ρ S' ⟨rfl, q, hq1, hqL, rfl, rfl⟩
    simp only [runF, exs, ex, ev, evs, evt, evo, evi, evc, ok_bnd, ok_ret', ok_getV, ok_getC, ok_setC, ok_opt, ok_need, ok_ite, ok_mkLf, ok_mkLt, ok_notB, List.map_cons, List.map_nil, List.replicate_zero, List.replicate_succ, List.length_cons, List.length_nil, List.cons_append, List.nil_append, Nat.reduceSub, Nat.reduceAdd, List.getElem?_cons_zero, List.getElem?_cons_succ, Option.some.injEq, exists_eq_left', ixD_i, setIx_ri, appD_r, isC_r, items_tup, items_lst, items_fro, items_ref, tru_b, tru_i, b_add, b_sub, b_mul, b_div, b_mod, b_pow, b_band, addD_ii, subD_ii, mulD_ii, modD_ii, divD_ii, powD_ii, bandD_ii, addD_tt, addD_ll, c_eq, c_ne, c_lt, c_le, c_gt, c_ge, c_is, c_isn, isD_bb, eqD_ii, eqD_ss, eqD_bb, ltD_ii, leD_ii, bi_len, bi_max, bi_min, bi_tup, bi_lst, bi_repr, bi_all, maxB_ii, minB_ii, lenB_1, tupB_1, lstB_1, reprB_1, allB_1, slD_t, slD_l, slD_f, slD_r, ints2_ii, popD_ri, AG.wipeD, asg_n, asg_t, asg_p, AG.setAll, atI_0, atI_1, atI_2, atI_3, ixN_30, ixN_31, ixN_32, List.set_cons_zero, List.set_cons_succ, List.getElem?_set_self, List.length_set, Bool.and_eq_true, decide_eq_true_eq, decide_eq_false_iff_not, bne_iff_ne, bne_eq_false_iff_eq, Int.toNat_natCast]
    rw [max_nat, hM]
    have hstep : q < L → ∃ m', m' < L - q ∧ True ∧ ∃ q_1, 1 ≤ q_1 ∧ q_1 ≤ L ∧ m' = L - q_1 ∧ [some (D.int (a : Nat)), some (D.int (b : Nat)), some (D.int (((Mx * q : Nat) : Int) + (Mx : Nat)))] = [some (D.int (a : Nat)), some (D.int (b : Nat)), some (D.int ((Mx * q_1 : Nat) : Int))] := fun h =>
      ⟨L - (q + 1), by omega, trivial, q + 1, by omega, by omega, rfl, by rw [Nat.mul_succ, Int.natCast_add]⟩
    have da : a ∣ Mx * L := by rw [← hL]; exact Nat.dvd_lcm_left a b
    have db : b ∣ Mx * L := by rw [← hL]; exact Nat.dvd_lcm_right a b
    have ea : ((Mx * q : Nat) : Int) % (a : Nat) = ((Mx * q % a : Nat) : Int) := by rw [Int.natCast_emod]
    have eb : ((Mx * q : Nat) : Int) % (b : Nat) = ((Mx * q % b : Nat) : Int) := by rw [Int.natCast_emod]
    rw [ea, eb]
    refine ⟨by omega, fun h => ?_, fun h => ⟨by omega, ?_⟩⟩
    · rw [if_pos trivial]
      refine hstep ?_
      rcases Nat.lt_or_ge q L with z | z
      · exact z
      · have : q = L := by omega
        subst this
        rw [Nat.mod_eq_zero_of_dvd da] at h
        omega
    · by_cases h2 : (0 : Int) < ((Mx * q % b : Nat) : Int)
      · rw [if_pos h2]
        refine hstep ?_
        rcases Nat.lt_or_ge q L with z | z
        · exact z
        · have : q = L := by omega
          subst this
          rw [Nat.mod_eq_zero_of_dvd db] at h2
          omega
      · rw [if_neg h2]
        have d1 : a ∣ Mx * q := Nat.dvd_of_mod_eq_zero (by omega)
        have d2 : b ∣ Mx * q := Nat.dvd_of_mod_eq_zero (by omega)
        have d3 := Nat.lcm_dvd d1 d2
        have h4 := Nat.le_of_dvd (Nat.mul_pos hM1 hq1) d3
        rw [hL] at h4
        have h5 : L ≤ q := Nat.le_of_mul_le_mul_left h4 hM1
        have : q = L := by omega
        subst this
        rw [hL]
        exact ⟨rfl, trivial⟩
/-! ### clocks -/
def ruC (r : Ru) : Nat := match r.wh with
  | .own row => r.every * row.length
  | .cop _ _ _ => r.every
def haC (c : Nat) (h : List Ru) : Nat := h.foldl (fun c r => Nat.lcm c (ruC r)) c
def weC (c : Nat) (hs : List (List Ru)) : Nat := hs.foldl haC c
theorem ruC_b {m c : Nat} {r : Ru} (h : RuOk m c r) : 1 ≤ ruC r ∧ ruC r ≤ 72 := by
  have h1 := h.e1
  have h2 := h.e12
  have h3 := h.wh
  unfold ruC
  cases hw : r.wh with
  | own row =>
    rw [hw] at h3
    obtain ⟨h4, h5, _⟩ := h3
    show 1 ≤ r.every * row.length ∧ r.every * row.length ≤ 72
    exact ⟨Nat.mul_le_mul h1 h4, Nat.mul_le_mul h2 h5⟩
  | cop a b t => exact ⟨h1, by show r.every ≤ 72; omega⟩
/-- the law's own clock: it stops behind 240 -/
def rC (c : Nat) (r : Ru) : Nat := if c ≤ 240 then Nat.lcm c (ruC r) else c
def LcW (F : List D → M D) : Prop := ∀ (S : Sto) (m c : Nat) (hs : List (List Ru)), (∀ h ∈ hs, ∀ r ∈ h, RuOk m c r) → Ok (F [.lst (hs.map dH)]) S fun d S' => d = .int ((hs.foldl (fun c h => h.foldl rC c) 1 : Nat) : Int) ∧ S' = S
theorem own_cop : (decide (Str.ofString "own" = Str.ofString "own")) = true := by decide
theorem cop_own : (decide (Str.ofString "copy" = Str.ofString "own")) = false := by decide +kernel
theorem own_cpy : (decide (Str.ofString "own" = Str.ofString "copy")) = false := by decide +kernel
theorem rC_pos (c : Nat) (r : Ru) (h : 1 ≤ c) (hr : 1 ≤ ruC r) : 1 ≤ rC c r := by
  unfold rC
  split
  · exact Nat.lcm_pos h hr
  · exact h
theorem lclock_run (hc : ComW (Φ "_law_common")) : LcW (runF Φ fu 7 b_law_clock) := by
  intro S m c hs hok
  simp only [b_law_clock, runF, exs, ex, ev, evs, evt, evo, evi, evc, ok_bnd, ok_ret', ok_getV, ok_getC, ok_setC, ok_opt, ok_need, ok_ite, ok_mkLf, ok_mkLt, ok_notB, List.map_cons, List.map_nil, List.replicate_zero, List.replicate_succ, List.length_cons, List.length_nil, List.cons_append, List.nil_append, Nat.reduceSub, Nat.reduceAdd, List.getElem?_cons_zero, List.getElem?_cons_succ, Option.some.injEq, exists_eq_left', ixD_i, setIx_ri, appD_r, isC_r, items_tup, items_lst, items_fro, items_ref, tru_b, tru_i, b_add, b_sub, b_mul, b_div, b_mod, b_pow, b_band, addD_ii, subD_ii, mulD_ii, modD_ii, divD_ii, powD_ii, bandD_ii, addD_tt, addD_ll, c_eq, c_ne, c_lt, c_le, c_gt, c_ge, c_is, c_isn, isD_bb, eqD_ii, eqD_ss, eqD_bb, ltD_ii, leD_ii, bi_len, bi_max, bi_min, bi_tup, bi_lst, bi_repr, bi_all, maxB_ii, minB_ii, lenB_1, tupB_1, lstB_1, reprB_1, allB_1, slD_t, slD_l, slD_f, slD_r, ints2_ii, popD_ri, AG.wipeD, asg_n, asg_t, asg_p, AG.setAll, atI_0, atI_1, atI_2, atI_3, ixN_30, ixN_31, ixN_32, List.set_cons_zero, List.set_cons_succ, List.getElem?_set_self, List.length_set, Bool.and_eq_true, decide_eq_true_eq, decide_eq_false_iff_not, bne_iff_ne, bne_eq_false_iff_eq, Int.toNat_natCast]
  refine ok_for (fun j ρ S' => S' = S ∧ ∃ x2 x3 x4 x5 x6 f, 1 ≤ f ∧ f = (hs.take j).foldl (fun c h => h.foldl rC c) 1 ∧ ρ = [some (.lst (hs.map dH)), some (.int (f : Nat)), x2, x3, x4, x5, x6]) ⟨rfl, _, _, _, _, _, 1, by omega, rfl, rfl⟩ ?_ ?_
  · rintro j x ρ S' hx ⟨rfl, x2, x3, x4, x5, x6, f, hf1, hf, rfl⟩
    rw [List.getElem?_map] at hx
    obtain ⟨h, hh, rfl⟩ := Option.map_eq_some_iff.mp hx
    have hmem := List.mem_of_getElem? hh
    refine ⟨_, rfl, ?_⟩
    try simp only [runF, exs, ex, ev, evs, evt, evo, evi, evc, ok_bnd, ok_ret', ok_getV, ok_getC, ok_setC, ok_opt, ok_need, ok_ite, ok_mkLf, ok_mkLt, ok_notB, List.map_cons, List.map_nil, List.replicate_zero, List.replicate_succ, List.length_cons, List.length_nil, List.cons_append, List.nil_append, Nat.reduceSub, Nat.reduceAdd, List.getElem?_cons_zero, List.getElem?_cons_succ, Option.some.injEq, exists_eq_left', ixD_i, setIx_ri, appD_r, isC_r, items_tup, items_lst, items_fro, items_ref, tru_b, tru_i, b_add, b_sub, b_mul, b_div, b_mod, b_pow, b_band, addD_ii, subD_ii, mulD_ii, modD_ii, divD_ii, powD_ii, bandD_ii, addD_tt, addD_ll, c_eq, c_ne, c_lt, c_le, c_gt, c_ge, c_is, c_isn, isD_bb, eqD_ii, eqD_ss, eqD_bb, ltD_ii, leD_ii, bi_len, bi_max, bi_min, bi_tup, bi_lst, bi_repr, bi_all, maxB_ii, minB_ii, lenB_1, tupB_1, lstB_1, reprB_1, allB_1, slD_t, slD_l, slD_f, slD_r, ints2_ii, popD_ri, AG.wipeD, asg_n, asg_t, asg_p, AG.setAll, atI_0, atI_1, atI_2, atI_3, ixN_30, ixN_31, ixN_32, List.set_cons_zero, List.set_cons_succ, List.getElem?_set_self, List.length_set, Bool.and_eq_true, decide_eq_true_eq, decide_eq_false_iff_not, bne_iff_ne, bne_eq_false_iff_eq, Int.toNat_natCast]
    rw [show dH h = D.tup (h.map dR) from rfl]
    try simp only [runF, exs, ex, ev, evs, evt, evo, evi, evc, ok_bnd, ok_ret', ok_getV, ok_getC, ok_setC, ok_opt, ok_need, ok_ite, ok_mkLf, ok_mkLt, ok_notB, List.map_cons, List.map_nil, List.replicate_zero, List.replicate_succ, List.length_cons, List.length_nil, List.cons_append, List.nil_append, Nat.reduceSub, Nat.reduceAdd, List.getElem?_cons_zero, List.getElem?_cons_succ, Option.some.injEq, exists_eq_left', ixD_i, setIx_ri, appD_r, isC_r, items_tup, items_lst, items_fro, items_ref, tru_b, tru_i, b_add, b_sub, b_mul, b_div, b_mod, b_pow, b_band, addD_ii, subD_ii, mulD_ii, modD_ii, divD_ii, powD_ii, bandD_ii, addD_tt, addD_ll, c_eq, c_ne, c_lt, c_le, c_gt, c_ge, c_is, c_isn, isD_bb, eqD_ii, eqD_ss, eqD_bb, ltD_ii, leD_ii, bi_len, bi_max, bi_min, bi_tup, bi_lst, bi_repr, bi_all, maxB_ii, minB_ii, lenB_1, tupB_1, lstB_1, reprB_1, allB_1, slD_t, slD_l, slD_f, slD_r, ints2_ii, popD_ri, AG.wipeD, asg_n, asg_t, asg_p, AG.setAll, atI_0, atI_1, atI_2, atI_3, ixN_30, ixN_31, ixN_32, List.set_cons_zero, List.set_cons_succ, List.getElem?_set_self, List.length_set, Bool.and_eq_true, decide_eq_true_eq, decide_eq_false_iff_not, bne_iff_ne, bne_eq_false_iff_eq, Int.toNat_natCast]
    refine ok_for (fun i ρ S'' => S'' = S' ∧ ∃ x3 x4 x5 x6 g, 1 ≤ g ∧ g = (h.take i).foldl rC f ∧ ρ = [some (D.lst (List.map dH hs)), some (D.int (g : Nat)), some (D.tup (List.map dR h)), x3, x4, x5, x6]) ⟨rfl, _, _, _, _, f, hf1, rfl, rfl⟩ ?_ ?_
    · rintro i x ρ S'' hx2 ⟨rfl, y3, y4, y5, y6, g, hg1, hg, rfl⟩
      rw [List.getElem?_map] at hx2
      obtain ⟨r, hr, rfl⟩ := Option.map_eq_some_iff.mp hx2
      have hro := hok h hmem r (List.mem_of_getElem? hr)
      obtain ⟨hb1, hb72⟩ := ruC_b hro
      have h12 := hro.e12
      have hwo := hro.wh
      have hnext : (h.take (i + 1)).foldl rC f = rC g r := by rw [List.take_add_one, hr, hg]; simp [List.foldl_append]
      have hpos := rC_pos g r hg1 hb1
      obtain ⟨evn, at_, wh⟩ := r
      have hle : g ≤ 240 → rC g ⟨evn, at_, wh⟩ = Nat.lcm g (ruC ⟨evn, at_, wh⟩) := fun z => if_pos z
      have hgt : ¬ g ≤ 240 → rC g ⟨evn, at_, wh⟩ = g := fun z => if_neg z
      have h12 : evn ≤ 12 := h12
      cases wh with
      | own row =>
        refine ⟨_, rfl, ?_⟩
        simp only [dW, tN, runF, exs, ex, ev, evs, evt, evo, evi, evc, ok_bnd, ok_ret', ok_getV, ok_getC, ok_setC, ok_opt, ok_need, ok_ite, ok_mkLf, ok_mkLt, ok_notB, List.map_cons, List.map_nil, List.replicate_zero, List.replicate_succ, List.length_cons, List.length_nil, List.cons_append, List.nil_append, Nat.reduceSub, Nat.reduceAdd, List.getElem?_cons_zero, List.getElem?_cons_succ, Option.some.injEq, exists_eq_left', ixD_i, setIx_ri, appD_r, isC_r, items_tup, items_lst, items_fro, items_ref, tru_b, tru_i, b_add, b_sub, b_mul, b_div, b_mod, b_pow, b_band, addD_ii, subD_ii, mulD_ii, modD_ii, divD_ii, powD_ii, bandD_ii, addD_tt, addD_ll, c_eq, c_ne, c_lt, c_le, c_gt, c_ge, c_is, c_isn, isD_bb, eqD_ii, eqD_ss, eqD_bb, ltD_ii, leD_ii, bi_len, bi_max, bi_min, bi_tup, bi_lst, bi_repr, bi_all, maxB_ii, minB_ii, lenB_1, tupB_1, lstB_1, reprB_1, allB_1, slD_t, slD_l, slD_f, slD_r, ints2_ii, popD_ri, AG.wipeD, asg_n, asg_t, asg_p, AG.setAll, atI_0, atI_1, atI_2, atI_3, ixN_30, ixN_31, ixN_32, List.set_cons_zero, List.set_cons_succ, List.getElem?_set_self, List.length_set, Bool.and_eq_true, decide_eq_true_eq, decide_eq_false_iff_not, bne_iff_ne, bne_eq_false_iff_eq, Int.toNat_natCast, List.length_map]
        obtain ⟨hw1, hw6, _⟩ := hwo
        rw [show (evn : Int) * (row.length : Int) = ((ruC ⟨evn, at_, .own row⟩ : Nat) : Int) from by rw [← Int.natCast_mul]; rfl]
        refine ⟨fun _ => ⟨⟨big_nat (by omega), big_nat (by omega)⟩, fun z => ?_, fun z => ?_⟩, fun z => absurd trivial z⟩
        · refine (hc S'' g _ hg1 (by omega) hb1 hb72).mono fun d S3 ⟨e1, e2⟩ => ?_
          subst e1 e2
          exact ⟨rfl, _, _, _, _, _, hpos, hnext.symm, by rw [hle (by omega)]⟩
        · exact ⟨trivial, _, _, _, _, _, hpos, hnext.symm, by rw [hgt (by omega)]⟩
      | cop a b t =>
        refine ⟨_, rfl, ?_⟩
        simp only [dW, tN, runF, exs, ex, ev, evs, evt, evo, evi, evc, ok_bnd, ok_ret', ok_getV, ok_getC, ok_setC, ok_opt, ok_need, ok_ite, ok_mkLf, ok_mkLt, ok_notB, List.map_cons, List.map_nil, List.replicate_zero, List.replicate_succ, List.length_cons, List.length_nil, List.cons_append, List.nil_append, Nat.reduceSub, Nat.reduceAdd, List.getElem?_cons_zero, List.getElem?_cons_succ, Option.some.injEq, exists_eq_left', ixD_i, setIx_ri, appD_r, isC_r, items_tup, items_lst, items_fro, items_ref, tru_b, tru_i, b_add, b_sub, b_mul, b_div, b_mod, b_pow, b_band, addD_ii, subD_ii, mulD_ii, modD_ii, divD_ii, powD_ii, bandD_ii, addD_tt, addD_ll, c_eq, c_ne, c_lt, c_le, c_gt, c_ge, c_is, c_isn, isD_bb, eqD_ii, eqD_ss, eqD_bb, ltD_ii, leD_ii, bi_len, bi_max, bi_min, bi_tup, bi_lst, bi_repr, bi_all, maxB_ii, minB_ii, lenB_1, tupB_1, lstB_1, reprB_1, allB_1, slD_t, slD_l, slD_f, slD_r, ints2_ii, popD_ri, AG.wipeD, asg_n, asg_t, asg_p, AG.setAll, atI_0, atI_1, atI_2, atI_3, ixN_30, ixN_31, ixN_32, List.set_cons_zero, List.set_cons_succ, List.getElem?_set_self, List.length_set, Bool.and_eq_true, decide_eq_true_eq, decide_eq_false_iff_not, bne_iff_ne, bne_eq_false_iff_eq, Int.toNat_natCast]
        refine ⟨fun z => absurd z (by decide), fun _ => ⟨fun z => ?_, fun z => ?_⟩⟩
        · refine (hc S'' g evn hg1 (by omega) hb1 hb72).mono fun d S3 ⟨e1, e2⟩ => ?_
          subst e1 e2
          exact ⟨rfl, _, _, _, _, _, hpos, hnext.symm, by rw [hle (by omega)]; rfl⟩
        · exact ⟨trivial, _, _, _, _, _, hpos, hnext.symm, by rw [hgt (by omega)]⟩
    · rintro ρ S'' ⟨rfl, y3, y4, y5, y6, g, hg1, hg, rfl⟩
      try simp only [runF, exs, ex, ev, evs, evt, evo, evi, evc, ok_bnd, ok_ret', ok_getV, ok_getC, ok_setC, ok_opt, ok_need, ok_ite, ok_mkLf, ok_mkLt, ok_notB, List.map_cons, List.map_nil, List.replicate_zero, List.replicate_succ, List.length_cons, List.length_nil, List.cons_append, List.nil_append, Nat.reduceSub, Nat.reduceAdd, List.getElem?_cons_zero, List.getElem?_cons_succ, Option.some.injEq, exists_eq_left', ixD_i, setIx_ri, appD_r, isC_r, items_tup, items_lst, items_fro, items_ref, tru_b, tru_i, b_add, b_sub, b_mul, b_div, b_mod, b_pow, b_band, addD_ii, subD_ii, mulD_ii, modD_ii, divD_ii, powD_ii, bandD_ii, addD_tt, addD_ll, c_eq, c_ne, c_lt, c_le, c_gt, c_ge, c_is, c_isn, isD_bb, eqD_ii, eqD_ss, eqD_bb, ltD_ii, leD_ii, bi_len, bi_max, bi_min, bi_tup, bi_lst, bi_repr, bi_all, maxB_ii, minB_ii, lenB_1, tupB_1, lstB_1, reprB_1, allB_1, slD_t, slD_l, slD_f, slD_r, ints2_ii, popD_ri, AG.wipeD, asg_n, asg_t, asg_p, AG.setAll, atI_0, atI_1, atI_2, atI_3, ixN_30, ixN_31, ixN_32, List.set_cons_zero, List.set_cons_succ, List.getElem?_set_self, List.length_set, Bool.and_eq_true, decide_eq_true_eq, decide_eq_false_iff_not, bne_iff_ne, bne_eq_false_iff_eq, Int.toNat_natCast]
      refine ⟨by trivial, _, _, _, _, _, g, hg1, ?_, rfl⟩
      rw [List.take_add_one, hh, List.foldl_append, ← hf]
      rw [List.length_map, List.take_of_length_le (Nat.le_refl _)] at hg
      exact hg
  · rintro ρ S' ⟨rfl, x2, x3, x4, x5, x6, f, hf1, hf, rfl⟩
    rw [List.length_map, List.take_of_length_le (Nat.le_refl _)] at hf
    try simp only [runF, exs, ex, ev, evs, evt, evo, evi, evc, ok_bnd, ok_ret', ok_getV, ok_getC, ok_setC, ok_opt, ok_need, ok_ite, ok_mkLf, ok_mkLt, ok_notB, List.map_cons, List.map_nil, List.replicate_zero, List.replicate_succ, List.length_cons, List.length_nil, List.cons_append, List.nil_append, Nat.reduceSub, Nat.reduceAdd, List.getElem?_cons_zero, List.getElem?_cons_succ, Option.some.injEq, exists_eq_left', ixD_i, setIx_ri, appD_r, isC_r, items_tup, items_lst, items_fro, items_ref, tru_b, tru_i, b_add, b_sub, b_mul, b_div, b_mod, b_pow, b_band, addD_ii, subD_ii, mulD_ii, modD_ii, divD_ii, powD_ii, bandD_ii, addD_tt, addD_ll, c_eq, c_ne, c_lt, c_le, c_gt, c_ge, c_is, c_isn, isD_bb, eqD_ii, eqD_ss, eqD_bb, ltD_ii, leD_ii, bi_len, bi_max, bi_min, bi_tup, bi_lst, bi_repr, bi_all, maxB_ii, minB_ii, lenB_1, tupB_1, lstB_1, reprB_1, allB_1, slD_t, slD_l, slD_f, slD_r, ints2_ii, popD_ri, AG.wipeD, asg_n, asg_t, asg_p, AG.setAll, atI_0, atI_1, atI_2, atI_3, ixN_30, ixN_31, ixN_32, List.set_cons_zero, List.set_cons_succ, List.getElem?_set_self, List.length_set, Bool.and_eq_true, decide_eq_true_eq, decide_eq_false_iff_not, bne_iff_ne, bne_eq_false_iff_eq, Int.toNat_natCast]
    rw [hf]
    exact ⟨rfl, trivial⟩
/-! ### tamed hands -/
def fewN (e : Nat) : Nat := [1, 1, 2, 3, 4, 4, 6, 6, 4, 3, 2, 6, 12].getD e 1
def tam (r : Ru) : Ru := ⟨fewN r.every, r.at_ % fewN r.every, match r.wh with
  | .own row => .own (row.take 3)
  | w => w⟩
theorem cut_take (xs : List D) (n : Nat) : cutD xs none (some (n : Int)) = xs.take n := by
  unfold cutD
  show (xs.drop 0).take ((if (n : Int) < 0 then ((n : Int) + (xs.length : Int)).toNat else min (n : Int).toNat xs.length) - 0) = _
  rw [if_neg (by omega), List.drop_zero, Nat.sub_zero, Int.toNat_natCast]
  rcases Nat.le_total n xs.length with h | h
  · rw [Nat.min_eq_left h]
  · rw [Nat.min_eq_right h, List.take_of_length_le (Nat.le_refl _), List.take_of_length_le h]
theorem few_tab : ∀ e : Fin 13, 1 ≤ fewN e.val ∧ fewN e.val ≤ 12 ∧ 72 % (fewN e.val) = 0 ∧ 72 % (fewN e.val * 2) = 0 ∧ 72 % (fewN e.val * 3) = 0 := by decide +kernel
theorem few_at : ∀ e : Nat, e ≤ 12 → L2.atI ([D.int 1, D.int 1, D.int 2, D.int 3, D.int 4, D.int 4, D.int 6, D.int 6, D.int 4, D.int 3, D.int 2, D.int 6, D.int 12]) (e : Nat) = some (D.int (fewN e : Nat)) := by
  intro e he
  rw [atI_of]
  have : e = 0 ∨ e = 1 ∨ e = 2 ∨ e = 3 ∨ e = 4 ∨ e = 5 ∨ e = 6 ∨ e = 7 ∨ e = 8 ∨ e = 9 ∨ e = 10 ∨ e = 11 ∨ e = 12 := by omega
  rcases this with h | h | h | h | h | h | h | h | h | h | h | h | h <;> subst h <;> rfl
theorem tam_ok {m c : Nat} {r : Ru} (h : RuOk m c r) : RuOk m c (tam r) ∧ ruC (tam r) ∣ 72 ∧ (r.every = 1 → (tam r).every = 1) := by
  obtain ⟨evn, at_, wh⟩ := r
  have h1 : 1 ≤ evn := h.e1
  have h12 : evn ≤ 12 := h.e12
  obtain ⟨f1, f12, d1, d2, d3⟩ := few_tab ⟨evn, by omega⟩
  change 1 ≤ fewN evn at f1
  change fewN evn ≤ 12 at f12
  change 72 % fewN evn = 0 at d1
  change 72 % (fewN evn * 2) = 0 at d2
  change 72 % (fewN evn * 3) = 0 at d3
  have hw := h.wh
  have hat : at_ % fewN evn < fewN evn := Nat.mod_lt _ (by omega)
  have h11 : evn = 1 → fewN evn = 1 := fun e => by subst e; rfl
  cases wh with
  | own row =>
    obtain ⟨w1, w6, wl⟩ := hw
    refine ⟨⟨f1, f12, hat, by show 1 ≤ (row.take 3).length; rw [List.length_take]; omega, by show (row.take 3).length ≤ 6; rw [List.length_take]; omega, fun t ht => wl t (List.mem_of_mem_take ht)⟩, ?_, h11⟩
    show fewN evn * (row.take 3).length ∣ 72
    have : (row.take 3).length = 1 ∨ (row.take 3).length = 2 ∨ (row.take 3).length = 3 := by rw [List.length_take]; omega
    rcases this with e | e | e <;> rw [e]
    · rw [Nat.mul_one]; exact Nat.dvd_of_mod_eq_zero d1
    · exact Nat.dvd_of_mod_eq_zero d2
    · exact Nat.dvd_of_mod_eq_zero d3
  | cop a b t => exact ⟨⟨f1, f12, hat, hw⟩, Nat.dvd_of_mod_eq_zero d1, h11⟩
def TamW (F : List D → M D) : Prop := ∀ (S : Sto) (m c : Nat) (h : List Ru), (∀ r ∈ h, RuOk m c r) → h.length ≤ 100 → Ok (F [dH h]) S fun d S' => d = dH (h.map tam) ∧ ∃ x, S' = S ++ [x]
theorem tamed_run : TamW (runF Φ fu 6 b_law_tamed) := by
  intro S m c h hok hlen
  rw [show dH h = D.tup (h.map dR) from rfl]
  simp only [b_law_tamed, runF, exs, ex, ev, evs, evt, evo, evi, evc, ok_bnd, ok_ret', ok_getV, ok_getC, ok_setC, ok_opt, ok_need, ok_ite, ok_mkLf, ok_mkLt, ok_notB, List.map_cons, List.map_nil, List.replicate_zero, List.replicate_succ, List.length_cons, List.length_nil, List.cons_append, List.nil_append, Nat.reduceSub, Nat.reduceAdd, List.getElem?_cons_zero, List.getElem?_cons_succ, Option.some.injEq, exists_eq_left', ixD_i, setIx_ri, appD_r, isC_r, items_tup, items_lst, items_fro, items_ref, tru_b, tru_i, b_add, b_sub, b_mul, b_div, b_mod, b_pow, b_band, addD_ii, subD_ii, mulD_ii, modD_ii, divD_ii, powD_ii, bandD_ii, addD_tt, addD_ll, c_eq, c_ne, c_lt, c_le, c_gt, c_ge, c_is, c_isn, isD_bb, eqD_ii, eqD_ss, eqD_bb, ltD_ii, leD_ii, bi_len, bi_max, bi_min, bi_tup, bi_lst, bi_repr, bi_all, maxB_ii, minB_ii, lenB_1, tupB_1, lstB_1, reprB_1, allB_1, slD_t, slD_l, slD_f, slD_r, ints2_ii, popD_ri, AG.wipeD, asg_n, asg_t, asg_p, AG.setAll, atI_0, atI_1, atI_2, atI_3, ixN_30, ixN_31, ixN_32, List.set_cons_zero, List.set_cons_succ, List.getElem?_set_self, List.length_set, Bool.and_eq_true, decide_eq_true_eq, decide_eq_false_iff_not, bne_iff_ne, bne_eq_false_iff_eq, Int.toNat_natCast]
  have app : ∀ x : Option (List D), (S ++ [x])[S.length]? = some x := fun x => by rw [List.getElem?_append_right (Nat.le_refl _), Nat.sub_self]; rfl
  refine ⟨by decide, ?_⟩
  refine ok_for (fun j ρ S' => S' = S ++ [some (((h.take j).map tam).map dR)] ∧ ∃ x2 x3 x4 x5, ρ = [some (D.tup (h.map dR)), some (.ref S.length), x2, x3, x4, x5]) ⟨rfl, _, _, _, _, rfl⟩ ?_ ?_
  · rintro j x ρ S' hx ⟨rfl, x2, x3, x4, x5, rfl⟩
    rw [List.getElem?_map] at hx
    obtain ⟨r, hr, rfl⟩ := Option.map_eq_some_iff.mp hx
    have hro := hok r (List.mem_of_getElem? hr)
    have hj : j < h.length := (List.getElem?_eq_some_iff.mp hr).1
    have h12 := hro.e12
    obtain ⟨f1, f12, _⟩ := few_tab ⟨r.every, by omega⟩
    have f1 : 1 ≤ fewN r.every := f1
    have hset : ∀ d, d = dR (tam r) → (S ++ [some (((h.take j).map tam).map dR)]).set S.length (some (((h.take j).map tam).map dR ++ [d])) = S ++ [some (((h.take (j + 1)).map tam).map dR)] := fun d e => by
      subst e
      rw [List.set_append_right _ _ (Nat.le_refl _), Nat.sub_self, List.take_add_one, hr, List.map_append, List.map_append]
      rfl
    have eat : ((r.at_ : Nat) : Int) % ((fewN r.every : Nat) : Int) = ((r.at_ % fewN r.every : Nat) : Int) := by rw [Int.natCast_emod]
    obtain ⟨evn, at_, wh⟩ := r
    cases wh with
    | own row =>
      refine ⟨_, rfl, ?_⟩
      simp only [dW, tN, runF, exs, ex, ev, evs, evt, evo, evi, evc, ok_bnd, ok_ret', ok_getV, ok_getC, ok_setC, ok_opt, ok_need, ok_ite, ok_mkLf, ok_mkLt, ok_notB, List.map_cons, List.map_nil, List.replicate_zero, List.replicate_succ, List.length_cons, List.length_nil, List.cons_append, List.nil_append, Nat.reduceSub, Nat.reduceAdd, List.getElem?_cons_zero, List.getElem?_cons_succ, Option.some.injEq, exists_eq_left', ixD_i, setIx_ri, appD_r, isC_r, items_tup, items_lst, items_fro, items_ref, tru_b, tru_i, b_add, b_sub, b_mul, b_div, b_mod, b_pow, b_band, addD_ii, subD_ii, mulD_ii, modD_ii, divD_ii, powD_ii, bandD_ii, addD_tt, addD_ll, c_eq, c_ne, c_lt, c_le, c_gt, c_ge, c_is, c_isn, isD_bb, eqD_ii, eqD_ss, eqD_bb, ltD_ii, leD_ii, bi_len, bi_max, bi_min, bi_tup, bi_lst, bi_repr, bi_all, maxB_ii, minB_ii, lenB_1, tupB_1, lstB_1, reprB_1, allB_1, slD_t, slD_l, slD_f, slD_r, ints2_ii, popD_ri, AG.wipeD, asg_n, asg_t, asg_p, AG.setAll, atI_0, atI_1, atI_2, atI_3, ixN_30, ixN_31, ixN_32, List.set_cons_zero, List.set_cons_succ, List.getElem?_set_self, List.length_set, Bool.and_eq_true, decide_eq_true_eq, decide_eq_false_iff_not, bne_iff_ne, bne_eq_false_iff_eq, Int.toNat_natCast, app]
      refine ⟨by decide, ?_⟩
      rw [few_at evn h12]
      refine ⟨_, rfl, ?_⟩
      simp only [runF, exs, ex, ev, evs, evt, evo, evi, evc, ok_bnd, ok_ret', ok_getV, ok_getC, ok_setC, ok_opt, ok_need, ok_ite, ok_mkLf, ok_mkLt, ok_notB, List.map_cons, List.map_nil, List.replicate_zero, List.replicate_succ, List.length_cons, List.length_nil, List.cons_append, List.nil_append, Nat.reduceSub, Nat.reduceAdd, List.getElem?_cons_zero, List.getElem?_cons_succ, Option.some.injEq, exists_eq_left', ixD_i, setIx_ri, appD_r, isC_r, items_tup, items_lst, items_fro, items_ref, tru_b, tru_i, b_add, b_sub, b_mul, b_div, b_mod, b_pow, b_band, addD_ii, subD_ii, mulD_ii, modD_ii, divD_ii, powD_ii, bandD_ii, addD_tt, addD_ll, c_eq, c_ne, c_lt, c_le, c_gt, c_ge, c_is, c_isn, isD_bb, eqD_ii, eqD_ss, eqD_bb, ltD_ii, leD_ii, bi_len, bi_max, bi_min, bi_tup, bi_lst, bi_repr, bi_all, maxB_ii, minB_ii, lenB_1, tupB_1, lstB_1, reprB_1, allB_1, slD_t, slD_l, slD_f, slD_r, ints2_ii, popD_ri, AG.wipeD, asg_n, asg_t, asg_p, AG.setAll, atI_0, atI_1, atI_2, atI_3, ixN_30, ixN_31, ixN_32, List.set_cons_zero, List.set_cons_succ, List.getElem?_set_self, List.length_set, Bool.and_eq_true, decide_eq_true_eq, decide_eq_false_iff_not, bne_iff_ne, bne_eq_false_iff_eq, Int.toNat_natCast, app]
      have eat : ((at_ : Nat) : Int) % ((fewN evn : Nat) : Int) = ((at_ % fewN evn : Nat) : Int) := eat
      have f1 : 1 ≤ fewN evn := f1
      rw [eat]
      refine ⟨by omega, fun _ => ?_, fun z => absurd trivial z⟩
      refine ⟨by decide, ⟨by rw [show (some (1 : Int)) = some ((1 : Nat) : Int) from rfl, cut_take]; rfl, by decide⟩, by decide, by unfold small; exact decide_eq_true (by rw [List.length_map, List.length_map, List.length_take]; omega), hset _ ?_, _, _, _, _, rfl⟩
      rw [show (some (3 : Int)) = some ((3 : Nat) : Int) from rfl, show (some (1 : Int)) = some ((1 : Nat) : Int) from rfl, cut_take, cut_take, ← List.map_take]
      rfl
    | cop a b t =>
      refine ⟨_, rfl, ?_⟩
      simp only [dW, tN, runF, exs, ex, ev, evs, evt, evo, evi, evc, ok_bnd, ok_ret', ok_getV, ok_getC, ok_setC, ok_opt, ok_need, ok_ite, ok_mkLf, ok_mkLt, ok_notB, List.map_cons, List.map_nil, List.replicate_zero, List.replicate_succ, List.length_cons, List.length_nil, List.cons_append, List.nil_append, Nat.reduceSub, Nat.reduceAdd, List.getElem?_cons_zero, List.getElem?_cons_succ, Option.some.injEq, exists_eq_left', ixD_i, setIx_ri, appD_r, isC_r, items_tup, items_lst, items_fro, items_ref, tru_b, tru_i, b_add, b_sub, b_mul, b_div, b_mod, b_pow, b_band, addD_ii, subD_ii, mulD_ii, modD_ii, divD_ii, powD_ii, bandD_ii, addD_tt, addD_ll, c_eq, c_ne, c_lt, c_le, c_gt, c_ge, c_is, c_isn, isD_bb, eqD_ii, eqD_ss, eqD_bb, ltD_ii, leD_ii, bi_len, bi_max, bi_min, bi_tup, bi_lst, bi_repr, bi_all, maxB_ii, minB_ii, lenB_1, tupB_1, lstB_1, reprB_1, allB_1, slD_t, slD_l, slD_f, slD_r, ints2_ii, popD_ri, AG.wipeD, asg_n, asg_t, asg_p, AG.setAll, atI_0, atI_1, atI_2, atI_3, ixN_30, ixN_31, ixN_32, List.set_cons_zero, List.set_cons_succ, List.getElem?_set_self, List.length_set, Bool.and_eq_true, decide_eq_true_eq, decide_eq_false_iff_not, bne_iff_ne, bne_eq_false_iff_eq, Int.toNat_natCast, app]
      refine ⟨by decide, ?_⟩
      rw [few_at evn h12]
      refine ⟨_, rfl, ?_⟩
      simp only [runF, exs, ex, ev, evs, evt, evo, evi, evc, ok_bnd, ok_ret', ok_getV, ok_getC, ok_setC, ok_opt, ok_need, ok_ite, ok_mkLf, ok_mkLt, ok_notB, List.map_cons, List.map_nil, List.replicate_zero, List.replicate_succ, List.length_cons, List.length_nil, List.cons_append, List.nil_append, Nat.reduceSub, Nat.reduceAdd, List.getElem?_cons_zero, List.getElem?_cons_succ, Option.some.injEq, exists_eq_left', ixD_i, setIx_ri, appD_r, isC_r, items_tup, items_lst, items_fro, items_ref, tru_b, tru_i, b_add, b_sub, b_mul, b_div, b_mod, b_pow, b_band, addD_ii, subD_ii, mulD_ii, modD_ii, divD_ii, powD_ii, bandD_ii, addD_tt, addD_ll, c_eq, c_ne, c_lt, c_le, c_gt, c_ge, c_is, c_isn, isD_bb, eqD_ii, eqD_ss, eqD_bb, ltD_ii, leD_ii, bi_len, bi_max, bi_min, bi_tup, bi_lst, bi_repr, bi_all, maxB_ii, minB_ii, lenB_1, tupB_1, lstB_1, reprB_1, allB_1, slD_t, slD_l, slD_f, slD_r, ints2_ii, popD_ri, AG.wipeD, asg_n, asg_t, asg_p, AG.setAll, atI_0, atI_1, atI_2, atI_3, ixN_30, ixN_31, ixN_32, List.set_cons_zero, List.set_cons_succ, List.getElem?_set_self, List.length_set, Bool.and_eq_true, decide_eq_true_eq, decide_eq_false_iff_not, bne_iff_ne, bne_eq_false_iff_eq, Int.toNat_natCast, app]
      have eat : ((at_ : Nat) : Int) % ((fewN evn : Nat) : Int) = ((at_ % fewN evn : Nat) : Int) := eat
      have f1 : 1 ≤ fewN evn := f1
      rw [eat]
      refine ⟨by omega, fun z => absurd z (by decide), fun _ => ?_⟩
      refine ⟨by decide, by unfold small; exact decide_eq_true (by rw [List.length_map, List.length_map, List.length_take]; omega), hset _ rfl, _, _, _, _, rfl⟩
  · rintro ρ S' ⟨rfl, x2, x3, x4, x5, rfl⟩
    simp only [runF, exs, ex, ev, evs, evt, evo, evi, evc, ok_bnd, ok_ret', ok_getV, ok_getC, ok_setC, ok_opt, ok_need, ok_ite, ok_mkLf, ok_mkLt, ok_notB, List.map_cons, List.map_nil, List.replicate_zero, List.replicate_succ, List.length_cons, List.length_nil, List.cons_append, List.nil_append, Nat.reduceSub, Nat.reduceAdd, List.getElem?_cons_zero, List.getElem?_cons_succ, Option.some.injEq, exists_eq_left', ixD_i, setIx_ri, appD_r, isC_r, items_tup, items_lst, items_fro, items_ref, tru_b, tru_i, b_add, b_sub, b_mul, b_div, b_mod, b_pow, b_band, addD_ii, subD_ii, mulD_ii, modD_ii, divD_ii, powD_ii, bandD_ii, addD_tt, addD_ll, c_eq, c_ne, c_lt, c_le, c_gt, c_ge, c_is, c_isn, isD_bb, eqD_ii, eqD_ss, eqD_bb, ltD_ii, leD_ii, bi_len, bi_max, bi_min, bi_tup, bi_lst, bi_repr, bi_all, maxB_ii, minB_ii, lenB_1, tupB_1, lstB_1, reprB_1, allB_1, slD_t, slD_l, slD_f, slD_r, ints2_ii, popD_ri, AG.wipeD, asg_n, asg_t, asg_p, AG.setAll, atI_0, atI_1, atI_2, atI_3, ixN_30, ixN_31, ixN_32, List.set_cons_zero, List.set_cons_succ, List.getElem?_set_self, List.length_set, Bool.and_eq_true, decide_eq_true_eq, decide_eq_false_iff_not, bne_iff_ne, bne_eq_false_iff_eq, Int.toNat_natCast, app, Option.some.injEq, exists_eq_left']
    rw [List.length_map, List.take_of_length_le (Nat.le_refl _)]
    exact ⟨rfl, _, rfl⟩
/-! ### the web that is drawn -/
structure HaOk (m c : Nat) (h : List Ru) : Prop where
  l1 : 1 ≤ h.length
  l6 : h.length ≤ 6
  ru : ∀ r ∈ h, RuOk m c r
  last : ∃ r, h.getLast? = some r ∧ r.every = 1
structure WeOk (w : We) : Prop where
  m1 : 1 ≤ w.many
  m9 : w.many ≤ 9
  c1 : 1 ≤ w.hands.length
  c6 : w.hands.length ≤ 6
  ha : ∀ h ∈ w.hands, HaOk w.many w.hands.length h
  bl : w.before.length = w.hands.length
  bm : ∀ t ∈ w.before, t < w.many
  ck : weC 1 w.hands ≤ 240
theorem rC_big : ∀ (h : List Ru) (c : Nat), 240 < c → h.foldl rC c = c
  | [], _, _ => rfl
  | r :: h, c, hc => by
    rw [List.foldl_cons]
    have : rC c r = c := if_neg (by omega)
    rw [this]
    exact rC_big h c hc
theorem rC_eq : ∀ (h : List Ru) (c : Nat), h.foldl rC c ≤ 240 → h.foldl rC c = haC c h
  | [], _, _ => rfl
  | r :: h, c, hc => by
    rw [List.foldl_cons] at hc ⊢
    by_cases h1 : c ≤ 240
    · have : rC c r = Nat.lcm c (ruC r) := if_pos h1
      rw [this] at hc ⊢
      exact rC_eq h _ hc
    · have : rC c r = c := if_neg h1
      rw [this, rC_big h c (by omega)] at hc
      omega
theorem rC_eqs : ∀ (hs : List (List Ru)) (c : Nat), hs.foldl (fun c h => h.foldl rC c) c ≤ 240 → hs.foldl (fun c h => h.foldl rC c) c = weC c hs
  | [], _, _ => rfl
  | h :: hs, c, hc => by
    rw [List.foldl_cons] at hc ⊢
    have key : h.foldl rC c ≤ 240 := by
      rcases Nat.lt_or_ge 240 (h.foldl rC c) with z | z
      · have big : ∀ (hs : List (List Ru)) (c : Nat), 240 < c → hs.foldl (fun c h => h.foldl rC c) c = c := by
          intro hs
          induction hs with
          | nil => intro c _; rfl
          | cons h hs ih => intro c hc; rw [List.foldl_cons, rC_big h c hc]; exact ih c hc
        rw [big hs _ z] at hc
        omega
      · exact z
    rw [rC_eq h c key] at hc ⊢
    exact rC_eqs hs _ hc
theorem haC_dvd {n : Nat} : ∀ (h : List Ru) (c : Nat), c ∣ n → (∀ r ∈ h, ruC r ∣ n) → haC c h ∣ n
  | [], _, hc, _ => hc
  | r :: h, c, hc, hr => haC_dvd h _ (Nat.lcm_dvd hc (hr r (List.mem_cons_self ..))) fun x hx => hr x (List.mem_cons_of_mem _ hx)
theorem weC_dvd {n : Nat} : ∀ (hs : List (List Ru)) (c : Nat), c ∣ n → (∀ h ∈ hs, ∀ r ∈ h, ruC r ∣ n) → weC c hs ∣ n
  | [], _, hc, _ => hc
  | h :: hs, c, hc, hr => weC_dvd hs _ (haC_dvd h c hc (hr h (List.mem_cons_self ..))) fun x hx => hr x (List.mem_cons_of_mem _ hx)
theorem tam_ha {m c : Nat} {h : List Ru} (o : HaOk m c h) : HaOk m c (h.map tam) := by
  refine ⟨by rw [List.length_map]; exact o.l1, by rw [List.length_map]; exact o.l6, fun r hr => ?_, ?_⟩
  · obtain ⟨x, hx, rfl⟩ := List.mem_map.mp hr
    exact (tam_ok (o.ru x hx)).1
  · obtain ⟨r, h1, h2⟩ := o.last
    refine ⟨tam r, by rw [List.getLast?_map, h1]; rfl, (tam_ok (o.ru r (List.mem_of_getLast? h1))).2.2 h2⟩
theorem fr_set {k i : Nat} {S S' : Sto} {x : Option (List D)} (h : Fr k S S') (hi : S.length ≤ i) : Fr k S (S'.set i x) := ⟨by rw [List.length_set]; exact h.len, fun j hj hn => by rw [List.getElem?_set_ne (by omega)]; exact h.at_ j hj hn⟩
theorem before_run (hp : PickW (Φ "_law_pick")) {S : Sto} {k n m c : Nat} {ρ0 : AG.Env} {P : List D → Sto → Prop} (hb : Bag S k n) (hn : n ≤ 100000) (hm1 : 1 ≤ m) (hm9 : m ≤ 9) (hc : c ≤ 6) (h0 : ρ0[0]? = some (some (.ref k))) (h1 : ρ0[1]? = some (some (.int (m : Nat))))
    (hP : ∀ (us : List Nat) (S' : Sto), us.length = c → (∀ t ∈ us, t < m) → Bag S' k (n + c) → Fr k S S' → P (us.map fun t => D.int (t : Nat)) S') :
    Ok (lcL (fun ρ => bnd (bnd (getV ρ 0) fun x => bnd (bnd (getV ρ 1) fun x => bnd (AG.ret []) fun xs => AG.ret (x :: xs)) fun xs => AG.ret (x :: xs)) fun xs => Φ "_law_pick" xs) (Tg.name 4) (fun _ => AG.ret true) ρ0 (rngL 0 c) []) S P := by
  refine ok_lc (fun i acc S' => ∃ us : List Nat, acc = (us.map fun t => D.int (t : Nat)) ∧ us.length = i ∧ (∀ t ∈ us, t < m) ∧ Bag S' k (n + i) ∧ Fr k S S')
    ⟨[], rfl, rfl, (fun _ h => nomatch h), hb, Fr.refl _ _⟩ (by rw [rng_len]; omega) ?_ ?_
  · rintro i y acc S8 hy hacc ⟨us, e1, e2, e3, e4, ef⟩
    have hic : i < c := by
      have := (List.getElem?_eq_some_iff.mp hy).1
      rw [rng_len] at this
      exact this
    refine ⟨_, rfl, ?_⟩
    simp only [ok_bnd, ok_getV, ok_ret']
    refine ⟨_, by rw [List.getElem?_set_ne (by decide)]; exact h0, _, by rw [List.getElem?_set_ne (by decide)]; exact h1, ?_⟩
    refine (hp S8 k _ m e4 (by omega) (by omega) (by omega)).mono fun d S9 ⟨t, hd, ht, b9, _, f9⟩ => ?_
    subst hd
    refine ⟨us ++ [t], by rw [e1, List.map_append]; rfl, by rw [List.length_append, e2]; rfl, ?_, b9.up (by omega), ef.trans f9⟩
    intro x hx
    rcases List.mem_append.mp hx with h | h
    · exact e3 x h
    · rw [List.mem_singleton.mp h]; omega
  · rintro acc S8 hacc ⟨us, e1, e2, e3, e4, ef⟩
    rw [rng_len] at e2 e4
    subst e1
    exact hP us S8 e2 e3 e4 ef
def WebW (F : List D → M D) : Prop := ∀ (S : Sto) (k n : Nat), Bag S k n → n ≤ 1000 → Ok (F [.ref k]) S fun d S' => ∃ w, d = dWe w ∧ WeOk w ∧ Bag S' k (n + 1000) ∧ Fr k S S'
theorem web_run (hp : PickW (Φ "_law_pick")) (hr : RuleW (Φ "_law_rule")) (hl : LcW (Φ "_law_clock")) (ht : TamW (Φ "_law_tamed")) : WebW (runF Φ fu 8 b_law_web) := by
  intro S k n hb hn
  simp only [b_law_web, runF, exs, ex, ev, evs, evt, evo, evi, evc, ok_bnd, ok_ret', ok_getV, ok_getC, ok_setC, ok_opt, ok_need, ok_ite, ok_mkLf, ok_mkLt, ok_notB, List.map_cons, List.map_nil, List.replicate_zero, List.replicate_succ, List.length_cons, List.length_nil, List.cons_append, List.nil_append, Nat.reduceSub, Nat.reduceAdd, List.getElem?_cons_zero, List.getElem?_cons_succ, Option.some.injEq, exists_eq_left', ixD_i, setIx_ri, appD_r, isC_r, items_tup, items_lst, items_fro, items_ref, tru_b, tru_i, b_add, b_sub, b_mul, b_div, b_mod, b_pow, b_band, addD_ii, subD_ii, mulD_ii, modD_ii, divD_ii, powD_ii, bandD_ii, addD_tt, addD_ll, c_eq, c_ne, c_lt, c_le, c_gt, c_ge, c_is, c_isn, isD_bb, eqD_ii, eqD_ss, eqD_bb, ltD_ii, leD_ii, bi_len, bi_max, bi_min, bi_tup, bi_lst, bi_repr, bi_all, maxB_ii, minB_ii, lenB_1, tupB_1, lstB_1, reprB_1, allB_1, slD_t, slD_l, slD_f, slD_r, ints2_ii, popD_ri, AG.wipeD, asg_n, asg_t, asg_p, AG.setAll, atI_0, atI_1, atI_2, atI_3, ixN_30, ixN_31, ixN_32, List.set_cons_zero, List.set_cons_succ, List.getElem?_set_self, List.length_set, Bool.and_eq_true, decide_eq_true_eq, decide_eq_false_iff_not, bne_iff_ne, bne_eq_false_iff_eq, Int.toNat_natCast]
  refine (hp S k n 9 hb (by omega) (by decide) (by decide)).mono fun d S1 ⟨u, hd, hu, b1, l1, f1⟩ => ?_
  subst hd
  simp only [runF, exs, ex, ev, evs, evt, evo, evi, evc, ok_bnd, ok_ret', ok_getV, ok_getC, ok_setC, ok_opt, ok_need, ok_ite, ok_mkLf, ok_mkLt, ok_notB, List.map_cons, List.map_nil, List.replicate_zero, List.replicate_succ, List.length_cons, List.length_nil, List.cons_append, List.nil_append, Nat.reduceSub, Nat.reduceAdd, List.getElem?_cons_zero, List.getElem?_cons_succ, Option.some.injEq, exists_eq_left', ixD_i, setIx_ri, appD_r, isC_r, items_tup, items_lst, items_fro, items_ref, tru_b, tru_i, b_add, b_sub, b_mul, b_div, b_mod, b_pow, b_band, addD_ii, subD_ii, mulD_ii, modD_ii, divD_ii, powD_ii, bandD_ii, addD_tt, addD_ll, c_eq, c_ne, c_lt, c_le, c_gt, c_ge, c_is, c_isn, isD_bb, eqD_ii, eqD_ss, eqD_bb, ltD_ii, leD_ii, bi_len, bi_max, bi_min, bi_tup, bi_lst, bi_repr, bi_all, maxB_ii, minB_ii, lenB_1, tupB_1, lstB_1, reprB_1, allB_1, slD_t, slD_l, slD_f, slD_r, ints2_ii, popD_ri, AG.wipeD, asg_n, asg_t, asg_p, AG.setAll, atI_0, atI_1, atI_2, atI_3, ixN_30, ixN_31, ixN_32, List.set_cons_zero, List.set_cons_succ, List.getElem?_set_self, List.length_set, Bool.and_eq_true, decide_eq_true_eq, decide_eq_false_iff_not, bne_iff_ne, bne_eq_false_iff_eq, Int.toNat_natCast]
  refine (hp S1 k _ 3 b1 (by omega) (by decide) (by decide)).mono fun d S2 ⟨v, hd, hv, b2, l2, f2⟩ => ?_
  subst hd
  simp only [runF, exs, ex, ev, evs, evt, evo, evi, evc, ok_bnd, ok_ret', ok_getV, ok_getC, ok_setC, ok_opt, ok_need, ok_ite, ok_mkLf, ok_mkLt, ok_notB, List.map_cons, List.map_nil, List.replicate_zero, List.replicate_succ, List.length_cons, List.length_nil, List.cons_append, List.nil_append, Nat.reduceSub, Nat.reduceAdd, List.getElem?_cons_zero, List.getElem?_cons_succ, Option.some.injEq, exists_eq_left', ixD_i, setIx_ri, appD_r, isC_r, items_tup, items_lst, items_fro, items_ref, tru_b, tru_i, b_add, b_sub, b_mul, b_div, b_mod, b_pow, b_band, addD_ii, subD_ii, mulD_ii, modD_ii, divD_ii, powD_ii, bandD_ii, addD_tt, addD_ll, c_eq, c_ne, c_lt, c_le, c_gt, c_ge, c_is, c_isn, isD_bb, eqD_ii, eqD_ss, eqD_bb, ltD_ii, leD_ii, bi_len, bi_max, bi_min, bi_tup, bi_lst, bi_repr, bi_all, maxB_ii, minB_ii, lenB_1, tupB_1, lstB_1, reprB_1, allB_1, slD_t, slD_l, slD_f, slD_r, ints2_ii, popD_ri, AG.wipeD, asg_n, asg_t, asg_p, AG.setAll, atI_0, atI_1, atI_2, atI_3, ixN_30, ixN_31, ixN_32, List.set_cons_zero, List.set_cons_succ, List.getElem?_set_self, List.length_set, Bool.and_eq_true, decide_eq_true_eq, decide_eq_false_iff_not, bne_iff_ne, bne_eq_false_iff_eq, Int.toNat_natCast]
  refine ⟨by decide, ?_⟩
  refine (hp S2 k _ 2 b2 (by omega) (by decide) (by decide)).mono fun d S3 ⟨w, hd, hw, b3, l3, f3⟩ => ?_
  subst hd
  try simp only [runF, exs, ex, ev, evs, evt, evo, evi, evc, ok_bnd, ok_ret', ok_getV, ok_getC, ok_setC, ok_opt, ok_need, ok_ite, ok_mkLf, ok_mkLt, ok_notB, List.map_cons, List.map_nil, List.replicate_zero, List.replicate_succ, List.length_cons, List.length_nil, List.cons_append, List.nil_append, Nat.reduceSub, Nat.reduceAdd, List.getElem?_cons_zero, List.getElem?_cons_succ, Option.some.injEq, exists_eq_left', ixD_i, setIx_ri, appD_r, isC_r, items_tup, items_lst, items_fro, items_ref, tru_b, tru_i, b_add, b_sub, b_mul, b_div, b_mod, b_pow, b_band, addD_ii, subD_ii, mulD_ii, modD_ii, divD_ii, powD_ii, bandD_ii, addD_tt, addD_ll, c_eq, c_ne, c_lt, c_le, c_gt, c_ge, c_is, c_isn, isD_bb, eqD_ii, eqD_ss, eqD_bb, ltD_ii, leD_ii, bi_len, bi_max, bi_min, bi_tup, bi_lst, bi_repr, bi_all, maxB_ii, minB_ii, lenB_1, tupB_1, lstB_1, reprB_1, allB_1, slD_t, slD_l, slD_f, slD_r, ints2_ii, popD_ri, AG.wipeD, asg_n, asg_t, asg_p, AG.setAll, atI_0, atI_1, atI_2, atI_3, ixN_30, ixN_31, ixN_32, List.set_cons_zero, List.set_cons_succ, List.getElem?_set_self, List.length_set, Bool.and_eq_true, decide_eq_true_eq, decide_eq_false_iff_not, bne_iff_ne, bne_eq_false_iff_eq, Int.toNat_natCast]
  rw [atI_of]
  obtain ⟨m, hm, hm1, hm9⟩ : ∃ m : Nat, ([D.int (1 + (u : Nat)), D.int (2 + (v : Nat))] : List D)[w]? = some (D.int (m : Nat)) ∧ 1 ≤ m ∧ m ≤ 9 := by
    have : w = 0 ∨ w = 1 := by omega
    rcases this with h | h <;> subst h
    · exact ⟨1 + u, by rw [Int.natCast_add]; rfl, by omega, by omega⟩
    · exact ⟨2 + v, by rw [Int.natCast_add]; rfl, by omega, by omega⟩
  refine ⟨_, hm, ?_⟩
  try simp only [runF, exs, ex, ev, evs, evt, evo, evi, evc, ok_bnd, ok_ret', ok_getV, ok_getC, ok_setC, ok_opt, ok_need, ok_ite, ok_mkLf, ok_mkLt, ok_notB, List.map_cons, List.map_nil, List.replicate_zero, List.replicate_succ, List.length_cons, List.length_nil, List.cons_append, List.nil_append, Nat.reduceSub, Nat.reduceAdd, List.getElem?_cons_zero, List.getElem?_cons_succ, Option.some.injEq, exists_eq_left', ixD_i, setIx_ri, appD_r, isC_r, items_tup, items_lst, items_fro, items_ref, tru_b, tru_i, b_add, b_sub, b_mul, b_div, b_mod, b_pow, b_band, addD_ii, subD_ii, mulD_ii, modD_ii, divD_ii, powD_ii, bandD_ii, addD_tt, addD_ll, c_eq, c_ne, c_lt, c_le, c_gt, c_ge, c_is, c_isn, isD_bb, eqD_ii, eqD_ss, eqD_bb, ltD_ii, leD_ii, bi_len, bi_max, bi_min, bi_tup, bi_lst, bi_repr, bi_all, maxB_ii, minB_ii, lenB_1, tupB_1, lstB_1, reprB_1, allB_1, slD_t, slD_l, slD_f, slD_r, ints2_ii, popD_ri, AG.wipeD, asg_n, asg_t, asg_p, AG.setAll, atI_0, atI_1, atI_2, atI_3, ixN_30, ixN_31, ixN_32, List.set_cons_zero, List.set_cons_succ, List.getElem?_set_self, List.length_set, Bool.and_eq_true, decide_eq_true_eq, decide_eq_false_iff_not, bne_iff_ne, bne_eq_false_iff_eq, Int.toNat_natCast]
  refine (hp S3 k _ 6 b3 (by omega) (by decide) (by decide)).mono fun d S4 ⟨cc, hd, hcc, b4, l4, f4⟩ => ?_
  subst hd
  try simp only [runF, exs, ex, ev, evs, evt, evo, evi, evc, ok_bnd, ok_ret', ok_getV, ok_getC, ok_setC, ok_opt, ok_need, ok_ite, ok_mkLf, ok_mkLt, ok_notB, List.map_cons, List.map_nil, List.replicate_zero, List.replicate_succ, List.length_cons, List.length_nil, List.cons_append, List.nil_append, Nat.reduceSub, Nat.reduceAdd, List.getElem?_cons_zero, List.getElem?_cons_succ, Option.some.injEq, exists_eq_left', ixD_i, setIx_ri, appD_r, isC_r, items_tup, items_lst, items_fro, items_ref, tru_b, tru_i, b_add, b_sub, b_mul, b_div, b_mod, b_pow, b_band, addD_ii, subD_ii, mulD_ii, modD_ii, divD_ii, powD_ii, bandD_ii, addD_tt, addD_ll, c_eq, c_ne, c_lt, c_le, c_gt, c_ge, c_is, c_isn, isD_bb, eqD_ii, eqD_ss, eqD_bb, ltD_ii, leD_ii, bi_len, bi_max, bi_min, bi_tup, bi_lst, bi_repr, bi_all, maxB_ii, minB_ii, lenB_1, tupB_1, lstB_1, reprB_1, allB_1, slD_t, slD_l, slD_f, slD_r, ints2_ii, popD_ri, AG.wipeD, asg_n, asg_t, asg_p, AG.setAll, atI_0, atI_1, atI_2, atI_3, ixN_30, ixN_31, ixN_32, List.set_cons_zero, List.set_cons_succ, List.getElem?_set_self, List.length_set, Bool.and_eq_true, decide_eq_true_eq, decide_eq_false_iff_not, bne_iff_ne, bne_eq_false_iff_eq, Int.toNat_natCast]
  have ec : (1 : Int) + (cc : Nat) = ((1 + cc : Nat) : Int) := by omega
  rw [ec]
  have hc6 : 1 + cc ≤ 6 := by omega
  have hc1 : 1 ≤ 1 + cc := by omega
  generalize 1 + cc = c at *
  refine ⟨by decide, okR_nat (by omega), ?_⟩
  have hk4 : k < S4.length := b4.lt
  have f04 : Fr k S S4 := ((f1.trans f2).trans f3).trans f4
  refine ok_for (fun j ρ S' => ∃ hs x4 x5 x6 x7, ρ = [some (.ref k), some (.int (m : Nat)), some (.int (c : Nat)), some (.ref S4.length), x4, x5, x6, x7] ∧ hs.length = j ∧ (∀ h ∈ hs, HaOk m c h) ∧ S'[S4.length]? = some (some (hs.map dH)) ∧ Bag S' k (n + 4 + j * 130) ∧ Fr k S4 S')
    ⟨[], _, _, _, _, rfl, rfl, (fun _ h => nomatch h), by rw [List.getElem?_append_right (Nat.le_refl _), Nat.sub_self]; rfl, (b4.app _).up (by omega), Fr.app _ _ _⟩ ?_ ?_
  · rintro j x ρ S5 hx ⟨hs, x4, x5, x6, x7, rfl, hj, hok, hcell, hbag, hfr⟩
    have hjc : j < c := by
      have := (List.getElem?_eq_some_iff.mp hx).1
      rw [rng_len] at this
      exact this
    refine ⟨_, rfl, ?_⟩
    simp only [runF, exs, ex, ev, evs, evt, evo, evi, evc, ok_bnd, ok_ret', ok_getV, ok_getC, ok_setC, ok_opt, ok_need, ok_ite, ok_mkLf, ok_mkLt, ok_notB, List.map_cons, List.map_nil, List.replicate_zero, List.replicate_succ, List.length_cons, List.length_nil, List.cons_append, List.nil_append, Nat.reduceSub, Nat.reduceAdd, List.getElem?_cons_zero, List.getElem?_cons_succ, Option.some.injEq, exists_eq_left', ixD_i, setIx_ri, appD_r, isC_r, items_tup, items_lst, items_fro, items_ref, tru_b, tru_i, b_add, b_sub, b_mul, b_div, b_mod, b_pow, b_band, addD_ii, subD_ii, mulD_ii, modD_ii, divD_ii, powD_ii, bandD_ii, addD_tt, addD_ll, c_eq, c_ne, c_lt, c_le, c_gt, c_ge, c_is, c_isn, isD_bb, eqD_ii, eqD_ss, eqD_bb, ltD_ii, leD_ii, bi_len, bi_max, bi_min, bi_tup, bi_lst, bi_repr, bi_all, maxB_ii, minB_ii, lenB_1, tupB_1, lstB_1, reprB_1, allB_1, slD_t, slD_l, slD_f, slD_r, ints2_ii, popD_ri, AG.wipeD, asg_n, asg_t, asg_p, AG.setAll, atI_0, atI_1, atI_2, atI_3, ixN_30, ixN_31, ixN_32, List.set_cons_zero, List.set_cons_succ, List.getElem?_set_self, List.length_set, Bool.and_eq_true, decide_eq_true_eq, decide_eq_false_iff_not, bne_iff_ne, bne_eq_false_iff_eq, Int.toNat_natCast]
    have hkc : k ≠ S4.length := by omega
    have keep : ∀ {A B : Sto}, Fr k A B → A[S4.length]? = some (some (hs.map dH)) → B[S4.length]? = some (some (hs.map dH)) := fun {A B} f e => by
      rw [f.at_ _ (List.getElem?_eq_some_iff.mp e).1 (Ne.symm hkc)]
      exact e
    refine ⟨by decide, ?_⟩
    refine (hp S5 k _ 2 hbag (by omega) (by decide) (by decide)).mono fun d S6 ⟨z, hd, hz, b5, l5, f5⟩ => ?_
    subst hd
    try simp only [runF, exs, ex, ev, evs, evt, evo, evi, evc, ok_bnd, ok_ret', ok_getV, ok_getC, ok_setC, ok_opt, ok_need, ok_ite, ok_mkLf, ok_mkLt, ok_notB, List.map_cons, List.map_nil, List.replicate_zero, List.replicate_succ, List.length_cons, List.length_nil, List.cons_append, List.nil_append, Nat.reduceSub, Nat.reduceAdd, List.getElem?_cons_zero, List.getElem?_cons_succ, Option.some.injEq, exists_eq_left', ixD_i, setIx_ri, appD_r, isC_r, items_tup, items_lst, items_fro, items_ref, tru_b, tru_i, b_add, b_sub, b_mul, b_div, b_mod, b_pow, b_band, addD_ii, subD_ii, mulD_ii, modD_ii, divD_ii, powD_ii, bandD_ii, addD_tt, addD_ll, c_eq, c_ne, c_lt, c_le, c_gt, c_ge, c_is, c_isn, isD_bb, eqD_ii, eqD_ss, eqD_bb, ltD_ii, leD_ii, bi_len, bi_max, bi_min, bi_tup, bi_lst, bi_repr, bi_all, maxB_ii, minB_ii, lenB_1, tupB_1, lstB_1, reprB_1, allB_1, slD_t, slD_l, slD_f, slD_r, ints2_ii, popD_ri, AG.wipeD, asg_n, asg_t, asg_p, AG.setAll, atI_0, atI_1, atI_2, atI_3, ixN_30, ixN_31, ixN_32, List.set_cons_zero, List.set_cons_succ, List.getElem?_set_self, List.length_set, Bool.and_eq_true, decide_eq_true_eq, decide_eq_false_iff_not, bne_iff_ne, bne_eq_false_iff_eq, Int.toNat_natCast]
    rw [atI_of]
    obtain ⟨q, hq, hq1, hq6⟩ : ∃ q : Nat, ([D.int 3, D.int 6] : List D)[z]? = some (D.int (q : Nat)) ∧ 1 ≤ q ∧ q ≤ 6 := by
      have : z = 0 ∨ z = 1 := by omega
      rcases this with h | h <;> subst h
      · exact ⟨3, rfl, by omega, by omega⟩
      · exact ⟨6, rfl, by omega, by omega⟩
    refine ⟨_, hq, ?_⟩
    try simp only [runF, exs, ex, ev, evs, evt, evo, evi, evc, ok_bnd, ok_ret', ok_getV, ok_getC, ok_setC, ok_opt, ok_need, ok_ite, ok_mkLf, ok_mkLt, ok_notB, List.map_cons, List.map_nil, List.replicate_zero, List.replicate_succ, List.length_cons, List.length_nil, List.cons_append, List.nil_append, Nat.reduceSub, Nat.reduceAdd, List.getElem?_cons_zero, List.getElem?_cons_succ, Option.some.injEq, exists_eq_left', ixD_i, setIx_ri, appD_r, isC_r, items_tup, items_lst, items_fro, items_ref, tru_b, tru_i, b_add, b_sub, b_mul, b_div, b_mod, b_pow, b_band, addD_ii, subD_ii, mulD_ii, modD_ii, divD_ii, powD_ii, bandD_ii, addD_tt, addD_ll, c_eq, c_ne, c_lt, c_le, c_gt, c_ge, c_is, c_isn, isD_bb, eqD_ii, eqD_ss, eqD_bb, ltD_ii, leD_ii, bi_len, bi_max, bi_min, bi_tup, bi_lst, bi_repr, bi_all, maxB_ii, minB_ii, lenB_1, tupB_1, lstB_1, reprB_1, allB_1, slD_t, slD_l, slD_f, slD_r, ints2_ii, popD_ri, AG.wipeD, asg_n, asg_t, asg_p, AG.setAll, atI_0, atI_1, atI_2, atI_3, ixN_30, ixN_31, ixN_32, List.set_cons_zero, List.set_cons_succ, List.getElem?_set_self, List.length_set, Bool.and_eq_true, decide_eq_true_eq, decide_eq_false_iff_not, bne_iff_ne, bne_eq_false_iff_eq, Int.toNat_natCast]
    refine (hp S6 k _ q b5 (by omega) (by omega) (by omega)).mono fun d S7 ⟨g, hd, hg, b6, l6, f6⟩ => ?_
    subst hd
    try simp only [runF, exs, ex, ev, evs, evt, evo, evi, evc, ok_bnd, ok_ret', ok_getV, ok_getC, ok_setC, ok_opt, ok_need, ok_ite, ok_mkLf, ok_mkLt, ok_notB, List.map_cons, List.map_nil, List.replicate_zero, List.replicate_succ, List.length_cons, List.length_nil, List.cons_append, List.nil_append, Nat.reduceSub, Nat.reduceAdd, List.getElem?_cons_zero, List.getElem?_cons_succ, Option.some.injEq, exists_eq_left', ixD_i, setIx_ri, appD_r, isC_r, items_tup, items_lst, items_fro, items_ref, tru_b, tru_i, b_add, b_sub, b_mul, b_div, b_mod, b_pow, b_band, addD_ii, subD_ii, mulD_ii, modD_ii, divD_ii, powD_ii, bandD_ii, addD_tt, addD_ll, c_eq, c_ne, c_lt, c_le, c_gt, c_ge, c_is, c_isn, isD_bb, eqD_ii, eqD_ss, eqD_bb, ltD_ii, leD_ii, bi_len, bi_max, bi_min, bi_tup, bi_lst, bi_repr, bi_all, maxB_ii, minB_ii, lenB_1, tupB_1, lstB_1, reprB_1, allB_1, slD_t, slD_l, slD_f, slD_r, ints2_ii, popD_ri, AG.wipeD, asg_n, asg_t, asg_p, AG.setAll, atI_0, atI_1, atI_2, atI_3, ixN_30, ixN_31, ixN_32, List.set_cons_zero, List.set_cons_succ, List.getElem?_set_self, List.length_set, Bool.and_eq_true, decide_eq_true_eq, decide_eq_false_iff_not, bne_iff_ne, bne_eq_false_iff_eq, Int.toNat_natCast]
    refine ⟨okR_nat (by omega), ?_⟩
    refine ok_lc (fun i acc S' => ∃ rs : List Ru, acc = rs.map dR ∧ rs.length = i ∧ (∀ r ∈ rs, RuOk m c r) ∧ Bag S' k (n + 4 + j * 130 + 2 + i * 20) ∧ S'[S4.length]? = some (some (hs.map dH)) ∧ Fr k S4 S')
      ⟨[], rfl, rfl, (fun _ h => nomatch h), b6, keep f6 (keep f5 hcell), (hfr.trans f5).trans f6⟩ (by rw [rng_len]; omega) ?_ ?_
    · rintro i y acc S8 hy hacc ⟨rs, e1, e2, e3, e4, e5, efr⟩
      have hig : i < g := by
        have := (List.getElem?_eq_some_iff.mp hy).1
        rw [rng_len] at this
        exact this
      refine ⟨_, rfl, ?_⟩
      try simp only [runF, exs, ex, ev, evs, evt, evo, evi, evc, ok_bnd, ok_ret', ok_getV, ok_getC, ok_setC, ok_opt, ok_need, ok_ite, ok_mkLf, ok_mkLt, ok_notB, List.map_cons, List.map_nil, List.replicate_zero, List.replicate_succ, List.length_cons, List.length_nil, List.cons_append, List.nil_append, Nat.reduceSub, Nat.reduceAdd, List.getElem?_cons_zero, List.getElem?_cons_succ, Option.some.injEq, exists_eq_left', ixD_i, setIx_ri, appD_r, isC_r, items_tup, items_lst, items_fro, items_ref, tru_b, tru_i, b_add, b_sub, b_mul, b_div, b_mod, b_pow, b_band, addD_ii, subD_ii, mulD_ii, modD_ii, divD_ii, powD_ii, bandD_ii, addD_tt, addD_ll, c_eq, c_ne, c_lt, c_le, c_gt, c_ge, c_is, c_isn, isD_bb, eqD_ii, eqD_ss, eqD_bb, ltD_ii, leD_ii, bi_len, bi_max, bi_min, bi_tup, bi_lst, bi_repr, bi_all, maxB_ii, minB_ii, lenB_1, tupB_1, lstB_1, reprB_1, allB_1, slD_t, slD_l, slD_f, slD_r, ints2_ii, popD_ri, AG.wipeD, asg_n, asg_t, asg_p, AG.setAll, atI_0, atI_1, atI_2, atI_3, ixN_30, ixN_31, ixN_32, List.set_cons_zero, List.set_cons_succ, List.getElem?_set_self, List.length_set, Bool.and_eq_true, decide_eq_true_eq, decide_eq_false_iff_not, bne_iff_ne, bne_eq_false_iff_eq, Int.toNat_natCast]
      refine (show Ok (Φ "_law_rule" [.ref k, .int (m : Nat), .int (c : Nat), .int 0]) S8 _ from hr S8 k _ m c 0 e4 (by omega) hm1 hm9 hc1 hc6 (by omega)).mono fun d S9 ⟨r, hd, hro, _, b9, f9⟩ => ?_
      subst hd
      refine ⟨rs ++ [r], by rw [e1, List.map_append]; rfl, by rw [List.length_append, e2]; rfl, ?_, b9.up (by omega), keep f9 e5, efr.trans f9⟩
      intro x hx
      rcases List.mem_append.mp hx with h | h
      · exact e3 x h
      · rw [List.mem_singleton.mp h]; exact hro
    · rintro acc S8 hacc ⟨rs, e1, e2, e3, e4, e5, efr⟩
      rw [rng_len] at *
      subst e1
      try simp only [runF, exs, ex, ev, evs, evt, evo, evi, evc, ok_bnd, ok_ret', ok_getV, ok_getC, ok_setC, ok_opt, ok_need, ok_ite, ok_mkLf, ok_mkLt, ok_notB, List.map_cons, List.map_nil, List.replicate_zero, List.replicate_succ, List.length_cons, List.length_nil, List.cons_append, List.nil_append, Nat.reduceSub, Nat.reduceAdd, List.getElem?_cons_zero, List.getElem?_cons_succ, Option.some.injEq, exists_eq_left', ixD_i, setIx_ri, appD_r, isC_r, items_tup, items_lst, items_fro, items_ref, tru_b, tru_i, b_add, b_sub, b_mul, b_div, b_mod, b_pow, b_band, addD_ii, subD_ii, mulD_ii, modD_ii, divD_ii, powD_ii, bandD_ii, addD_tt, addD_ll, c_eq, c_ne, c_lt, c_le, c_gt, c_ge, c_is, c_isn, isD_bb, eqD_ii, eqD_ss, eqD_bb, ltD_ii, leD_ii, bi_len, bi_max, bi_min, bi_tup, bi_lst, bi_repr, bi_all, maxB_ii, minB_ii, lenB_1, tupB_1, lstB_1, reprB_1, allB_1, slD_t, slD_l, slD_f, slD_r, ints2_ii, popD_ri, AG.wipeD, asg_n, asg_t, asg_p, AG.setAll, atI_0, atI_1, atI_2, atI_3, ixN_30, ixN_31, ixN_32, List.set_cons_zero, List.set_cons_succ, List.getElem?_set_self, List.length_set, Bool.and_eq_true, decide_eq_true_eq, decide_eq_false_iff_not, bne_iff_ne, bne_eq_false_iff_eq, Int.toNat_natCast]
      refine ⟨_, e5, ?_⟩
      refine (show Ok (Φ "_law_rule" [.ref k, .int (m : Nat), .int (c : Nat), .int 1]) S8 _ from hr S8 k _ m c 1 e4 (by omega) hm1 hm9 hc1 hc6 (by omega)).mono fun d S9 ⟨r, hd, hro, hr1, b9, f9⟩ => ?_
      subst hd
      have e9 := keep f9 e5
      refine ⟨by decide, ⟨by unfold small; exact decide_eq_true (by rw [List.length_map]; omega), by decide⟩, _, e9, by unfold small; exact decide_eq_true (by rw [List.length_map]; omega), _, e9, hs ++ [rs ++ [r]], _, _, _, _, rfl, by rw [List.length_append, hj]; rfl, ?_, ?_, ?_, ?_⟩
      · intro h hh
        rcases List.mem_append.mp hh with h1 | h1
        · exact hok h h1
        · rw [List.mem_singleton.mp h1]
          refine ⟨by rw [List.length_append]; simp, by rw [List.length_append, e2]; show _ + 1 ≤ 6; omega, ?_, r, by rw [List.getLast?_append]; rfl, hr1 rfl⟩
          intro x hx
          rcases List.mem_append.mp hx with h | h
          · exact e3 x h
          · rw [List.mem_singleton.mp h]; exact hro
      · rw [set_at e9, List.map_append]
        congr 3
        show [D.tup (rs.map dR ++ [dR r])] = [dH (rs ++ [r])]
        unfold dH
        rw [List.map_append]
        rfl
      · obtain ⟨a, b, cx, e, h0⟩ := (b9.up (m := n + 4 + (j + 1) * 130) (by omega)).ex
        exact ⟨a, b, cx, by rw [List.getElem?_set_ne (by omega)]; exact e, h0⟩
      · exact fr_set (efr.trans f9) (Nat.le_refl _)
  · rintro ρ S' ⟨hs, x4, x5, x6, x7, rfl, hj, hok, hcell, hbag, hfr⟩
    rw [rng_len] at *
    have hj : hs.length = c := hj
    have hset : setlD [some (D.ref k), some (D.int (m : Nat)), some (D.int (c : Nat)), some (D.ref (List.length S4)), x4, x5, x6, x7] 3 S' = .ok [some (D.ref k), some (D.int (m : Nat)), some (D.int (c : Nat)), some (D.lst (hs.map dH)), x4, x5, x6, x7] (S'.set S4.length none) := by
      unfold setlD
      simp only [List.getElem?_cons_succ, List.getElem?_cons_zero, hcell]
      rfl
    have hb9 : Bag (S'.set S4.length none) k (n + 4 + c * 130) := by
      obtain ⟨a, b, cx, e, h0⟩ := hbag.ex
      exact ⟨a, b, cx, by rw [List.getElem?_set_ne (by omega)]; exact e, h0⟩
    have hfr9 : Fr k S (S'.set S4.length none) := f04.trans (fr_set hfr (Nat.le_refl _))
    simp only [runF, exs, ex, ev, evs, evt, evo, evi, evc, ok_bnd, ok_ret', ok_getV, ok_getC, ok_setC, ok_opt, ok_need, ok_ite, ok_mkLf, ok_mkLt, ok_notB, List.map_cons, List.map_nil, List.replicate_zero, List.replicate_succ, List.length_cons, List.length_nil, List.cons_append, List.nil_append, Nat.reduceSub, Nat.reduceAdd, List.getElem?_cons_zero, List.getElem?_cons_succ, Option.some.injEq, exists_eq_left', ixD_i, setIx_ri, appD_r, isC_r, items_tup, items_lst, items_fro, items_ref, tru_b, tru_i, b_add, b_sub, b_mul, b_div, b_mod, b_pow, b_band, addD_ii, subD_ii, mulD_ii, modD_ii, divD_ii, powD_ii, bandD_ii, addD_tt, addD_ll, c_eq, c_ne, c_lt, c_le, c_gt, c_ge, c_is, c_isn, isD_bb, eqD_ii, eqD_ss, eqD_bb, ltD_ii, leD_ii, bi_len, bi_max, bi_min, bi_tup, bi_lst, bi_repr, bi_all, maxB_ii, minB_ii, lenB_1, tupB_1, lstB_1, reprB_1, allB_1, slD_t, slD_l, slD_f, slD_r, ints2_ii, popD_ri, AG.wipeD, asg_n, asg_t, asg_p, AG.setAll, atI_0, atI_1, atI_2, atI_3, ixN_30, ixN_31, ixN_32, List.set_cons_zero, List.set_cons_succ, List.getElem?_set_self, List.length_set, Bool.and_eq_true, decide_eq_true_eq, decide_eq_false_iff_not, bne_iff_ne, bne_eq_false_iff_eq, Int.toNat_natCast]
    refine ⟨_, _, hset, ?_⟩
    refine ⟨_, rfl, ?_⟩
    refine (hl _ m c hs (fun h hh r hr => (hok h hh).ru r hr)).mono fun d S9 ⟨hd, hS⟩ => ?_
    subst hd hS
    simp only [runF, exs, ex, ev, evs, evt, evo, evi, evc, ok_bnd, ok_ret', ok_getV, ok_getC, ok_setC, ok_opt, ok_need, ok_ite, ok_mkLf, ok_mkLt, ok_notB, List.map_cons, List.map_nil, List.replicate_zero, List.replicate_succ, List.length_cons, List.length_nil, List.cons_append, List.nil_append, Nat.reduceSub, Nat.reduceAdd, List.getElem?_cons_zero, List.getElem?_cons_succ, Option.some.injEq, exists_eq_left', ixD_i, setIx_ri, appD_r, isC_r, items_tup, items_lst, items_fro, items_ref, tru_b, tru_i, b_add, b_sub, b_mul, b_div, b_mod, b_pow, b_band, addD_ii, subD_ii, mulD_ii, modD_ii, divD_ii, powD_ii, bandD_ii, addD_tt, addD_ll, c_eq, c_ne, c_lt, c_le, c_gt, c_ge, c_is, c_isn, isD_bb, eqD_ii, eqD_ss, eqD_bb, ltD_ii, leD_ii, bi_len, bi_max, bi_min, bi_tup, bi_lst, bi_repr, bi_all, maxB_ii, minB_ii, lenB_1, tupB_1, lstB_1, reprB_1, allB_1, slD_t, slD_l, slD_f, slD_r, ints2_ii, popD_ri, AG.wipeD, asg_n, asg_t, asg_p, AG.setAll, atI_0, atI_1, atI_2, atI_3, ixN_30, ixN_31, ixN_32, List.set_cons_zero, List.set_cons_succ, List.getElem?_set_self, List.length_set, Bool.and_eq_true, decide_eq_true_eq, decide_eq_false_iff_not, bne_iff_ne, bne_eq_false_iff_eq, Int.toNat_natCast]
    constructor
    · intro hbig
      refine ok_lc (fun i acc S9 => acc = ((hs.take i).map fun h => dH (h.map tam)) ∧ Bag S9 k (n + 4 + c * 130) ∧ Fr k S S9) ⟨rfl, hb9, hfr9⟩ (by rw [List.length_map]; omega) ?_ ?_
      · rintro i y acc S9 hy hacc ⟨e1, e2, e3⟩
        rw [List.getElem?_map] at hy
        obtain ⟨h, hh, rfl⟩ := Option.map_eq_some_iff.mp hy
        have ho := hok h (List.mem_of_getElem? hh)
        have hl6 := ho.l6
        refine ⟨_, rfl, ?_⟩
        try simp only [runF, exs, ex, ev, evs, evt, evo, evi, evc, ok_bnd, ok_ret', ok_getV, ok_getC, ok_setC, ok_opt, ok_need, ok_ite, ok_mkLf, ok_mkLt, ok_notB, List.map_cons, List.map_nil, List.replicate_zero, List.replicate_succ, List.length_cons, List.length_nil, List.cons_append, List.nil_append, Nat.reduceSub, Nat.reduceAdd, List.getElem?_cons_zero, List.getElem?_cons_succ, Option.some.injEq, exists_eq_left', ixD_i, setIx_ri, appD_r, isC_r, items_tup, items_lst, items_fro, items_ref, tru_b, tru_i, b_add, b_sub, b_mul, b_div, b_mod, b_pow, b_band, addD_ii, subD_ii, mulD_ii, modD_ii, divD_ii, powD_ii, bandD_ii, addD_tt, addD_ll, c_eq, c_ne, c_lt, c_le, c_gt, c_ge, c_is, c_isn, isD_bb, eqD_ii, eqD_ss, eqD_bb, ltD_ii, leD_ii, bi_len, bi_max, bi_min, bi_tup, bi_lst, bi_repr, bi_all, maxB_ii, minB_ii, lenB_1, tupB_1, lstB_1, reprB_1, allB_1, slD_t, slD_l, slD_f, slD_r, ints2_ii, popD_ri, AG.wipeD, asg_n, asg_t, asg_p, AG.setAll, atI_0, atI_1, atI_2, atI_3, ixN_30, ixN_31, ixN_32, List.set_cons_zero, List.set_cons_succ, List.getElem?_set_self, List.length_set, Bool.and_eq_true, decide_eq_true_eq, decide_eq_false_iff_not, bne_iff_ne, bne_eq_false_iff_eq, Int.toNat_natCast]
        refine (ht S9 m c h ho.ru (by omega)).mono fun d S10 ⟨hd, x, hS⟩ => ?_
        subst hd hS
        exact ⟨by rw [e1, List.take_add_one, hh, List.map_append]; rfl, e2.app _, e3.trans (Fr.app _ _ _)⟩
      · rintro acc S9 hacc ⟨e1, e2, e3⟩
        rw [List.length_map, List.take_of_length_le (Nat.le_refl _)] at e1
        subst e1
        try simp only [runF, exs, ex, ev, evs, evt, evo, evi, evc, ok_bnd, ok_ret', ok_getV, ok_getC, ok_setC, ok_opt, ok_need, ok_ite, ok_mkLf, ok_mkLt, ok_notB, List.map_cons, List.map_nil, List.replicate_zero, List.replicate_succ, List.length_cons, List.length_nil, List.cons_append, List.nil_append, Nat.reduceSub, Nat.reduceAdd, List.getElem?_cons_zero, List.getElem?_cons_succ, Option.some.injEq, exists_eq_left', ixD_i, setIx_ri, appD_r, isC_r, items_tup, items_lst, items_fro, items_ref, tru_b, tru_i, b_add, b_sub, b_mul, b_div, b_mod, b_pow, b_band, addD_ii, subD_ii, mulD_ii, modD_ii, divD_ii, powD_ii, bandD_ii, addD_tt, addD_ll, c_eq, c_ne, c_lt, c_le, c_gt, c_ge, c_is, c_isn, isD_bb, eqD_ii, eqD_ss, eqD_bb, ltD_ii, leD_ii, bi_len, bi_max, bi_min, bi_tup, bi_lst, bi_repr, bi_all, maxB_ii, minB_ii, lenB_1, tupB_1, lstB_1, reprB_1, allB_1, slD_t, slD_l, slD_f, slD_r, ints2_ii, popD_ri, AG.wipeD, asg_n, asg_t, asg_p, AG.setAll, atI_0, atI_1, atI_2, atI_3, ixN_30, ixN_31, ixN_32, List.set_cons_zero, List.set_cons_succ, List.getElem?_set_self, List.length_set, Bool.and_eq_true, decide_eq_true_eq, decide_eq_false_iff_not, bne_iff_ne, bne_eq_false_iff_eq, Int.toNat_natCast]
        refine ⟨okR_nat (by omega), ?_⟩
        refine before_run hp e2 (by omega) hm1 hm9 hc6 rfl rfl fun us S10 hu1 hu2 hu3 hu4 => ?_
        try simp only [runF, exs, ex, ev, evs, evt, evo, evi, evc, ok_bnd, ok_ret', ok_getV, ok_getC, ok_setC, ok_opt, ok_need, ok_ite, ok_mkLf, ok_mkLt, ok_notB, List.map_cons, List.map_nil, List.replicate_zero, List.replicate_succ, List.length_cons, List.length_nil, List.cons_append, List.nil_append, Nat.reduceSub, Nat.reduceAdd, List.getElem?_cons_zero, List.getElem?_cons_succ, Option.some.injEq, exists_eq_left', ixD_i, setIx_ri, appD_r, isC_r, items_tup, items_lst, items_fro, items_ref, tru_b, tru_i, b_add, b_sub, b_mul, b_div, b_mod, b_pow, b_band, addD_ii, subD_ii, mulD_ii, modD_ii, divD_ii, powD_ii, bandD_ii, addD_tt, addD_ll, c_eq, c_ne, c_lt, c_le, c_gt, c_ge, c_is, c_isn, isD_bb, eqD_ii, eqD_ss, eqD_bb, ltD_ii, leD_ii, bi_len, bi_max, bi_min, bi_tup, bi_lst, bi_repr, bi_all, maxB_ii, minB_ii, lenB_1, tupB_1, lstB_1, reprB_1, allB_1, slD_t, slD_l, slD_f, slD_r, ints2_ii, popD_ri, AG.wipeD, asg_n, asg_t, asg_p, AG.setAll, atI_0, atI_1, atI_2, atI_3, ixN_30, ixN_31, ixN_32, List.set_cons_zero, List.set_cons_succ, List.getElem?_set_self, List.length_set, Bool.and_eq_true, decide_eq_true_eq, decide_eq_false_iff_not, bne_iff_ne, bne_eq_false_iff_eq, Int.toNat_natCast]
        have emap : (hs.map fun h => dH (h.map tam)) = (hs.map (List.map tam)).map dH := by rw [List.map_map]; rfl
        rw [emap]
        refine ⟨by decide, ⟨m, us, hs.map (List.map tam)⟩, rfl, ⟨hm1, hm9, by show 1 ≤ (hs.map (List.map tam)).length; rw [List.length_map]; omega, by show (hs.map (List.map tam)).length ≤ 6; rw [List.length_map]; omega, ?_, by show us.length = (hs.map (List.map tam)).length; rw [List.length_map]; omega, hu2, ?_⟩, hu3.up (by omega), e3.trans hu4⟩
        · intro h hh
          obtain ⟨h', hh', rfl⟩ := List.mem_map.mp hh
          show HaOk m (hs.map (List.map tam)).length _
          rw [List.length_map, hj]
          exact tam_ha (hok h' hh')
        · show weC 1 (hs.map (List.map tam)) ≤ 240
          have hd : weC 1 (hs.map (List.map tam)) ∣ 72 := weC_dvd _ 1 (by decide) fun h hh r hr => by
            obtain ⟨h', hh', rfl⟩ := List.mem_map.mp hh
            obtain ⟨r', hr', rfl⟩ := List.mem_map.mp hr
            exact (tam_ok ((hok h' hh').ru r' hr')).2.1
          have := Nat.le_of_dvd (by decide) hd
          omega
    · intro hsm
      have hsm : hs.foldl (fun c h => h.foldl rC c) 1 ≤ 240 := by omega
      refine ⟨okR_nat (by omega), ?_⟩
      refine before_run hp hb9 (by omega) hm1 hm9 hc6 rfl rfl fun us S10 hu1 hu2 hu3 hu4 => ?_
      try simp only [runF, exs, ex, ev, evs, evt, evo, evi, evc, ok_bnd, ok_ret', ok_getV, ok_getC, ok_setC, ok_opt, ok_need, ok_ite, ok_mkLf, ok_mkLt, ok_notB, List.map_cons, List.map_nil, List.replicate_zero, List.replicate_succ, List.length_cons, List.length_nil, List.cons_append, List.nil_append, Nat.reduceSub, Nat.reduceAdd, List.getElem?_cons_zero, List.getElem?_cons_succ, Option.some.injEq, exists_eq_left', ixD_i, setIx_ri, appD_r, isC_r, items_tup, items_lst, items_fro, items_ref, tru_b, tru_i, b_add, b_sub, b_mul, b_div, b_mod, b_pow, b_band, addD_ii, subD_ii, mulD_ii, modD_ii, divD_ii, powD_ii, bandD_ii, addD_tt, addD_ll, c_eq, c_ne, c_lt, c_le, c_gt, c_ge, c_is, c_isn, isD_bb, eqD_ii, eqD_ss, eqD_bb, ltD_ii, leD_ii, bi_len, bi_max, bi_min, bi_tup, bi_lst, bi_repr, bi_all, maxB_ii, minB_ii, lenB_1, tupB_1, lstB_1, reprB_1, allB_1, slD_t, slD_l, slD_f, slD_r, ints2_ii, popD_ri, AG.wipeD, asg_n, asg_t, asg_p, AG.setAll, atI_0, atI_1, atI_2, atI_3, ixN_30, ixN_31, ixN_32, List.set_cons_zero, List.set_cons_succ, List.getElem?_set_self, List.length_set, Bool.and_eq_true, decide_eq_true_eq, decide_eq_false_iff_not, bne_iff_ne, bne_eq_false_iff_eq, Int.toNat_natCast]
      refine ⟨by decide, ⟨m, us, hs⟩, rfl, ⟨hm1, hm9, by show 1 ≤ hs.length; omega, by show hs.length ≤ 6; omega, fun h hh => by show HaOk m hs.length h; rw [hj]; exact hok h hh, by show us.length = hs.length; omega, hu2, ?_⟩, hu3.up (by omega), hfr9.trans hu4⟩
      show weC 1 hs ≤ 240
      rw [← rC_eqs hs 1 hsm]
      exact hsm
end
end AGL
namespace AGL
open PySem AG
theorem c_haC : ∀ (h : List Ru) (c : Nat), c ∣ haC c h
  | [], c => Nat.dvd_refl c
  | r :: h, c => Nat.dvd_trans (Nat.dvd_lcm_left c (ruC r)) (c_haC h _)
theorem r_haC : ∀ (h : List Ru) (c : Nat) (r : Ru), r ∈ h → ruC r ∣ haC c h
  | [], _, _, h => nomatch h
  | x :: h, c, r, hr => by
    rcases List.mem_cons.mp hr with e | e
    · subst e
      exact Nat.dvd_trans (Nat.dvd_lcm_right c (ruC r)) (c_haC h _)
    · exact r_haC h _ r e
theorem c_weC : ∀ (hs : List (List Ru)) (c : Nat), c ∣ weC c hs
  | [], c => Nat.dvd_refl c
  | h :: hs, c => Nat.dvd_trans (c_haC h c) (c_weC hs _)
theorem r_weC : ∀ (hs : List (List Ru)) (c : Nat) (h : List Ru) (r : Ru), h ∈ hs → r ∈ h → ruC r ∣ weC c hs
  | [], _, _, _, h, _ => nomatch h
  | x :: hs, c, h, r, hh, hr => by
    rcases List.mem_cons.mp hh with e | e
    · subst e
      exact Nat.dvd_trans (r_haC h c r hr) (c_weC hs _)
    · exact r_weC hs _ h r e hr
theorem haC_pos {m c0 : Nat} : ∀ (h : List Ru) (c : Nat), 1 ≤ c → (∀ r ∈ h, RuOk m c0 r) → 1 ≤ haC c h
  | [], _, hc, _ => hc
  | r :: h, c, hc, ho => haC_pos h _ (Nat.lcm_pos hc (ruC_b (ho r (List.mem_cons_self ..))).1) fun x hx => ho x (List.mem_cons_of_mem _ hx)
theorem weC_pos {m c0 : Nat} : ∀ (hs : List (List Ru)) (c : Nat), 1 ≤ c → (∀ h ∈ hs, ∀ r ∈ h, RuOk m c0 r) → 1 ≤ weC c hs
  | [], _, hc, _ => hc
  | h :: hs, c, hc, ho => weC_pos hs _ (haC_pos h c hc (ho h (List.mem_cons_self ..))) fun x hx => ho x (List.mem_cons_of_mem _ hx)
def RcW (F : List D → M D) : Prop := ∀ (S : Sto) (m c : Nat) (r : Ru), RuOk m c r → Ok (F [dR r]) S fun d S' => d = .int (ruC r : Nat) ∧ S' = S
def ClW (F : List D → M D) : Prop := ∀ (S : Sto) (w : We), WeOk w → Ok (F [dWe w]) S fun d S' => d = .int (weC 1 w.hands : Nat) ∧ S' = S
section
variable {Φ : String → List D → M D} {fu : Nat}
theorem rclock_run : RcW (runF Φ fu 4 b_rule_clock) := by
  intro S m c r hr
  obtain ⟨evn, at_, wh⟩ := r
  have h12 : evn ≤ 12 := hr.e12
  cases wh with
  | own row =>
    obtain ⟨w1, w6, _⟩ := hr.wh
    simp only [b_rule_clock, dR, dW, tN, runF, exs, ex, ev, evs, evt, evo, evi, evc, ok_bnd, ok_ret', ok_getV, ok_getC, ok_setC, ok_opt, ok_need, ok_ite, ok_mkLf, ok_mkLt, ok_notB, List.map_cons, List.map_nil, List.replicate_zero, List.replicate_succ, List.length_cons, List.length_nil, List.cons_append, List.nil_append, Nat.reduceSub, Nat.reduceAdd, List.getElem?_cons_zero, List.getElem?_cons_succ, Option.some.injEq, exists_eq_left', ixD_i, setIx_ri, appD_r, isC_r, items_tup, items_lst, items_fro, items_ref, tru_b, tru_i, b_add, b_sub, b_mul, b_div, b_mod, b_pow, b_band, addD_ii, subD_ii, mulD_ii, modD_ii, divD_ii, powD_ii, bandD_ii, addD_tt, addD_ll, c_eq, c_ne, c_lt, c_le, c_gt, c_ge, c_is, c_isn, isD_bb, eqD_ii, eqD_ss, eqD_bb, ltD_ii, leD_ii, bi_len, bi_max, bi_min, bi_tup, bi_lst, bi_repr, bi_all, maxB_ii, minB_ii, lenB_1, tupB_1, lstB_1, reprB_1, allB_1, slD_t, slD_l, slD_f, slD_r, ints2_ii, popD_ri, AG.wipeD, asg_n, asg_t, asg_p, AG.setAll, atI_0, atI_1, atI_2, atI_3, ixN_30, ixN_31, ixN_32, List.set_cons_zero, List.set_cons_succ, List.getElem?_set_self, List.length_set, Bool.and_eq_true, decide_eq_true_eq, decide_eq_false_iff_not, bne_iff_ne, bne_eq_false_iff_eq, Int.toNat_natCast, List.length_map]
    refine ⟨fun _ => ⟨⟨big_nat (by omega), big_nat (by omega)⟩, ?_, trivial⟩, fun z => absurd trivial z⟩
    rw [← Int.natCast_mul]
    rfl
  | cop a b t =>
    simp only [b_rule_clock, dR, dW, tN, runF, exs, ex, ev, evs, evt, evo, evi, evc, ok_bnd, ok_ret', ok_getV, ok_getC, ok_setC, ok_opt, ok_need, ok_ite, ok_mkLf, ok_mkLt, ok_notB, List.map_cons, List.map_nil, List.replicate_zero, List.replicate_succ, List.length_cons, List.length_nil, List.cons_append, List.nil_append, Nat.reduceSub, Nat.reduceAdd, List.getElem?_cons_zero, List.getElem?_cons_succ, Option.some.injEq, exists_eq_left', ixD_i, setIx_ri, appD_r, isC_r, items_tup, items_lst, items_fro, items_ref, tru_b, tru_i, b_add, b_sub, b_mul, b_div, b_mod, b_pow, b_band, addD_ii, subD_ii, mulD_ii, modD_ii, divD_ii, powD_ii, bandD_ii, addD_tt, addD_ll, c_eq, c_ne, c_lt, c_le, c_gt, c_ge, c_is, c_isn, isD_bb, eqD_ii, eqD_ss, eqD_bb, ltD_ii, leD_ii, bi_len, bi_max, bi_min, bi_tup, bi_lst, bi_repr, bi_all, maxB_ii, minB_ii, lenB_1, tupB_1, lstB_1, reprB_1, allB_1, slD_t, slD_l, slD_f, slD_r, ints2_ii, popD_ri, AG.wipeD, asg_n, asg_t, asg_p, AG.setAll, atI_0, atI_1, atI_2, atI_3, ixN_30, ixN_31, ixN_32, List.set_cons_zero, List.set_cons_succ, List.getElem?_set_self, List.length_set, Bool.and_eq_true, decide_eq_true_eq, decide_eq_false_iff_not, bne_iff_ne, bne_eq_false_iff_eq, Int.toNat_natCast]
    exact ⟨fun z => absurd z (by decide), fun _ => ⟨rfl, trivial⟩⟩
theorem clock_run (hc : RcW (Φ "_rule_clock")) : ClW (runF Φ fu 4 b_clock) := by
  intro S w hw
  have hN1 : 1 ≤ weC 1 w.hands := weC_pos (m := w.many) (c0 := w.hands.length) _ _ (by omega) fun h hh r hr => (hw.ha h hh).ru r hr
  have hN := hw.ck
  simp only [b_clock, dWe, runF, exs, ex, ev, evs, evt, evo, evi, evc, ok_bnd, ok_ret', ok_getV, ok_getC, ok_setC, ok_opt, ok_need, ok_ite, ok_mkLf, ok_mkLt, ok_notB, List.map_cons, List.map_nil, List.replicate_zero, List.replicate_succ, List.length_cons, List.length_nil, List.cons_append, List.nil_append, Nat.reduceSub, Nat.reduceAdd, List.getElem?_cons_zero, List.getElem?_cons_succ, Option.some.injEq, exists_eq_left', ixD_i, setIx_ri, appD_r, isC_r, items_tup, items_lst, items_fro, items_ref, tru_b, tru_i, b_add, b_sub, b_mul, b_div, b_mod, b_pow, b_band, addD_ii, subD_ii, mulD_ii, modD_ii, divD_ii, powD_ii, bandD_ii, addD_tt, addD_ll, c_eq, c_ne, c_lt, c_le, c_gt, c_ge, c_is, c_isn, isD_bb, eqD_ii, eqD_ss, eqD_bb, ltD_ii, leD_ii, bi_len, bi_max, bi_min, bi_tup, bi_lst, bi_repr, bi_all, maxB_ii, minB_ii, lenB_1, tupB_1, lstB_1, reprB_1, allB_1, slD_t, slD_l, slD_f, slD_r, ints2_ii, popD_ri, AG.wipeD, asg_n, asg_t, asg_p, AG.setAll, atI_0, atI_1, atI_2, atI_3, ixN_30, ixN_31, ixN_32, List.set_cons_zero, List.set_cons_succ, List.getElem?_set_self, List.length_set, Bool.and_eq_true, decide_eq_true_eq, decide_eq_false_iff_not, bne_iff_ne, bne_eq_false_iff_eq, Int.toNat_natCast]
  refine ok_for (fun j ρ S' => S' = S ∧ ∃ x2 x3 b, b = (w.hands.take j).foldl haC 1 ∧ b ∣ weC 1 w.hands ∧ ρ = [some (dWe w), some (.int (b : Nat)), x2, x3]) ⟨rfl, _, _, 1, rfl, Nat.one_dvd _, rfl⟩ ?_ ?_
  · rintro j x ρ S' hx ⟨rfl, x2, x3, b, hb, hbd, rfl⟩
    rw [List.getElem?_map] at hx
    obtain ⟨h, hh, rfl⟩ := Option.map_eq_some_iff.mp hx
    have hmem := List.mem_of_getElem? hh
    refine ⟨_, rfl, ?_⟩
    rw [show dH h = D.tup (h.map dR) from rfl]
    try simp only [runF, exs, ex, ev, evs, evt, evo, evi, evc, ok_bnd, ok_ret', ok_getV, ok_getC, ok_setC, ok_opt, ok_need, ok_ite, ok_mkLf, ok_mkLt, ok_notB, List.map_cons, List.map_nil, List.replicate_zero, List.replicate_succ, List.length_cons, List.length_nil, List.cons_append, List.nil_append, Nat.reduceSub, Nat.reduceAdd, List.getElem?_cons_zero, List.getElem?_cons_succ, Option.some.injEq, exists_eq_left', ixD_i, setIx_ri, appD_r, isC_r, items_tup, items_lst, items_fro, items_ref, tru_b, tru_i, b_add, b_sub, b_mul, b_div, b_mod, b_pow, b_band, addD_ii, subD_ii, mulD_ii, modD_ii, divD_ii, powD_ii, bandD_ii, addD_tt, addD_ll, c_eq, c_ne, c_lt, c_le, c_gt, c_ge, c_is, c_isn, isD_bb, eqD_ii, eqD_ss, eqD_bb, ltD_ii, leD_ii, bi_len, bi_max, bi_min, bi_tup, bi_lst, bi_repr, bi_all, maxB_ii, minB_ii, lenB_1, tupB_1, lstB_1, reprB_1, allB_1, slD_t, slD_l, slD_f, slD_r, ints2_ii, popD_ri, AG.wipeD, asg_n, asg_t, asg_p, AG.setAll, atI_0, atI_1, atI_2, atI_3, ixN_30, ixN_31, ixN_32, List.set_cons_zero, List.set_cons_succ, List.getElem?_set_self, List.length_set, Bool.and_eq_true, decide_eq_true_eq, decide_eq_false_iff_not, bne_iff_ne, bne_eq_false_iff_eq, Int.toNat_natCast]
    refine ok_for (fun i ρ S'' => S'' = S' ∧ ∃ x3 g, g = (h.take i).foldl (fun c r => Nat.lcm c (ruC r)) b ∧ g ∣ weC 1 w.hands ∧ ρ = [some (dWe w), some (D.int (g : Nat)), some (D.tup (List.map dR h)), x3]) ⟨rfl, _, b, rfl, hbd, rfl⟩ ?_ ?_
    · rintro i x ρ S'' hx2 ⟨rfl, y3, g, hg, hgd, rfl⟩
      rw [List.getElem?_map] at hx2
      obtain ⟨r, hr, rfl⟩ := Option.map_eq_some_iff.mp hx2
      have hrm := List.mem_of_getElem? hr
      have hro := (hw.ha h hmem).ru r hrm
      obtain ⟨hb1, hb72⟩ := ruC_b hro
      have hg240 := Nat.le_of_dvd hN1 hgd
      refine ⟨_, rfl, ?_⟩
      try simp only [runF, exs, ex, ev, evs, evt, evo, evi, evc, ok_bnd, ok_ret', ok_getV, ok_getC, ok_setC, ok_opt, ok_need, ok_ite, ok_mkLf, ok_mkLt, ok_notB, List.map_cons, List.map_nil, List.replicate_zero, List.replicate_succ, List.length_cons, List.length_nil, List.cons_append, List.nil_append, Nat.reduceSub, Nat.reduceAdd, List.getElem?_cons_zero, List.getElem?_cons_succ, Option.some.injEq, exists_eq_left', ixD_i, setIx_ri, appD_r, isC_r, items_tup, items_lst, items_fro, items_ref, tru_b, tru_i, b_add, b_sub, b_mul, b_div, b_mod, b_pow, b_band, addD_ii, subD_ii, mulD_ii, modD_ii, divD_ii, powD_ii, bandD_ii, addD_tt, addD_ll, c_eq, c_ne, c_lt, c_le, c_gt, c_ge, c_is, c_isn, isD_bb, eqD_ii, eqD_ss, eqD_bb, ltD_ii, leD_ii, bi_len, bi_max, bi_min, bi_tup, bi_lst, bi_repr, bi_all, maxB_ii, minB_ii, lenB_1, tupB_1, lstB_1, reprB_1, allB_1, slD_t, slD_l, slD_f, slD_r, ints2_ii, popD_ri, AG.wipeD, asg_n, asg_t, asg_p, AG.setAll, atI_0, atI_1, atI_2, atI_3, ixN_30, ixN_31, ixN_32, List.set_cons_zero, List.set_cons_succ, List.getElem?_set_self, List.length_set, Bool.and_eq_true, decide_eq_true_eq, decide_eq_false_iff_not, bne_iff_ne, bne_eq_false_iff_eq, Int.toNat_natCast]
      refine (hc S'' _ _ r hro).mono fun d S3 ⟨e1, e2⟩ => ?_
      subst e1 e2
      try simp only [runF, exs, ex, ev, evs, evt, evo, evi, evc, ok_bnd, ok_ret', ok_getV, ok_getC, ok_setC, ok_opt, ok_need, ok_ite, ok_mkLf, ok_mkLt, ok_notB, List.map_cons, List.map_nil, List.replicate_zero, List.replicate_succ, List.length_cons, List.length_nil, List.cons_append, List.nil_append, Nat.reduceSub, Nat.reduceAdd, List.getElem?_cons_zero, List.getElem?_cons_succ, Option.some.injEq, exists_eq_left', ixD_i, setIx_ri, appD_r, isC_r, items_tup, items_lst, items_fro, items_ref, tru_b, tru_i, b_add, b_sub, b_mul, b_div, b_mod, b_pow, b_band, addD_ii, subD_ii, mulD_ii, modD_ii, divD_ii, powD_ii, bandD_ii, addD_tt, addD_ll, c_eq, c_ne, c_lt, c_le, c_gt, c_ge, c_is, c_isn, isD_bb, eqD_ii, eqD_ss, eqD_bb, ltD_ii, leD_ii, bi_len, bi_max, bi_min, bi_tup, bi_lst, bi_repr, bi_all, maxB_ii, minB_ii, lenB_1, tupB_1, lstB_1, reprB_1, allB_1, slD_t, slD_l, slD_f, slD_r, ints2_ii, popD_ri, AG.wipeD, asg_n, asg_t, asg_p, AG.setAll, atI_0, atI_1, atI_2, atI_3, ixN_30, ixN_31, ixN_32, List.set_cons_zero, List.set_cons_succ, List.getElem?_set_self, List.length_set, Bool.and_eq_true, decide_eq_true_eq, decide_eq_false_iff_not, bne_iff_ne, bne_eq_false_iff_eq, Int.toNat_natCast]
      have el : lcmB [.int (g : Nat), .int (ruC r : Nat)] = AG.ret (.int (Nat.lcm g (ruC r) : Nat)) := by
        unfold lcmB
        simp only []
        have : (decide ((0 : Int) ≤ (g : Nat)) && decide (((g : Nat) : Int) < 2 ^ 60) && decide ((0 : Int) ≤ (ruC r : Nat)) && decide (((ruC r : Nat) : Int) < 2 ^ 60)) = true := by
          rw [decide_eq_true (by omega), decide_eq_true (by omega), decide_eq_true (by omega), decide_eq_true (by omega)]
          rfl
        rw [this]
        rfl
      rw [el]
      try simp only [runF, exs, ex, ev, evs, evt, evo, evi, evc, ok_bnd, ok_ret', ok_getV, ok_getC, ok_setC, ok_opt, ok_need, ok_ite, ok_mkLf, ok_mkLt, ok_notB, List.map_cons, List.map_nil, List.replicate_zero, List.replicate_succ, List.length_cons, List.length_nil, List.cons_append, List.nil_append, Nat.reduceSub, Nat.reduceAdd, List.getElem?_cons_zero, List.getElem?_cons_succ, Option.some.injEq, exists_eq_left', ixD_i, setIx_ri, appD_r, isC_r, items_tup, items_lst, items_fro, items_ref, tru_b, tru_i, b_add, b_sub, b_mul, b_div, b_mod, b_pow, b_band, addD_ii, subD_ii, mulD_ii, modD_ii, divD_ii, powD_ii, bandD_ii, addD_tt, addD_ll, c_eq, c_ne, c_lt, c_le, c_gt, c_ge, c_is, c_isn, isD_bb, eqD_ii, eqD_ss, eqD_bb, ltD_ii, leD_ii, bi_len, bi_max, bi_min, bi_tup, bi_lst, bi_repr, bi_all, maxB_ii, minB_ii, lenB_1, tupB_1, lstB_1, reprB_1, allB_1, slD_t, slD_l, slD_f, slD_r, ints2_ii, popD_ri, AG.wipeD, asg_n, asg_t, asg_p, AG.setAll, atI_0, atI_1, atI_2, atI_3, ixN_30, ixN_31, ixN_32, List.set_cons_zero, List.set_cons_succ, List.getElem?_set_self, List.length_set, Bool.and_eq_true, decide_eq_true_eq, decide_eq_false_iff_not, bne_iff_ne, bne_eq_false_iff_eq, Int.toNat_natCast]
      refine ⟨by trivial, _, Nat.lcm g (ruC r), ?_, Nat.lcm_dvd hgd (r_weC _ 1 h r hmem hrm), rfl⟩
      rw [List.take_add_one, hr, hg]
      simp [List.foldl_append]
    · rintro ρ S'' ⟨rfl, y3, g, hg, hgd, rfl⟩
      try simp only [runF, exs, ex, ev, evs, evt, evo, evi, evc, ok_bnd, ok_ret', ok_getV, ok_getC, ok_setC, ok_opt, ok_need, ok_ite, ok_mkLf, ok_mkLt, ok_notB, List.map_cons, List.map_nil, List.replicate_zero, List.replicate_succ, List.length_cons, List.length_nil, List.cons_append, List.nil_append, Nat.reduceSub, Nat.reduceAdd, List.getElem?_cons_zero, List.getElem?_cons_succ, Option.some.injEq, exists_eq_left', ixD_i, setIx_ri, appD_r, isC_r, items_tup, items_lst, items_fro, items_ref, tru_b, tru_i, b_add, b_sub, b_mul, b_div, b_mod, b_pow, b_band, addD_ii, subD_ii, mulD_ii, modD_ii, divD_ii, powD_ii, bandD_ii, addD_tt, addD_ll, c_eq, c_ne, c_lt, c_le, c_gt, c_ge, c_is, c_isn, isD_bb, eqD_ii, eqD_ss, eqD_bb, ltD_ii, leD_ii, bi_len, bi_max, bi_min, bi_tup, bi_lst, bi_repr, bi_all, maxB_ii, minB_ii, lenB_1, tupB_1, lstB_1, reprB_1, allB_1, slD_t, slD_l, slD_f, slD_r, ints2_ii, popD_ri, AG.wipeD, asg_n, asg_t, asg_p, AG.setAll, atI_0, atI_1, atI_2, atI_3, ixN_30, ixN_31, ixN_32, List.set_cons_zero, List.set_cons_succ, List.getElem?_set_self, List.length_set, Bool.and_eq_true, decide_eq_true_eq, decide_eq_false_iff_not, bne_iff_ne, bne_eq_false_iff_eq, Int.toNat_natCast]
      refine ⟨by trivial, _, _, g, ?_, hgd, rfl⟩
      rw [List.take_add_one, hh, List.foldl_append, ← hb]
      rw [List.length_map, List.take_of_length_le (Nat.le_refl _)] at hg
      exact hg
  · rintro ρ S' ⟨rfl, x2, x3, b, hb, hbd, rfl⟩
    rw [List.length_map, List.take_of_length_le (Nat.le_refl _)] at hb
    try simp only [runF, exs, ex, ev, evs, evt, evo, evi, evc, ok_bnd, ok_ret', ok_getV, ok_getC, ok_setC, ok_opt, ok_need, ok_ite, ok_mkLf, ok_mkLt, ok_notB, List.map_cons, List.map_nil, List.replicate_zero, List.replicate_succ, List.length_cons, List.length_nil, List.cons_append, List.nil_append, Nat.reduceSub, Nat.reduceAdd, List.getElem?_cons_zero, List.getElem?_cons_succ, Option.some.injEq, exists_eq_left', ixD_i, setIx_ri, appD_r, isC_r, items_tup, items_lst, items_fro, items_ref, tru_b, tru_i, b_add, b_sub, b_mul, b_div, b_mod, b_pow, b_band, addD_ii, subD_ii, mulD_ii, modD_ii, divD_ii, powD_ii, bandD_ii, addD_tt, addD_ll, c_eq, c_ne, c_lt, c_le, c_gt, c_ge, c_is, c_isn, isD_bb, eqD_ii, eqD_ss, eqD_bb, ltD_ii, leD_ii, bi_len, bi_max, bi_min, bi_tup, bi_lst, bi_repr, bi_all, maxB_ii, minB_ii, lenB_1, tupB_1, lstB_1, reprB_1, allB_1, slD_t, slD_l, slD_f, slD_r, ints2_ii, popD_ri, AG.wipeD, asg_n, asg_t, asg_p, AG.setAll, atI_0, atI_1, atI_2, atI_3, ixN_30, ixN_31, ixN_32, List.set_cons_zero, List.set_cons_succ, List.getElem?_set_self, List.length_set, Bool.and_eq_true, decide_eq_true_eq, decide_eq_false_iff_not, bne_iff_ne, bne_eq_false_iff_eq, Int.toNat_natCast]
    rw [hb]
    exact ⟨rfl, trivial⟩
theorem ok_lcmf {elt : AG.Env → M D} {tg : Tg} {cd : AG.Env → M Bool} {ρ : AG.Env} {P : List D → Sto → Prop} {S : Sto} (f : D → D) (c : D → Bool) : ∀ (xs acc : List D), acc.length + xs.length ≤ 1000000 →
    (∀ x ∈ xs, ∃ ρ2, asg tg x ρ = some ρ2 ∧ Ok (cd ρ2) S fun k S' => k = c x ∧ S' = S ∧ (c x = true → Ok (elt ρ2) S fun y S' => y = f x ∧ S' = S)) → P (acc ++ (xs.filter c).map f) S → Ok (lcL elt tg cd ρ xs acc) S P
  | [], acc, _, _, hd => by
    simp only [lcL, ok_ret']
    simpa using hd
  | x :: xs, acc, hb, ht, hd => by
    obtain ⟨ρ2, e2, h2⟩ := ht x (List.mem_cons_self ..)
    simp only [lcL]
    rw [ok_bnd, ok_opt]
    refine ⟨ρ2, e2, ?_⟩
    rw [ok_bnd]
    refine h2.mono fun k S' ⟨hk, hS, h3⟩ => ?_
    subst hk hS
    rw [List.length_cons] at hb
    by_cases hc : c x = true
    · rw [if_pos hc, ok_bnd]
      refine (h3 hc).mono fun y S' ⟨hy, hS⟩ => ?_
      subst hy hS
      rw [ok_need]
      refine ⟨by unfold small; exact decide_eq_true (by omega), ?_⟩
      refine ok_lcmf f c xs (acc ++ [f x]) (by rw [List.length_append, List.length_singleton]; omega) (fun z hz => ht z (List.mem_cons_of_mem _ hz)) ?_
      rw [List.filter_cons_of_pos hc] at hd
      simpa using hd
    · rw [if_neg hc]
      refine ok_lcmf f c xs acc (by omega) (fun z hz => ht z (List.mem_cons_of_mem _ hz)) ?_
      rw [List.filter_cons_of_neg hc] at hd
      exact hd
theorem ok_lc2m {elt : AG.Env → M D} {tg tg1 : Tg} {mi1 : AG.Env → M (List D)} {own1 : List Nat} {ρ : AG.Env} {P : List D → Sto → Prop} {S : Sto} (f : D → D) (it : D → List D) : ∀ (xs acc : List D), acc.length + (xs.flatMap it).length ≤ 1000000 →
    (∀ x ∈ xs, ∃ ρ2, asg tg x ρ = some ρ2 ∧ Ok (mi1 ρ2) S fun ys S' => ys = it x ∧ S' = S ∧ ∀ y ∈ it x, ∃ ρ3, asg tg1 y (AG.wipeD ρ2 own1) = some ρ3 ∧ Ok (elt ρ3) S fun z S' => z = f y ∧ S' = S) → P (acc ++ (xs.flatMap it).map f) S → Ok (lcL2 elt tg tg1 mi1 own1 ρ xs acc) S P
  | [], acc, _, _, hd => by
    simp only [lcL2, ok_ret']
    simpa using hd
  | x :: xs, acc, hb, ht, hd => by
    obtain ⟨ρ2, e2, h2⟩ := ht x (List.mem_cons_self ..)
    simp only [lcL2]
    rw [ok_bnd, ok_opt]
    refine ⟨ρ2, e2, ?_⟩
    rw [ok_bnd]
    refine h2.mono fun ys S' ⟨hy, hS, h3⟩ => ?_
    subst hy hS
    rw [List.flatMap_cons, List.length_append] at hb
    rw [ok_bnd]
    refine ok_lcmf f (fun _ => true) (it x) acc (by omega) (fun y hy => ?_) ?_
    · obtain ⟨ρ3, e3, h4⟩ := h3 y hy
      exact ⟨ρ3, e3, by rw [ok_ret']; exact ⟨rfl, rfl, fun _ => h4⟩⟩
    · rw [show (it x).filter (fun _ => true) = it x from List.filter_eq_self.mpr (fun _ _ => rfl)]
      refine ok_lc2m f it xs _ (by rw [List.length_append, List.length_map]; omega) (fun z hz => ht z (List.mem_cons_of_mem _ hz)) ?_
      rw [List.flatMap_cons, List.map_append] at hd
      simpa using hd
theorem intsOf_map : ∀ ns : List Int, intsOf (ns.map D.int) = some ns
  | [] => rfl
  | n :: ns => by simp only [List.map_cons, intsOf, intsOf_map ns]
end
/-! ### the rule that is gone by -/
def holds (b : Int) (r : Ru) : Bool := decide ((b - (r.at_ : Nat)) % (r.every : Nat) = 0)
def ruleNo (h : List Ru) (b : Int) : Nat := h.findIdx (holds b)
theorem ruleNo_at {h : List Ru} {b : Int} {j : Nat} {r : Ru} (hj : h[j]? = some r) (hr : holds b r = true) (hn : ∀ i, i < j → ∀ r, h[i]? = some r → holds b r = false) : ruleNo h b = j := by
  obtain ⟨hl, e⟩ := List.getElem?_eq_some_iff.mp hj
  unfold ruleNo
  rw [List.findIdx_eq hl]
  exact ⟨by rw [e]; exact hr, fun i hi => hn i hi _ (List.getElem?_eq_getElem _)⟩
theorem holds_last {m c : Nat} {h : List Ru} (ho : HaOk m c h) (b : Int) : ∃ r, h[h.length - 1]? = some r ∧ holds b r = true := by
  obtain ⟨r, h1, h2⟩ := ho.last
  rw [List.getLast?_eq_getElem?] at h1
  refine ⟨r, h1, ?_⟩
  have := (ho.ru r (List.mem_of_getElem? h1)).at_
  have e0 : r.at_ = 0 := by omega
  unfold holds
  rw [h2, e0]
  apply decide_eq_true
  omega
theorem ruleNo_lt {m c : Nat} {h : List Ru} (ho : HaOk m c h) (b : Int) : ruleNo h b < h.length := by
  obtain ⟨r, h1, h2⟩ := holds_last ho b
  exact List.findIdx_lt_length_of_exists ⟨r, List.mem_of_getElem? h1, h2⟩
theorem enmL_at : ∀ (l : List D) (i j : Nat), (enmL i l)[j]? = (l[j]?).map fun d => D.tup [.int ((i + j : Nat) : Int), d]
  | [], i, j => by simp [enmL]
  | x :: xs, i, 0 => by simp [enmL]
  | x :: xs, i, j + 1 => by
    rw [enmL, List.getElem?_cons_succ, enmL_at xs (i + 1) j, List.getElem?_cons_succ, show i + 1 + j = i + (j + 1) by omega]
theorem enmL_len : ∀ (l : List D) (i : Nat), (enmL i l).length = l.length
  | [], i => rfl
  | x :: xs, i => by rw [enmL, List.length_cons, List.length_cons, enmL_len xs]
theorem cut_init (xs : List D) : cutD xs none (some (-1 : Int)) = xs.dropLast := by
  unfold cutD
  show (xs.drop 0).take ((if (-1 : Int) < 0 then ((-1 : Int) + (xs.length : Int)).toNat else min (-1 : Int).toNat xs.length) - 0) = _
  rw [if_pos (by decide), List.drop_zero, List.dropLast_eq_take]
  congr 1
  omega
def RatW (F : List D → M D) : Prop := ∀ (S : Sto) (w : We) (i : Nat) (h : List Ru) (b : Int), WeOk w → w.hands[i]? = some h → Ok (F [dWe w, .int (i : Nat), .int b]) S fun d S' => d = .int (ruleNo h b : Nat) ∧ S' = S
def FarW (F : List D → M D) : Prop := ∀ (S : Sto) (k n : Nat), Bag S k n → n ≤ 100000 → Ok (F [.ref k]) S fun d S' => ∃ b : Nat, d = .int (b : Nat) ∧ b ≤ 10 ^ 18 ∧ Bag S' k (n + 10) ∧ S'.length = S.length ∧ Fr k S S'
section
variable {Φ : String → List D → M D} {fu : Nat}
theorem rat_run : RatW (runF Φ fu 8 b_rule_at) := by
  intro S w i h b hw hh
  have ho := hw.ha h (List.mem_of_getElem? hh)
  simp only [b_rule_at, dWe, runF, exs, ex, ev, evs, evt, evo, evi, evc, ok_bnd, ok_ret', ok_getV, ok_getC, ok_setC, ok_opt, ok_need, ok_ite, ok_mkLf, ok_mkLt, ok_notB, List.map_cons, List.map_nil, List.replicate_zero, List.replicate_succ, List.length_cons, List.length_nil, List.cons_append, List.nil_append, Nat.reduceSub, Nat.reduceAdd, List.getElem?_cons_zero, List.getElem?_cons_succ, Option.some.injEq, exists_eq_left', ixD_i, setIx_ri, appD_r, isC_r, items_tup, items_lst, items_fro, items_ref, tru_b, tru_i, b_add, b_sub, b_mul, b_div, b_mod, b_pow, b_band, addD_ii, subD_ii, mulD_ii, modD_ii, divD_ii, powD_ii, bandD_ii, addD_tt, addD_ll, c_eq, c_ne, c_lt, c_le, c_gt, c_ge, c_is, c_isn, isD_bb, eqD_ii, eqD_ss, eqD_bb, ltD_ii, leD_ii, bi_len, bi_max, bi_min, bi_tup, bi_lst, bi_repr, bi_all, maxB_ii, minB_ii, lenB_1, tupB_1, lstB_1, reprB_1, allB_1, slD_t, slD_l, slD_f, slD_r, ints2_ii, popD_ri, AG.wipeD, asg_n, asg_t, asg_p, AG.setAll, atI_0, atI_1, atI_2, atI_3, ixN_30, ixN_31, ixN_32, List.set_cons_zero, List.set_cons_succ, List.getElem?_set_self, List.length_set, Bool.and_eq_true, decide_eq_true_eq, decide_eq_false_iff_not, bne_iff_ne, bne_eq_false_iff_eq, Int.toNat_natCast]
  rw [atI_of, List.getElem?_map, hh]
  refine ⟨_, rfl, ?_⟩
  simp only [dH, cut_init, runF, exs, ex, ev, evs, evt, evo, evi, evc, ok_bnd, ok_ret', ok_getV, ok_getC, ok_setC, ok_opt, ok_need, ok_ite, ok_mkLf, ok_mkLt, ok_notB, List.map_cons, List.map_nil, List.replicate_zero, List.replicate_succ, List.length_cons, List.length_nil, List.cons_append, List.nil_append, Nat.reduceSub, Nat.reduceAdd, List.getElem?_cons_zero, List.getElem?_cons_succ, Option.some.injEq, exists_eq_left', ixD_i, setIx_ri, appD_r, isC_r, items_tup, items_lst, items_fro, items_ref, tru_b, tru_i, b_add, b_sub, b_mul, b_div, b_mod, b_pow, b_band, addD_ii, subD_ii, mulD_ii, modD_ii, divD_ii, powD_ii, bandD_ii, addD_tt, addD_ll, c_eq, c_ne, c_lt, c_le, c_gt, c_ge, c_is, c_isn, isD_bb, eqD_ii, eqD_ss, eqD_bb, ltD_ii, leD_ii, bi_len, bi_max, bi_min, bi_tup, bi_lst, bi_repr, bi_all, maxB_ii, minB_ii, lenB_1, tupB_1, lstB_1, reprB_1, allB_1, slD_t, slD_l, slD_f, slD_r, ints2_ii, popD_ri, AG.wipeD, asg_n, asg_t, asg_p, AG.setAll, atI_0, atI_1, atI_2, atI_3, ixN_30, ixN_31, ixN_32, List.set_cons_zero, List.set_cons_succ, List.getElem?_set_self, List.length_set, Bool.and_eq_true, decide_eq_true_eq, decide_eq_false_iff_not, bne_iff_ne, bne_eq_false_iff_eq, Int.toNat_natCast]
  refine ok_for (fun j ρ S' => S' = S ∧ (∀ i, i < j → ∀ r, h[i]? = some r → holds b r = false) ∧ ∃ x4 x5 x6 x7, ρ = [some (dWe w), some (.int (i : Nat)), some (.int b), some (.tup (h.map dR)), x4, x5, x6, x7]) ⟨rfl, fun i hi => absurd hi (Nat.not_lt_zero _), _, _, _, _, rfl⟩ ?_ ?_
  · rintro j x ρ S' hx ⟨rfl, hn, x4, x5, x6, x7, rfl⟩
    rw [enmL_at, ← List.map_dropLast, List.getElem?_map] at hx
    obtain ⟨y, hy, rfl⟩ := Option.map_eq_some_iff.mp hx
    obtain ⟨r, hr, rfl⟩ := Option.map_eq_some_iff.mp hy
    have hjl : j < h.dropLast.length := (List.getElem?_eq_some_iff.mp hr).1
    rw [List.getElem?_dropLast, if_pos (by rw [List.length_dropLast] at hjl; exact hjl)] at hr
    have hro := ho.ru r (List.mem_of_getElem? hr)
    have h1 := hro.e1
    refine ⟨_, rfl, ?_⟩
    simp only [dR, runF, exs, ex, ev, evs, evt, evo, evi, evc, ok_bnd, ok_ret', ok_getV, ok_getC, ok_setC, ok_opt, ok_need, ok_ite, ok_mkLf, ok_mkLt, ok_notB, List.map_cons, List.map_nil, List.replicate_zero, List.replicate_succ, List.length_cons, List.length_nil, List.cons_append, List.nil_append, Nat.reduceSub, Nat.reduceAdd, List.getElem?_cons_zero, List.getElem?_cons_succ, Option.some.injEq, exists_eq_left', ixD_i, setIx_ri, appD_r, isC_r, items_tup, items_lst, items_fro, items_ref, tru_b, tru_i, b_add, b_sub, b_mul, b_div, b_mod, b_pow, b_band, addD_ii, subD_ii, mulD_ii, modD_ii, divD_ii, powD_ii, bandD_ii, addD_tt, addD_ll, c_eq, c_ne, c_lt, c_le, c_gt, c_ge, c_is, c_isn, isD_bb, eqD_ii, eqD_ss, eqD_bb, ltD_ii, leD_ii, bi_len, bi_max, bi_min, bi_tup, bi_lst, bi_repr, bi_all, maxB_ii, minB_ii, lenB_1, tupB_1, lstB_1, reprB_1, allB_1, slD_t, slD_l, slD_f, slD_r, ints2_ii, popD_ri, AG.wipeD, asg_n, asg_t, asg_p, AG.setAll, atI_0, atI_1, atI_2, atI_3, ixN_30, ixN_31, ixN_32, List.set_cons_zero, List.set_cons_succ, List.getElem?_set_self, List.length_set, Bool.and_eq_true, decide_eq_true_eq, decide_eq_false_iff_not, bne_iff_ne, bne_eq_false_iff_eq, Int.toNat_natCast]
    refine ⟨by omega, fun c => ?_, fun c => ?_⟩
    · exact ⟨by rw [ruleNo_at hr (decide_eq_true c) hn, Nat.zero_add], trivial⟩
    · refine ⟨trivial, fun i hi r' hr' => ?_, _, _, _, _, rfl⟩
      rcases Nat.lt_or_ge i j with z | z
      · exact hn i z r' hr'
      · have : i = j := by omega
        subst this
        rw [hr] at hr'
        cases hr'
        exact decide_eq_false c
  · rintro ρ S' ⟨rfl, hn, x4, x5, x6, x7, rfl⟩
    rw [enmL_len, List.length_dropLast, List.length_map] at hn
    simp only [runF, exs, ex, ev, evs, evt, evo, evi, evc, ok_bnd, ok_ret', ok_getV, ok_getC, ok_setC, ok_opt, ok_need, ok_ite, ok_mkLf, ok_mkLt, ok_notB, List.map_cons, List.map_nil, List.replicate_zero, List.replicate_succ, List.length_cons, List.length_nil, List.cons_append, List.nil_append, Nat.reduceSub, Nat.reduceAdd, List.getElem?_cons_zero, List.getElem?_cons_succ, Option.some.injEq, exists_eq_left', ixD_i, setIx_ri, appD_r, isC_r, items_tup, items_lst, items_fro, items_ref, tru_b, tru_i, b_add, b_sub, b_mul, b_div, b_mod, b_pow, b_band, addD_ii, subD_ii, mulD_ii, modD_ii, divD_ii, powD_ii, bandD_ii, addD_tt, addD_ll, c_eq, c_ne, c_lt, c_le, c_gt, c_ge, c_is, c_isn, isD_bb, eqD_ii, eqD_ss, eqD_bb, ltD_ii, leD_ii, bi_len, bi_max, bi_min, bi_tup, bi_lst, bi_repr, bi_all, maxB_ii, minB_ii, lenB_1, tupB_1, lstB_1, reprB_1, allB_1, slD_t, slD_l, slD_f, slD_r, ints2_ii, popD_ri, AG.wipeD, asg_n, asg_t, asg_p, AG.setAll, atI_0, atI_1, atI_2, atI_3, ixN_30, ixN_31, ixN_32, List.set_cons_zero, List.set_cons_succ, List.getElem?_set_self, List.length_set, Bool.and_eq_true, decide_eq_true_eq, decide_eq_false_iff_not, bne_iff_ne, bne_eq_false_iff_eq, Int.toNat_natCast]
    obtain ⟨r, h1, h2⟩ := holds_last ho b
    have := ho.l1
    rw [ruleNo_at h1 h2 hn, List.length_map]
    refine ⟨?_, trivial⟩
    congr 1
    omega
theorem far_run (hp : PickW (Φ "_law_pick")) : FarW (runF Φ fu 4 b_law_far) := by
  intro S k n hb hn
  simp only [b_law_far, runF, exs, ex, ev, evs, evt, evo, evi, evc, ok_bnd, ok_ret', ok_getV, ok_getC, ok_setC, ok_opt, ok_need, ok_ite, ok_mkLf, ok_mkLt, ok_notB, List.map_cons, List.map_nil, List.replicate_zero, List.replicate_succ, List.length_cons, List.length_nil, List.cons_append, List.nil_append, Nat.reduceSub, Nat.reduceAdd, List.getElem?_cons_zero, List.getElem?_cons_succ, Option.some.injEq, exists_eq_left', ixD_i, setIx_ri, appD_r, isC_r, items_tup, items_lst, items_fro, items_ref, tru_b, tru_i, b_add, b_sub, b_mul, b_div, b_mod, b_pow, b_band, addD_ii, subD_ii, mulD_ii, modD_ii, divD_ii, powD_ii, bandD_ii, addD_tt, addD_ll, c_eq, c_ne, c_lt, c_le, c_gt, c_ge, c_is, c_isn, isD_bb, eqD_ii, eqD_ss, eqD_bb, ltD_ii, leD_ii, bi_len, bi_max, bi_min, bi_tup, bi_lst, bi_repr, bi_all, maxB_ii, minB_ii, lenB_1, tupB_1, lstB_1, reprB_1, allB_1, slD_t, slD_l, slD_f, slD_r, ints2_ii, popD_ri, AG.wipeD, asg_n, asg_t, asg_p, AG.setAll, atI_0, atI_1, atI_2, atI_3, ixN_30, ixN_31, ixN_32, List.set_cons_zero, List.set_cons_succ, List.getElem?_set_self, List.length_set, Bool.and_eq_true, decide_eq_true_eq, decide_eq_false_iff_not, bne_iff_ne, bne_eq_false_iff_eq, Int.toNat_natCast]
  refine ⟨by decide, ?_⟩
  refine (hp S k n 14 hb (by omega) (by decide) (by decide)).mono fun d S1 ⟨t, hd, ht, b1, l1, f1⟩ => ?_
  subst hd
  simp only [runF, exs, ex, ev, evs, evt, evo, evi, evc, ok_bnd, ok_ret', ok_getV, ok_getC, ok_setC, ok_opt, ok_need, ok_ite, ok_mkLf, ok_mkLt, ok_notB, List.map_cons, List.map_nil, List.replicate_zero, List.replicate_succ, List.length_cons, List.length_nil, List.cons_append, List.nil_append, Nat.reduceSub, Nat.reduceAdd, List.getElem?_cons_zero, List.getElem?_cons_succ, Option.some.injEq, exists_eq_left', ixD_i, setIx_ri, appD_r, isC_r, items_tup, items_lst, items_fro, items_ref, tru_b, tru_i, b_add, b_sub, b_mul, b_div, b_mod, b_pow, b_band, addD_ii, subD_ii, mulD_ii, modD_ii, divD_ii, powD_ii, bandD_ii, addD_tt, addD_ll, c_eq, c_ne, c_lt, c_le, c_gt, c_ge, c_is, c_isn, isD_bb, eqD_ii, eqD_ss, eqD_bb, ltD_ii, leD_ii, bi_len, bi_max, bi_min, bi_tup, bi_lst, bi_repr, bi_all, maxB_ii, minB_ii, lenB_1, tupB_1, lstB_1, reprB_1, allB_1, slD_t, slD_l, slD_f, slD_r, ints2_ii, popD_ri, AG.wipeD, asg_n, asg_t, asg_p, AG.setAll, atI_0, atI_1, atI_2, atI_3, ixN_30, ixN_31, ixN_32, List.set_cons_zero, List.set_cons_succ, List.getElem?_set_self, List.length_set, Bool.and_eq_true, decide_eq_true_eq, decide_eq_false_iff_not, bne_iff_ne, bne_eq_false_iff_eq, Int.toNat_natCast]
  have e4 : (4 : Int) + (t : Nat) = ((4 + t : Nat) : Int) := by omega
  rw [e4]
  have tn : tenD (.int ((4 + t : Nat) : Int)) = AG.ret (.int ((10 ^ (4 + t) : Nat) : Int)) := by
    unfold tenD
    simp only []
    rw [decide_eq_true (by omega), decide_eq_true (by omega), Int.toNat_natCast]
    show AG.ret _ = _
    rw [Int.natCast_pow]
    rfl
  rw [tn]
  simp only [runF, exs, ex, ev, evs, evt, evo, evi, evc, ok_bnd, ok_ret', ok_getV, ok_getC, ok_setC, ok_opt, ok_need, ok_ite, ok_mkLf, ok_mkLt, ok_notB, List.map_cons, List.map_nil, List.replicate_zero, List.replicate_succ, List.length_cons, List.length_nil, List.cons_append, List.nil_append, Nat.reduceSub, Nat.reduceAdd, List.getElem?_cons_zero, List.getElem?_cons_succ, Option.some.injEq, exists_eq_left', ixD_i, setIx_ri, appD_r, isC_r, items_tup, items_lst, items_fro, items_ref, tru_b, tru_i, b_add, b_sub, b_mul, b_div, b_mod, b_pow, b_band, addD_ii, subD_ii, mulD_ii, modD_ii, divD_ii, powD_ii, bandD_ii, addD_tt, addD_ll, c_eq, c_ne, c_lt, c_le, c_gt, c_ge, c_is, c_isn, isD_bb, eqD_ii, eqD_ss, eqD_bb, ltD_ii, leD_ii, bi_len, bi_max, bi_min, bi_tup, bi_lst, bi_repr, bi_all, maxB_ii, minB_ii, lenB_1, tupB_1, lstB_1, reprB_1, allB_1, slD_t, slD_l, slD_f, slD_r, ints2_ii, popD_ri, AG.wipeD, asg_n, asg_t, asg_p, AG.setAll, atI_0, atI_1, atI_2, atI_3, ixN_30, ixN_31, ixN_32, List.set_cons_zero, List.set_cons_succ, List.getElem?_set_self, List.length_set, Bool.and_eq_true, decide_eq_true_eq, decide_eq_false_iff_not, bne_iff_ne, bne_eq_false_iff_eq, Int.toNat_natCast]
  have hw1 : 1 ≤ 10 ^ (4 + t) := Nat.one_le_pow _ _ (by decide)
  have hw2 : 10 ^ (4 + t) ≤ 10 ^ 17 := Nat.pow_le_pow_right (by decide) (by omega)
  generalize 10 ^ (4 + t) = wd at *
  have e18 : (10 : Int) ^ Int.toNat 18 = ((10 ^ 18 : Nat) : Int) := by decide
  rw [e18]
  refine (hp S1 k _ 30 b1 (by omega) (by decide) (by decide)).mono fun d S2 ⟨a, hd, ha, b2, l2, f2⟩ => ?_
  subst hd
  refine (hp S2 k _ 3000 b2 (by omega) (by decide) (by decide)).mono fun d S3 ⟨b, hd, hb', b3, l3, f3⟩ => ?_
  subst hd
  refine (hp S3 k _ wd b3 (by omega) (by omega) (by omega)).mono fun d S4 ⟨c, hd, hc, b4, l4, f4⟩ => ?_
  subst hd
  refine (hp S4 k _ (((10 ^ 18 : Nat) : Int) + 1) b4 (by omega) (by decide) (by decide)).mono fun d S5 ⟨e, hd, he, b5, l5, f5⟩ => ?_
  subst hd
  refine ⟨by decide, ?_⟩
  refine (hp S5 k _ 300 b5 (by omega) (by decide) (by decide)).mono fun d S6 ⟨g, hd, hg, b6, l6, f6⟩ => ?_
  subst hd
  simp only [runF, exs, ex, ev, evs, evt, evo, evi, evc, ok_bnd, ok_ret', ok_getV, ok_getC, ok_setC, ok_opt, ok_need, ok_ite, ok_mkLf, ok_mkLt, ok_notB, List.map_cons, List.map_nil, List.replicate_zero, List.replicate_succ, List.length_cons, List.length_nil, List.cons_append, List.nil_append, Nat.reduceSub, Nat.reduceAdd, List.getElem?_cons_zero, List.getElem?_cons_succ, Option.some.injEq, exists_eq_left', ixD_i, setIx_ri, appD_r, isC_r, items_tup, items_lst, items_fro, items_ref, tru_b, tru_i, b_add, b_sub, b_mul, b_div, b_mod, b_pow, b_band, addD_ii, subD_ii, mulD_ii, modD_ii, divD_ii, powD_ii, bandD_ii, addD_tt, addD_ll, c_eq, c_ne, c_lt, c_le, c_gt, c_ge, c_is, c_isn, isD_bb, eqD_ii, eqD_ss, eqD_bb, ltD_ii, leD_ii, bi_len, bi_max, bi_min, bi_tup, bi_lst, bi_repr, bi_all, maxB_ii, minB_ii, lenB_1, tupB_1, lstB_1, reprB_1, allB_1, slD_t, slD_l, slD_f, slD_r, ints2_ii, popD_ri, AG.wipeD, asg_n, asg_t, asg_p, AG.setAll, atI_0, atI_1, atI_2, atI_3, ixN_30, ixN_31, ixN_32, List.set_cons_zero, List.set_cons_succ, List.getElem?_set_self, List.length_set, Bool.and_eq_true, decide_eq_true_eq, decide_eq_false_iff_not, bne_iff_ne, bne_eq_false_iff_eq, Int.toNat_natCast]
  refine ⟨by decide, ⟨by decide, by decide⟩, ?_⟩
  refine (hp S6 k _ 5 b6 (by omega) (by decide) (by decide)).mono fun d S7 ⟨o, hd, ho, b7, l7, f7⟩ => ?_
  subst hd
  simp only [runF, exs, ex, ev, evs, evt, evo, evi, evc, ok_bnd, ok_ret', ok_getV, ok_getC, ok_setC, ok_opt, ok_need, ok_ite, ok_mkLf, ok_mkLt, ok_notB, List.map_cons, List.map_nil, List.replicate_zero, List.replicate_succ, List.length_cons, List.length_nil, List.cons_append, List.nil_append, Nat.reduceSub, Nat.reduceAdd, List.getElem?_cons_zero, List.getElem?_cons_succ, Option.some.injEq, exists_eq_left', ixD_i, setIx_ri, appD_r, isC_r, items_tup, items_lst, items_fro, items_ref, tru_b, tru_i, b_add, b_sub, b_mul, b_div, b_mod, b_pow, b_band, addD_ii, subD_ii, mulD_ii, modD_ii, divD_ii, powD_ii, bandD_ii, addD_tt, addD_ll, c_eq, c_ne, c_lt, c_le, c_gt, c_ge, c_is, c_isn, isD_bb, eqD_ii, eqD_ss, eqD_bb, ltD_ii, leD_ii, bi_len, bi_max, bi_min, bi_tup, bi_lst, bi_repr, bi_all, maxB_ii, minB_ii, lenB_1, tupB_1, lstB_1, reprB_1, allB_1, slD_t, slD_l, slD_f, slD_r, ints2_ii, popD_ri, AG.wipeD, asg_n, asg_t, asg_p, AG.setAll, atI_0, atI_1, atI_2, atI_3, ixN_30, ixN_31, ixN_32, List.set_cons_zero, List.set_cons_succ, List.getElem?_set_self, List.length_set, Bool.and_eq_true, decide_eq_true_eq, decide_eq_false_iff_not, bne_iff_ne, bne_eq_false_iff_eq, Int.toNat_natCast]
  rw [atI_of]
  have eg : ((10 ^ 18 : Nat) : Int) - (g : Nat) = ((10 ^ 18 - g : Nat) : Int) := by omega
  rw [eg]
  have fr := ((((((f1.trans f2).trans f3).trans f4).trans f5).trans f6).trans f7)
  have : o = 0 ∨ o = 1 ∨ o = 2 ∨ o = 3 ∨ o = 4 := by omega
  rcases this with h | h | h | h | h <;> subst h
  · exact ⟨_, rfl, a, rfl, by omega, b7.up (by omega), by omega, fr⟩
  · exact ⟨_, rfl, b, rfl, by omega, b7.up (by omega), by omega, fr⟩
  · exact ⟨_, rfl, c, rfl, by omega, b7.up (by omega), by omega, fr⟩
  · exact ⟨_, rfl, e, rfl, by omega, b7.up (by omega), by omega, fr⟩
  · exact ⟨_, rfl, 10 ^ 18 - g, rfl, by omega, b7.up (by omega), by omega, fr⟩
end
end AGL
namespace AGL
open PySem AG
theorem cut_ints (ns : List Int) (lo hi : Option Int) : ∃ ms : List Int, cutD (ns.map D.int) lo hi = ms.map D.int ∧ ms.length ≤ ns.length := by
  refine ⟨(ns.drop (HT.sIx ns.length 0 lo)).take (HT.sIx ns.length ns.length hi - HT.sIx ns.length 0 lo), ?_, ?_⟩
  · unfold cutD
    rw [List.length_map, ← List.map_drop, ← List.map_take]
  · rw [List.length_take, List.length_drop]
    omega
/-- a datum that can be shown, no greater than n, no deeper than k -/
def Nice (d : D) (n k : Nat) : Prop := ∃ p, toPy d = some p ∧ p.showable = true ∧ cost p ≤ n ∧ p.depth ≤ k
def Nices (ds : List D) (n k : Nat) : Prop := ∃ ps, toPys ds = some ps ∧ PyData.showableAll ps = true ∧ costs ps ≤ n ∧ PyData.depthAll ps ≤ k
theorem nice_repr {d : D} {n k : Nat} (h : Nice d n k) (hn : n ≤ 1000000) (hk : k ≤ 60) : ∃ s, ∀ (S : Sto) (P : D → Sto → Prop), Ok (reprD d) S P = P (.str s) S := by
  obtain ⟨p, h1, h2, h3, h4⟩ := h
  refine ⟨p.shown, fun S P => ?_⟩
  unfold reprD
  rw [h1]
  show Ok (need _ _) S P = _
  rw [h2, decide_eq_true (Nat.le_trans h3 hn), decide_eq_true (Nat.le_trans h4 hk)]
  exact ok_ret'
theorem nice_int {i : Int} {k : Nat} (h : i.natAbs < 2 ^ 100) : Nice (.int i) 64 k := by
  refine ⟨.int i, rfl, ?_, ?_, by simp [PyData.depth]⟩
  · simp only [PyData.showable, decide_eq_true_eq]
    by_cases h0 : i.natAbs = 0
    · rw [h0]; decide
    · exact Nat.lt_trans ((Nat.log2_lt h0).mpr h) (by decide)
  · simp only [cost]
    split
    · omega
    · rw [if_pos (Nat.lt_trans h (by decide))]
      omega
theorem nice_own {k : Nat} : Nice (.str "own") 60 k := ⟨.str "own", rfl, rfl, by decide +kernel, by simp [PyData.depth]⟩
theorem nice_cop {k : Nat} : Nice (.str "copy") 60 k := ⟨.str "copy", rfl, rfl, by decide +kernel, by simp [PyData.depth]⟩
theorem nices_nil {k : Nat} : Nices [] 0 k := ⟨[], rfl, rfl, by simp [costs], by simp [PyData.depthAll]⟩
theorem nices_cons {d : D} {ds : List D} {a b k : Nat} (h : Nice d a k) (h2 : Nices ds b k) : Nices (d :: ds) (a + b + 4) k := by
  obtain ⟨p, q1, q2, q3, q4⟩ := h
  obtain ⟨ps, r1, r2, r3, r4⟩ := h2
  exact ⟨p :: ps, by simp only [toPys, q1, r1], by simp only [PyData.showableAll, q2, r2, Bool.and_self], by simp only [costs]; omega, by simp only [PyData.depthAll]; omega⟩
theorem nice_tup {ds : List D} {a k : Nat} (h : Nices ds a k) : Nice (.tup ds) (a + 8) (k + 1) := by
  obtain ⟨ps, r1, r2, r3, r4⟩ := h
  exact ⟨.tuple ps, by simp only [toPy, r1, Option.map_some], by simp only [PyData.showable]; exact r2, by simp only [cost]; omega, by simp only [PyData.depth]; omega⟩
theorem nice_lst {ds : List D} {a k : Nat} (h : Nices ds a k) : Nice (.lst ds) (a + 8) (k + 1) := by
  obtain ⟨ps, r1, r2, r3, r4⟩ := h
  exact ⟨.list ps, by simp only [toPy, r1, Option.map_some], by simp only [PyData.showable]; exact r2, by simp only [cost]; omega, by simp only [PyData.depth]; omega⟩
theorem nice_up {d : D} {a b k : Nat} (h : Nice d a k) (hab : a ≤ b) : Nice d b k := let ⟨p, h1, h2, h3, h4⟩ := h; ⟨p, h1, h2, Nat.le_trans h3 hab, h4⟩
theorem nices_all {a k : Nat} : ∀ (ds : List D), (∀ d ∈ ds, Nice d a k) → Nices ds ((a + 4) * ds.length) k
  | [], _ => by rw [List.length_nil, Nat.mul_zero]; exact nices_nil
  | d :: ds, h => by
    have := nices_cons (h d (List.mem_cons_self ..)) (nices_all ds fun x hx => h x (List.mem_cons_of_mem _ hx))
    rw [List.length_cons, Nat.mul_succ, show (a + 4) * ds.length + (a + 4) = a + (a + 4) * ds.length + 4 by omega]
    exact this
theorem nice_nat {n k : Nat} (h : n < 1000000) : Nice (.int (n : Nat)) 64 k := nice_int (by
  rw [Int.natAbs_natCast]
  exact Nat.lt_trans h (by decide))
theorem nice_tN {ts : List Nat} {k : Nat} (hl : ∀ t ∈ ts, t < 1000) (hn : ts.length ≤ 9) : Nice (tN ts) 620 (k + 1) := by
  have := nice_tup (nices_all (a := 64) (k := k) (ts.map fun t => D.int (t : Nat)) fun d hd => by
    obtain ⟨t, ht, rfl⟩ := List.mem_map.mp hd
    exact nice_nat (Nat.lt_trans (hl t ht) (by decide)))
  rw [List.length_map] at this
  exact nice_up this (by omega)
theorem nice_R {m c : Nat} {r : Ru} (hm : m ≤ 9) (hc : c ≤ 6) (h : RuOk m c r) : Nice (dR r) 1100 3 := by
  obtain ⟨evn, at_, wh⟩ := r
  have h12 : evn ≤ 12 := h.e12
  have hat : at_ < evn := h.at_
  have hw := h.wh
  have nw : Nice (dW wh) 900 2 := by
    cases wh with
    | own row =>
      obtain ⟨w1, w6, wl⟩ := hw
      exact nice_up (nice_tup (nices_cons nice_own (nices_cons (nice_tN (k := 0) (fun t ht => by have := wl t ht; omega) (by omega)) nices_nil))) (by omega)
    | cop a b t =>
      obtain ⟨w1, w2, w3, wt⟩ := hw
      exact nice_up (nice_tup (nices_cons nice_cop (nices_cons (nice_nat (by omega)) (nices_cons (nice_nat (by omega)) (nices_cons (nice_tN (k := 0) (fun x hx => by have := wt.lt x hx; omega) (by rw [wt.len]; omega)) nices_nil))))) (by omega)
  exact nice_up (nice_tup (nices_cons (nice_nat (n := evn) (by omega)) (nices_cons (nice_nat (n := at_) (by omega)) (nices_cons nw nices_nil)))) (by omega)
theorem nice_We {w : We} (hw : WeOk w) : Nice (dWe w) 100000 6 := by
  have hm := hw.m9
  have hc := hw.c6
  have nh : ∀ d ∈ w.hands.map dH, Nice d 8000 4 := fun d hd => by
    obtain ⟨h, hh, rfl⟩ := List.mem_map.mp hd
    have ho := hw.ha h hh
    have h6 := ho.l6
    have := nice_tup (nices_all (a := 1100) (k := 3) (h.map dR) fun d hd => by
      obtain ⟨r, hr, rfl⟩ := List.mem_map.mp hd
      exact nice_R hm hc (ho.ru r hr))
    rw [List.length_map] at this
    exact nice_up this (by omega)
  have nhs := nice_tup (nices_all (a := 8000) (k := 4) _ nh)
  rw [List.length_map] at nhs
  have nhs := nice_up (b := 60000) nhs (by omega)
  exact nice_up (nice_tup (nices_cons (nice_nat (by omega)) (nices_cons (nice_tN (k := 4) (fun t ht => by have := hw.bm t ht; omega) (by rw [hw.bl]; omega)) (nices_cons nhs nices_nil)))) (by omega)
end AGL
namespace AGL
open PySem AG
def b_after : Sms := .cons (.ret (.bi .tup (.cons (.lc false (.ix (.var 1) (.var 2)) (.name 2) [2] (.seq (.var 0)) .no) .nil))) .nil
def b_staying : Sms := .cons (.ret (.trg (.var 0))) .nil
def b_power : Sms := .cons (.set 2 (.call "staying" (.cons (.bi .len (.cons (.var 0) .nil)) .nil))) (.cons (.set 3 (.var 0)) (.cons (.set 4 (.var 1)) (.cons (.while (.cmp .Gt (.var 4) (.int 0)) (.cons (.ife (.bin .BitAnd (.var 4) (.int 1)) (.cons (.set 2 (.call "after" (.cons (.var 2) (.cons (.var 3) .nil)))) .nil) .nil) (.cons (.set 3 (.call "after" (.cons (.var 3) (.cons (.var 3) .nil)))) (.cons (.set 4 (.bin .FloorDiv (.var 4) (.int 2))) .nil)))) (.cons (.ret (.var 2)) .nil))))
def b_often : Sms := .cons (.set 3 (.lst true .nil)) (.cons (.while (.cmp .NotIn (.var 1) (.var 3)) (.cons (.ife (.cmp .Eq (.bi .len (.cons (.var 3) .nil)) (.var 2)) (.cons (.ret (.var 1)) .nil) .nil) (.cons (.app (.var 3) (.var 1)) (.cons (.set 1 (.ix (.var 0) (.var 1))) .nil)))) (.cons (.set 4 (.idxOf (.var 3) (.var 1))) (.cons (.ret (.ix (.var 3) (.bin .Add (.var 4) (.bin .Mod (.bin .Sub (.var 2) (.var 4)) (.bin .Sub (.bi .len (.cons (.var 3) .nil)) (.var 4)))))) .nil)))
def b_own_doing : Sms := .cons (.unp [2, 3, 4] (.var 0)) (.cons (.set 5 (.ix (.var 4) (.int 1))) (.cons (.ret (.ix (.var 5) (.bin .Mod (.bin .FloorDiv (.var 1) (.var 2)) (.bi .len (.cons (.var 5) .nil))))) .nil))
def b_copies_in : Sms := .cons (.ret (.bi .sum (.cons (.lc false (.bin .Mult (.bi .len (.cons (.var 1) .nil)) (.var 2)) (.tup [1, 2]) [1, 2] (.seq (.var 0)) .no) .nil))) .nil
def b_Ways___init__ : Sms := .cons (.setfl "Ways" "web" (.var 0) (.var 1)) (.cons (.setfl "Ways" "beats" (.var 0) (.call "clock" (.cons (.var 1) .nil))) (.cons (.setfl "Ways" "rules" (.var 0) (.dnew true)) .nil))
def b_Ways_rule : Sms := .cons (.ife (.din true (.tup (.cons (.var 1) (.cons (.var 2) .nil))) (.fld "Ways" "rules" (.var 0))) (.cons (.dput (.fld "Ways" "rules" (.var 0)) (.tup (.cons (.var 1) (.cons (.var 2) .nil))) (.call "rule_at" (.cons (.fld "Ways" "web" (.var 0)) (.cons (.var 1) (.cons (.var 2) .nil))))) .nil) .nil) (.cons (.ret (.dget (.fld "Ways" "rules" (.var 0)) (.tup (.cons (.var 1) (.cons (.var 2) .nil))))) .nil)
def b_Ways_back : Sms := .cons (.set 4 (.lst true .nil)) (.cons (.set 5 (.dnew true)) (.cons (.while (.cmp .GtE (.var 2) (.var 3)) (.cons (.set 6 (.tup (.cons (.var 1) (.cons (.bin .Mod (.var 2) (.fld "Ways" "beats" (.var 0))) .nil)))) (.cons (.ife (.din false (.var 6) (.var 5)) (.cons (.ret (.meth "Ways._round" "Ways" "_round" (.var 0) (.cons (.var 4) (.cons (.dget (.var 5) (.var 6)) (.cons (.var 2) (.cons (.var 3) .nil)))))) .nil) .nil) (.cons (.set 7 (.meth "Ways.rule" "Ways" "rule" (.var 0) (.cons (.var 1) (.cons (.ix (.var 6) (.int 1)) .nil)))) (.cons (.set 8 (.ix (.ix (.ix (.ix (.fld "Ways" "web" (.var 0)) (.int 2)) (.var 1)) (.var 7)) (.int 2))) (.cons (.ife (.cmp .Eq (.ix (.var 8) (.int 0)) (.str "own")) (.cons .brk .nil) .nil) (.cons (.dput (.var 5) (.var 6) (.bi .len (.cons (.var 4) .nil))) (.cons (.app (.var 4) (.tup (.cons (.var 1) (.cons (.var 7) .nil)))) (.cons (.set 1 (.ix (.var 8) (.int 1))) (.cons (.set 2 (.bin .Sub (.var 2) (.ix (.var 8) (.int 2)))) .nil)))))))))) (.cons (.settle 4 (.ret (.tup (.cons (.lst false (.cons (.tup (.cons (.var 4) (.cons (.int 1) .nil))) .nil)) (.cons (.var 1) (.cons (.var 2) .nil)))))) .nil)))
def b_Ways__round : Sms := .cons (.set 5 (.sl false (.var 1) (.yes (.var 2)) .no)) (.cons (.set 6 (.lc false (.ix (.meth "Ways._what" "Ways" "_what" (.var 0) (.cons (.var 7) .nil)) (.int 2)) (.name 7) [7] (.seq (.var 5)) .no)) (.cons (.set 8 (.bi .sum (.cons (.var 6) .nil))) (.cons (.set 9 (.bin .FloorDiv (.bin .Add (.bin .Sub (.var 3) (.var 4)) (.ix (.var 6) (.neg (.int 1)))) (.var 8))) (.cons (.set 3 (.bin .Sub (.var 3) (.bin .Mult (.var 9) (.var 8)))) (.cons (.set 10 (.lst true .nil)) (.cons (.while (.cmp .GtE (.var 3) (.var 4)) (.cons (.set 3 (.bin .Sub (.var 3) (.ix (.var 6) (.bi .len (.cons (.var 10) .nil))))) (.cons (.app (.var 10) (.ix (.var 5) (.bi .len (.cons (.var 10) .nil)))) .nil))) (.cons (.settle 10 (.ret (.tup (.cons (.lst false (.cons (.tup (.cons (.sl false (.var 1) .no (.yes (.var 2))) (.cons (.int 1) .nil))) (.cons (.tup (.cons (.var 5) (.cons (.bin .Add (.int 1) (.var 9)) .nil))) (.cons (.tup (.cons (.var 10) (.cons (.int 1) .nil))) .nil)))) (.cons (.ix (.ix (.var 5) (.bi .len (.cons (.var 10) .nil))) (.int 0)) (.cons (.var 3) .nil)))))) .nil)))))))
def b_Ways__what : Sms := .cons (.unp [2, 3] (.var 1)) (.cons (.ret (.ix (.ix (.ix (.ix (.fld "Ways" "web" (.var 0)) (.int 2)) (.var 2)) (.var 3)) (.int 2))) .nil)
def b_Ways_turn : Sms := .cons (.set 2 (.call "staying" (.cons (.ix (.fld "Ways" "web" (.var 0)) (.int 0)) .nil))) (.cons (.for (.name 3) (.seq (.var 1)) (.cons (.set 2 (.call "after" (.cons (.ix (.meth "Ways._what" "Ways" "_what" (.var 0) (.cons (.var 3) .nil)) (.int 3)) (.cons (.var 2) .nil)))) .nil)) (.cons (.ret (.var 2)) .nil))
def b_Ways_turn_of_all : Sms := .cons (.set 2 (.call "staying" (.cons (.ix (.fld "Ways" "web" (.var 0)) (.int 0)) .nil))) (.cons (.for (.tup [3, 4]) (.seq (.var 1)) (.cons (.set 2 (.call "after" (.cons (.call "power" (.cons (.meth "Ways.turn" "Ways" "turn" (.var 0) (.cons (.var 3) .nil)) (.cons (.var 4) .nil))) (.cons (.var 2) .nil)))) .nil)) (.cons (.ret (.var 2)) .nil))
def b_Ways_begun : Sms := .cons (.ife (.cmp .Lt (.var 2) (.int 0)) (.cons (.ret (.ix (.ix (.fld "Ways" "web" (.var 0)) (.int 1)) (.var 1))) .nil) .nil) (.cons (.set 3 (.meth "Ways.rule" "Ways" "rule" (.var 0) (.cons (.var 1) (.cons (.bin .Mod (.var 2) (.fld "Ways" "beats" (.var 0))) .nil)))) (.cons (.ret (.call "own_doing" (.cons (.ix (.ix (.ix (.fld "Ways" "web" (.var 0)) (.int 2)) (.var 1)) (.var 3)) (.cons (.var 2) .nil)))) .nil))
def b_Ways_led_on : Sms := .cons (.for (.tup [3, 4]) (.revl (.var 1)) (.cons (.set 2 (.meth "Ways._changed" "Ways" "_changed" (.var 0) (.cons (.var 3) (.cons (.var 4) (.cons (.var 2) .nil))))) .nil)) (.cons (.ret (.var 2)) .nil)
def b_Ways_doing : Sms := .cons (.unp [3, 4, 5] (.meth "Ways.back/3" "Ways" "back" (.var 0) (.cons (.var 1) (.cons (.var 2) .nil)))) (.cons (.ret (.meth "Ways.led_on" "Ways" "led_on" (.var 0) (.cons (.var 3) (.cons (.meth "Ways.begun" "Ways" "begun" (.var 0) (.cons (.var 4) (.cons (.var 5) .nil))) .nil)))) .nil)
def b_Ways__changed : Sms := .cons (.ife (.cmp .Gt (.var 2) (.int 1)) (.cons (.ret (.call "often" (.cons (.meth "Ways.turn" "Ways" "turn" (.var 0) (.cons (.var 1) .nil)) (.cons (.var 3) (.cons (.var 2) .nil))))) .nil) .nil) (.cons (.for (.name 4) (.revl (.var 1)) (.cons (.set 5 (.ix (.meth "Ways._what" "Ways" "_what" (.var 0) (.cons (.var 4) .nil)) (.int 3))) (.cons (.set 3 (.ix (.var 5) (.var 3))) .nil))) (.cons (.ret (.var 3)) .nil))
def b_source : Sms := .cons (.set 3 (.make "Ways" "Ways.__init__" (.cons (.var 0) .nil))) (.cons (.unp [4, 5, 6] (.meth "Ways.back/3" "Ways" "back" (.var 3) (.cons (.var 1) (.cons (.var 2) .nil)))) (.cons (.ret (.tup (.cons (.var 5) (.cons (.bi .max2 (.cons (.var 6) (.cons (.neg (.int 1)) .nil))) (.cons (.meth "Ways.turn_of_all" "Ways" "turn_of_all" (.var 3) (.cons (.var 4) .nil)) (.cons (.call "copies_in" (.cons (.var 4) .nil)) .nil)))))) .nil))
def b_doing_at : Sms := .cons (.ret (.meth "Ways.doing" "Ways" "doing" (.make "Ways" "Ways.__init__" (.cons (.var 0) .nil)) (.cons (.var 1) (.cons (.var 2) .nil)))) .nil
end AGL
namespace AGL
open PySem AG
/-! ### the mathematics of turns -/
def comp (xs ys : List Nat) : List Nat := xs.map fun x => ys.getD x 0
def itN (ts : List Nat) : Nat → Nat → Nat
  | 0, d => d
  | k + 1, d => ts.getD (itN ts k d) 0
def pw (ts : List Nat) : Nat → List Nat
  | 0 => List.range ts.length
  | k + 1 => comp (pw ts k) ts
theorem getD_at {l : List Nat} {i : Nat} (h : i < l.length) : l.getD i 0 = l[i] := by
  rw [List.getD_eq_getElem?_getD, List.getElem?_eq_getElem h]
  rfl
theorem getD_lt {m : Nat} {ts : List Nat} (h : Tn m ts) {x : Nat} (hx : x < m) : ts.getD x 0 < m := by
  have hl : x < ts.length := by rw [h.len]; exact hx
  rw [getD_at hl]
  exact h.lt _ (List.getElem_mem hl)
theorem comp_tn {m : Nat} {xs ys : List Nat} (hx : Tn m xs) (hy : Tn m ys) : Tn m (comp xs ys) := by
  refine ⟨by unfold comp; rw [List.length_map, hx.len], fun t ht => ?_⟩
  obtain ⟨x, h, rfl⟩ := List.mem_map.mp ht
  exact getD_lt hy (hx.lt x h)
theorem range_tn (m : Nat) : Tn m (List.range m) := ⟨by simp, fun t h => List.mem_range.mp h⟩
theorem pw_tn {m : Nat} {ts : List Nat} (h : Tn m ts) : ∀ k, Tn m (pw ts k)
  | 0 => by unfold pw; rw [h.len]; exact range_tn m
  | k + 1 => comp_tn (pw_tn h k) h
theorem comp_getD {m : Nat} {xs ys : List Nat} (hx : Tn m xs) {d : Nat} (hd : d < m) : (comp xs ys).getD d 0 = ys.getD (xs.getD d 0) 0 := by
  have hl : d < xs.length := by rw [hx.len]; exact hd
  have hl2 : d < (xs.map fun x => ys.getD x 0).length := by rw [List.length_map]; exact hl
  show (xs.map fun x => ys.getD x 0).getD d 0 = _
  rw [getD_at hl2, getD_at hl, List.getElem_map]
theorem comp_assoc {m : Nat} {xs ys zs : List Nat} (hx : Tn m xs) (hy : Tn m ys) : comp (comp xs ys) zs = comp xs (comp ys zs) := by
  unfold comp
  rw [List.map_map]
  apply List.map_congr_left
  intro x h
  exact (comp_getD hy (hx.lt x h)).symm
theorem comp_idl {m : Nat} {ts : List Nat} (h : Tn m ts) : comp (List.range m) ts = ts := by
  unfold comp
  apply List.ext_getElem
  · simp [h.len]
  · intro i h1 h2
    rw [List.getElem_map, List.getElem_range, getD_at h2]
theorem comp_idr {m : Nat} {ts : List Nat} (h : Tn m ts) : comp ts (List.range m) = ts := by
  unfold comp
  conv => rhs; rw [← List.map_id ts]
  apply List.map_congr_left
  intro x hx
  have hl : x < (List.range m).length := by simpa using h.lt x hx
  rw [getD_at hl, List.getElem_range]
  rfl
theorem pw_add {m : Nat} {ts : List Nat} (h : Tn m ts) (a : Nat) : ∀ b, pw ts (a + b) = comp (pw ts a) (pw ts b)
  | 0 => by
    show pw ts a = comp (pw ts a) (List.range ts.length)
    rw [h.len, comp_idr (pw_tn h a)]
  | b + 1 => by
    show comp (pw ts (a + b)) ts = comp (pw ts a) (comp (pw ts b) ts)
    rw [pw_add h a b, comp_assoc (pw_tn h a) (pw_tn h b)]
theorem pw_one {m : Nat} {ts : List Nat} (h : Tn m ts) : pw ts 1 = ts := by
  show comp (List.range ts.length) ts = ts
  rw [h.len, comp_idl h]
theorem pw_dbl {m : Nat} {ts : List Nat} (h : Tn m ts) : ∀ j, pw (comp ts ts) j = pw ts (2 * j)
  | 0 => by
    show List.range (comp ts ts).length = List.range ts.length
    rw [(comp_tn h h).len, h.len]
  | j + 1 => by
    show comp (pw (comp ts ts) j) (comp ts ts) = pw ts (2 * j + 1 + 1)
    rw [pw_dbl h j, ← comp_assoc (pw_tn h _) h]
    rfl
theorem pw_it {m : Nat} {ts : List Nat} (h : Tn m ts) : ∀ k, pw ts k = (List.range m).map (itN ts k)
  | 0 => by
    show List.range ts.length = (List.range m).map fun d => d
    rw [h.len, List.map_id']
  | k + 1 => by
    show comp (pw ts k) ts = _
    rw [pw_it h k]
    unfold comp
    rw [List.map_map]
    rfl
theorem itN_lt {m : Nat} {ts : List Nat} (h : Tn m ts) {d : Nat} (hd : d < m) : ∀ k, itN ts k d < m
  | 0 => hd
  | k + 1 => getD_lt h (itN_lt h hd k)
/-! ### the words of the program's defs -/
def AfterW (F : List D → M D) : Prop := ∀ (S : Sto) (m : Nat) (xs ys : List Nat), m ≤ 9 → Tn m xs → Tn m ys → Ok (F [tN xs, tN ys]) S fun d S' => d = tN (comp xs ys) ∧ S' = S
def StayW (F : List D → M D) : Prop := ∀ (S : Sto) (m : Nat), m ≤ 9 → Ok (F [.int m]) S fun d S' => d = tN (List.range m) ∧ S' = S
def PowW (F : List D → M D) : Prop := ∀ (S : Sto) (m k : Nat) (ts : List Nat), m ≤ 9 → Tn m ts → k < 2 ^ 90 → Ok (F [tN ts, .int k]) S fun d S' => d = tN (pw ts k) ∧ S' = S
def OftW (F : List D → M D) : Prop := ∀ (S : Sto) (m k d : Nat) (ts : List Nat), m ≤ 9 → Tn m ts → d < m → k ≤ 1000 → Ok (F [tN ts, .int d, .int k]) S fun x S' => x = .int (itN ts k d : Nat) ∧ S' = S
theorem it_tup {D1 : List D} {S : Sto} {P : List D → Sto → Prop} : Ok (match D.tup D1 with
    | .tup xs => ret xs
    | .lst xs => ret xs
    | _ => bad) S P = P D1 S := ok_ret'
theorem it_lst {D1 : List D} {S : Sto} {P : List D → Sto → Prop} : Ok (match D.lst D1 with
    | .tup xs => ret xs
    | .lst xs => ret xs
    | _ => bad) S P = P D1 S := ok_ret'
theorem at_tN {m : Nat} {ts : List Nat} (h : Tn m ts) {x : Nat} (hx : x < m) : L2.atI (ts.map fun t => D.int (t : Nat)) (x : Nat) = some (.int (ts.getD x 0 : Nat)) := by
  have hl : x < ts.length := by rw [h.len]; exact hx
  rw [atI_of, List.getElem?_map, List.getElem?_eq_getElem hl, getD_at hl]
  rfl
section
variable {Φ : String → List D → M D} {fu : Nat}
theorem after_run : AfterW (runF Φ fu 3 b_after) := by
  intro S m xs ys hm hx hy
  simp only [b_after, tN, runF, exs, ex, ev, evs, evt, evo, evi, evc, ok_bnd, ok_ret', ok_getV, ok_getC, ok_setC, ok_opt, ok_need, ok_ite, ok_mkLf, ok_mkLt, ok_notB, List.map_cons, List.map_nil, List.replicate_zero, List.replicate_succ, List.length_cons, List.length_nil, List.cons_append, List.nil_append, Nat.reduceSub, Nat.reduceAdd, List.getElem?_cons_zero, List.getElem?_cons_succ, Option.some.injEq, exists_eq_left', ixD_i, setIx_ri, appD_r, isC_r, items_tup, items_lst, items_fro, items_ref, tru_b, tru_i, b_add, b_sub, b_mul, b_div, b_mod, b_pow, b_band, addD_ii, subD_ii, mulD_ii, modD_ii, divD_ii, powD_ii, bandD_ii, addD_tt, addD_ll, c_eq, c_ne, c_lt, c_le, c_gt, c_ge, c_is, c_isn, isD_bb, eqD_ii, eqD_ss, eqD_bb, ltD_ii, leD_ii, bi_len, bi_max, bi_min, bi_tup, bi_lst, bi_repr, bi_all, maxB_ii, minB_ii, lenB_1, tupB_1, lstB_1, reprB_1, allB_1, slD_t, slD_l, slD_f, slD_r, ints2_ii, popD_ri, AG.wipeD, asg_n, asg_t, asg_p, AG.setAll, atI_0, atI_1, atI_2, atI_3, ixN_30, ixN_31, ixN_32, List.set_cons_zero, List.set_cons_succ, List.getElem?_set_self, List.length_set, Bool.and_eq_true, decide_eq_true_eq, decide_eq_false_iff_not, bne_iff_ne, bne_eq_false_iff_eq, Int.toNat_natCast]
  refine ok_lcmap (fun d => match d with
    | .int j => .int (ys.getD j.toNat 0 : Nat)
    | d => d) (by rw [List.length_map, hx.len]; omega) (fun d hd => ?_) ?_
  · obtain ⟨x, hx', rfl⟩ := List.mem_map.mp hd
    refine ⟨_, rfl, ?_⟩
    simp only [runF, exs, ex, ev, evs, evt, evo, evi, evc, ok_bnd, ok_ret', ok_getV, ok_getC, ok_setC, ok_opt, ok_need, ok_ite, ok_mkLf, ok_mkLt, ok_notB, List.map_cons, List.map_nil, List.replicate_zero, List.replicate_succ, List.length_cons, List.length_nil, List.cons_append, List.nil_append, Nat.reduceSub, Nat.reduceAdd, List.getElem?_cons_zero, List.getElem?_cons_succ, Option.some.injEq, exists_eq_left', ixD_i, setIx_ri, appD_r, isC_r, items_tup, items_lst, items_fro, items_ref, tru_b, tru_i, b_add, b_sub, b_mul, b_div, b_mod, b_pow, b_band, addD_ii, subD_ii, mulD_ii, modD_ii, divD_ii, powD_ii, bandD_ii, addD_tt, addD_ll, c_eq, c_ne, c_lt, c_le, c_gt, c_ge, c_is, c_isn, isD_bb, eqD_ii, eqD_ss, eqD_bb, ltD_ii, leD_ii, bi_len, bi_max, bi_min, bi_tup, bi_lst, bi_repr, bi_all, maxB_ii, minB_ii, lenB_1, tupB_1, lstB_1, reprB_1, allB_1, slD_t, slD_l, slD_f, slD_r, ints2_ii, popD_ri, AG.wipeD, asg_n, asg_t, asg_p, AG.setAll, atI_0, atI_1, atI_2, atI_3, ixN_30, ixN_31, ixN_32, List.set_cons_zero, List.set_cons_succ, List.getElem?_set_self, List.length_set, Bool.and_eq_true, decide_eq_true_eq, decide_eq_false_iff_not, bne_iff_ne, bne_eq_false_iff_eq, Int.toNat_natCast]
    rw [at_tN hy (hx.lt x hx')]
    exact ⟨_, rfl, by simp, by trivial⟩
  · refine ⟨?_, by trivial⟩
    unfold comp
    rw [List.map_map, List.map_map]
    congr 1
theorem stay_run : StayW (runF Φ fu 1 b_staying) := by
  intro S m hm
  simp only [b_staying, runF, exs, ex, ev, evs, evt, evo, evi, evc, ok_bnd, ok_ret', ok_getV, ok_getC, ok_setC, ok_opt, ok_need, ok_ite, ok_mkLf, ok_mkLt, ok_notB, List.map_cons, List.map_nil, List.replicate_zero, List.replicate_succ, List.length_cons, List.length_nil, List.cons_append, List.nil_append, Nat.reduceSub, Nat.reduceAdd, List.getElem?_cons_zero, List.getElem?_cons_succ, Option.some.injEq, exists_eq_left', ixD_i, setIx_ri, appD_r, isC_r, items_tup, items_lst, items_fro, items_ref, tru_b, tru_i, b_add, b_sub, b_mul, b_div, b_mod, b_pow, b_band, addD_ii, subD_ii, mulD_ii, modD_ii, divD_ii, powD_ii, bandD_ii, addD_tt, addD_ll, c_eq, c_ne, c_lt, c_le, c_gt, c_ge, c_is, c_isn, isD_bb, eqD_ii, eqD_ss, eqD_bb, ltD_ii, leD_ii, bi_len, bi_max, bi_min, bi_tup, bi_lst, bi_repr, bi_all, maxB_ii, minB_ii, lenB_1, tupB_1, lstB_1, reprB_1, allB_1, slD_t, slD_l, slD_f, slD_r, ints2_ii, popD_ri, AG.wipeD, asg_n, asg_t, asg_p, AG.setAll, atI_0, atI_1, atI_2, atI_3, ixN_30, ixN_31, ixN_32, List.set_cons_zero, List.set_cons_succ, List.getElem?_set_self, List.length_set, Bool.and_eq_true, decide_eq_true_eq, decide_eq_false_iff_not, bne_iff_ne, bne_eq_false_iff_eq, Int.toNat_natCast]
  refine ⟨⟨by omega, by omega⟩, ?_, by trivial⟩
  rw [rngL_0]
  try rfl
theorem power_run (ha : AfterW (Φ "after")) (hs : StayW (Φ "staying")) (hfu : 95 ≤ fu) : PowW (runF Φ fu 5 b_power) := by
  intro S m k ts hm ht hk
  simp only [b_power, runF, exs, ex, ev, evs, evt, evo, evi, evc, ok_bnd, ok_ret', ok_getV, ok_getC, ok_setC, ok_opt, ok_need, ok_ite, ok_mkLf, ok_mkLt, ok_notB, List.map_cons, List.map_nil, List.replicate_zero, List.replicate_succ, List.length_cons, List.length_nil, List.cons_append, List.nil_append, Nat.reduceSub, Nat.reduceAdd, List.getElem?_cons_zero, List.getElem?_cons_succ, Option.some.injEq, exists_eq_left', ixD_i, setIx_ri, appD_r, isC_r, items_tup, items_lst, items_fro, items_ref, tru_b, tru_i, b_add, b_sub, b_mul, b_div, b_mod, b_pow, b_band, addD_ii, subD_ii, mulD_ii, modD_ii, divD_ii, powD_ii, bandD_ii, addD_tt, addD_ll, c_eq, c_ne, c_lt, c_le, c_gt, c_ge, c_is, c_isn, isD_bb, eqD_ii, eqD_ss, eqD_bb, ltD_ii, leD_ii, bi_len, bi_max, bi_min, bi_tup, bi_lst, bi_repr, bi_all, maxB_ii, minB_ii, lenB_1, tupB_1, lstB_1, reprB_1, allB_1, slD_t, slD_l, slD_f, slD_r, ints2_ii, popD_ri, AG.wipeD, asg_n, asg_t, asg_p, AG.setAll, atI_0, atI_1, atI_2, atI_3, ixN_30, ixN_31, ixN_32, List.set_cons_zero, List.set_cons_succ, List.getElem?_set_self, List.length_set, Bool.and_eq_true, decide_eq_true_eq, decide_eq_false_iff_not, bne_iff_ne, bne_eq_false_iff_eq, Int.toNat_natCast]
  rw [show tN ts = D.tup (ts.map fun t => D.int (t : Nat)) from rfl]
  simp only [List.length_map, runF, exs, ex, ev, evs, evt, evo, evi, evc, ok_bnd, ok_ret', ok_getV, ok_getC, ok_setC, ok_opt, ok_need, ok_ite, ok_mkLf, ok_mkLt, ok_notB, List.map_cons, List.map_nil, List.replicate_zero, List.replicate_succ, List.length_cons, List.length_nil, List.cons_append, List.nil_append, Nat.reduceSub, Nat.reduceAdd, List.getElem?_cons_zero, List.getElem?_cons_succ, Option.some.injEq, exists_eq_left', ixD_i, setIx_ri, appD_r, isC_r, items_tup, items_lst, items_fro, items_ref, tru_b, tru_i, b_add, b_sub, b_mul, b_div, b_mod, b_pow, b_band, addD_ii, subD_ii, mulD_ii, modD_ii, divD_ii, powD_ii, bandD_ii, addD_tt, addD_ll, c_eq, c_ne, c_lt, c_le, c_gt, c_ge, c_is, c_isn, isD_bb, eqD_ii, eqD_ss, eqD_bb, ltD_ii, leD_ii, bi_len, bi_max, bi_min, bi_tup, bi_lst, bi_repr, bi_all, maxB_ii, minB_ii, lenB_1, tupB_1, lstB_1, reprB_1, allB_1, slD_t, slD_l, slD_f, slD_r, ints2_ii, popD_ri, AG.wipeD, asg_n, asg_t, asg_p, AG.setAll, atI_0, atI_1, atI_2, atI_3, ixN_30, ixN_31, ixN_32, List.set_cons_zero, List.set_cons_succ, List.getElem?_set_self, List.length_set, Bool.and_eq_true, decide_eq_true_eq, decide_eq_false_iff_not, bne_iff_ne, bne_eq_false_iff_eq, Int.toNat_natCast]
  rw [ht.len]
  refine (hs S m hm).mono fun d S1 ⟨hd, h1⟩ => ?_
  subst hd h1
  try simp only [runF, exs, ex, ev, evs, evt, evo, evi, evc, ok_bnd, ok_ret', ok_getV, ok_getC, ok_setC, ok_opt, ok_need, ok_ite, ok_mkLf, ok_mkLt, ok_notB, List.map_cons, List.map_nil, List.replicate_zero, List.replicate_succ, List.length_cons, List.length_nil, List.cons_append, List.nil_append, Nat.reduceSub, Nat.reduceAdd, List.getElem?_cons_zero, List.getElem?_cons_succ, Option.some.injEq, exists_eq_left', ixD_i, setIx_ri, appD_r, isC_r, items_tup, items_lst, items_fro, items_ref, tru_b, tru_i, b_add, b_sub, b_mul, b_div, b_mod, b_pow, b_band, addD_ii, subD_ii, mulD_ii, modD_ii, divD_ii, powD_ii, bandD_ii, addD_tt, addD_ll, c_eq, c_ne, c_lt, c_le, c_gt, c_ge, c_is, c_isn, isD_bb, eqD_ii, eqD_ss, eqD_bb, ltD_ii, leD_ii, bi_len, bi_max, bi_min, bi_tup, bi_lst, bi_repr, bi_all, maxB_ii, minB_ii, lenB_1, tupB_1, lstB_1, reprB_1, allB_1, slD_t, slD_l, slD_f, slD_r, ints2_ii, popD_ri, AG.wipeD, asg_n, asg_t, asg_p, AG.setAll, atI_0, atI_1, atI_2, atI_3, ixN_30, ixN_31, ixN_32, List.set_cons_zero, List.set_cons_succ, List.getElem?_set_self, List.length_set, Bool.and_eq_true, decide_eq_true_eq, decide_eq_false_iff_not, bne_iff_ne, bne_eq_false_iff_eq, Int.toNat_natCast]
  refine ok_wh (fun n ρ S' => S' = S1 ∧ ∃ (dn db : List Nat) (left : Nat), ρ = [some (tN ts), some (.int k), some (tN dn), some (tN db), some (.int left)] ∧ left < 2 ^ n ∧ Tn m dn ∧ Tn m db ∧ comp dn (pw db left) = pw ts k) fu 90 _ _ (by omega)
    ⟨rfl, List.range m, ts, k, rfl, hk, range_tn m, ht, comp_idl (pw_tn ht k)⟩ ?_
  rintro n ρ S' ⟨rfl, dn, db, left, rfl, hl, hdn, hdb, hc⟩
  simp only [runF, exs, ex, ev, evs, evt, evo, evi, evc, ok_bnd, ok_ret', ok_getV, ok_getC, ok_setC, ok_opt, ok_need, ok_ite, ok_mkLf, ok_mkLt, ok_notB, List.map_cons, List.map_nil, List.replicate_zero, List.replicate_succ, List.length_cons, List.length_nil, List.cons_append, List.nil_append, Nat.reduceSub, Nat.reduceAdd, List.getElem?_cons_zero, List.getElem?_cons_succ, Option.some.injEq, exists_eq_left', ixD_i, setIx_ri, appD_r, isC_r, items_tup, items_lst, items_fro, items_ref, tru_b, tru_i, b_add, b_sub, b_mul, b_div, b_mod, b_pow, b_band, addD_ii, subD_ii, mulD_ii, modD_ii, divD_ii, powD_ii, bandD_ii, addD_tt, addD_ll, c_eq, c_ne, c_lt, c_le, c_gt, c_ge, c_is, c_isn, isD_bb, eqD_ii, eqD_ss, eqD_bb, ltD_ii, leD_ii, bi_len, bi_max, bi_min, bi_tup, bi_lst, bi_repr, bi_all, maxB_ii, minB_ii, lenB_1, tupB_1, lstB_1, reprB_1, allB_1, slD_t, slD_l, slD_f, slD_r, ints2_ii, popD_ri, AG.wipeD, asg_n, asg_t, asg_p, AG.setAll, atI_0, atI_1, atI_2, atI_3, ixN_30, ixN_31, ixN_32, List.set_cons_zero, List.set_cons_succ, List.getElem?_set_self, List.length_set, Bool.and_eq_true, decide_eq_true_eq, decide_eq_false_iff_not, bne_iff_ne, bne_eq_false_iff_eq, Int.toNat_natCast]
  by_cases h0 : (0 : Int) < left
  · rw [if_pos h0]
    have hn : 0 < n := by
      cases n with
      | zero => simp at hl; omega
      | succ n => omega
    have hdiv : left / 2 < 2 ^ (n - 1) := by
      have e : 2 ^ n = 2 * 2 ^ (n - 1) := by
        rw [← Nat.pow_succ']
        congr 1
        omega
      omega
    have hb : Builtin.bitAnd (left : Int) 1 = ((left % 2 : Nat) : Int) := by
      have h1 : Builtin.bitAnd (left : Int) 1 = ((left &&& 1 : Nat) : Int) := by
        have h0 : (0 : Int) ≤ left := by omega
        simp [Builtin.bitAnd, h0]
      rw [h1, Nat.and_one_is_mod]
    have hi : (left : Int) / 2 = ((left / 2 : Nat) : Int) := by omega
    have key : ∀ dn', Tn m dn' → comp dn' (pw (comp db db) (left / 2)) = pw ts k → Ok (Φ "after" [tN db, tN db]) S' fun a S'_1 => ((0 : Int) < 2 ∧ big 2 = true) ∧ ∃ m', m' < n ∧ S'_1 = S' ∧ ∃ dn_1 db left_1, [some (tN ts), some (D.int k), some (tN dn'), some a, some (D.int ((left : Int) / 2))] = [some (tN ts), some (D.int k), some (tN dn_1), some (tN db), some (D.int (left_1 : Nat))] ∧ left_1 < 2 ^ m' ∧ Tn m dn_1 ∧ Tn m db ∧ comp dn_1 (pw db left_1) = pw ts k := fun dn' h1 h2 =>
      (ha S' m db db hm hdb hdb).mono fun d S2 ⟨hd, h3⟩ => by
        subst hd h3
        exact ⟨⟨by decide, by decide⟩, n - 1, by omega, rfl, dn', comp db db, left / 2, by rw [hi], hdiv, h1, comp_tn hdb hdb, h2⟩
    rw [hb]
    constructor
    · intro ho
      have ho' : left % 2 = 1 := by omega
      refine (ha S' m dn db hm hdn hdb).mono fun d S2 ⟨hd, h3⟩ => ?_
      subst hd h3
      try simp only [runF, exs, ex, ev, evs, evt, evo, evi, evc, ok_bnd, ok_ret', ok_getV, ok_getC, ok_setC, ok_opt, ok_need, ok_ite, ok_mkLf, ok_mkLt, ok_notB, List.map_cons, List.map_nil, List.replicate_zero, List.replicate_succ, List.length_cons, List.length_nil, List.cons_append, List.nil_append, Nat.reduceSub, Nat.reduceAdd, List.getElem?_cons_zero, List.getElem?_cons_succ, Option.some.injEq, exists_eq_left', ixD_i, setIx_ri, appD_r, isC_r, items_tup, items_lst, items_fro, items_ref, tru_b, tru_i, b_add, b_sub, b_mul, b_div, b_mod, b_pow, b_band, addD_ii, subD_ii, mulD_ii, modD_ii, divD_ii, powD_ii, bandD_ii, addD_tt, addD_ll, c_eq, c_ne, c_lt, c_le, c_gt, c_ge, c_is, c_isn, isD_bb, eqD_ii, eqD_ss, eqD_bb, ltD_ii, leD_ii, bi_len, bi_max, bi_min, bi_tup, bi_lst, bi_repr, bi_all, maxB_ii, minB_ii, lenB_1, tupB_1, lstB_1, reprB_1, allB_1, slD_t, slD_l, slD_f, slD_r, ints2_ii, popD_ri, AG.wipeD, asg_n, asg_t, asg_p, AG.setAll, atI_0, atI_1, atI_2, atI_3, ixN_30, ixN_31, ixN_32, List.set_cons_zero, List.set_cons_succ, List.getElem?_set_self, List.length_set, Bool.and_eq_true, decide_eq_true_eq, decide_eq_false_iff_not, bne_iff_ne, bne_eq_false_iff_eq, Int.toNat_natCast]
      refine key _ (comp_tn hdn hdb) ?_
      rw [comp_assoc hdn hdb, pw_dbl hdb, ← hc]
      congr 1
      have e : left = 1 + 2 * (left / 2) := by omega
      conv => rhs; rw [e, pw_add hdb, pw_one hdb]
    · intro he
      have he' : left % 2 = 0 := by omega
      try simp only [runF, exs, ex, ev, evs, evt, evo, evi, evc, ok_bnd, ok_ret', ok_getV, ok_getC, ok_setC, ok_opt, ok_need, ok_ite, ok_mkLf, ok_mkLt, ok_notB, List.map_cons, List.map_nil, List.replicate_zero, List.replicate_succ, List.length_cons, List.length_nil, List.cons_append, List.nil_append, Nat.reduceSub, Nat.reduceAdd, List.getElem?_cons_zero, List.getElem?_cons_succ, Option.some.injEq, exists_eq_left', ixD_i, setIx_ri, appD_r, isC_r, items_tup, items_lst, items_fro, items_ref, tru_b, tru_i, b_add, b_sub, b_mul, b_div, b_mod, b_pow, b_band, addD_ii, subD_ii, mulD_ii, modD_ii, divD_ii, powD_ii, bandD_ii, addD_tt, addD_ll, c_eq, c_ne, c_lt, c_le, c_gt, c_ge, c_is, c_isn, isD_bb, eqD_ii, eqD_ss, eqD_bb, ltD_ii, leD_ii, bi_len, bi_max, bi_min, bi_tup, bi_lst, bi_repr, bi_all, maxB_ii, minB_ii, lenB_1, tupB_1, lstB_1, reprB_1, allB_1, slD_t, slD_l, slD_f, slD_r, ints2_ii, popD_ri, AG.wipeD, asg_n, asg_t, asg_p, AG.setAll, atI_0, atI_1, atI_2, atI_3, ixN_30, ixN_31, ixN_32, List.set_cons_zero, List.set_cons_succ, List.getElem?_set_self, List.length_set, Bool.and_eq_true, decide_eq_true_eq, decide_eq_false_iff_not, bne_iff_ne, bne_eq_false_iff_eq, Int.toNat_natCast]
      refine key _ hdn ?_
      rw [pw_dbl hdb, show 2 * (left / 2) = left by omega]
      exact hc
  · rw [if_neg h0]
    have e : left = 0 := by omega
    subst e
    try simp only [runF, exs, ex, ev, evs, evt, evo, evi, evc, ok_bnd, ok_ret', ok_getV, ok_getC, ok_setC, ok_opt, ok_need, ok_ite, ok_mkLf, ok_mkLt, ok_notB, List.map_cons, List.map_nil, List.replicate_zero, List.replicate_succ, List.length_cons, List.length_nil, List.cons_append, List.nil_append, Nat.reduceSub, Nat.reduceAdd, List.getElem?_cons_zero, List.getElem?_cons_succ, Option.some.injEq, exists_eq_left', ixD_i, setIx_ri, appD_r, isC_r, items_tup, items_lst, items_fro, items_ref, tru_b, tru_i, b_add, b_sub, b_mul, b_div, b_mod, b_pow, b_band, addD_ii, subD_ii, mulD_ii, modD_ii, divD_ii, powD_ii, bandD_ii, addD_tt, addD_ll, c_eq, c_ne, c_lt, c_le, c_gt, c_ge, c_is, c_isn, isD_bb, eqD_ii, eqD_ss, eqD_bb, ltD_ii, leD_ii, bi_len, bi_max, bi_min, bi_tup, bi_lst, bi_repr, bi_all, maxB_ii, minB_ii, lenB_1, tupB_1, lstB_1, reprB_1, allB_1, slD_t, slD_l, slD_f, slD_r, ints2_ii, popD_ri, AG.wipeD, asg_n, asg_t, asg_p, AG.setAll, atI_0, atI_1, atI_2, atI_3, ixN_30, ixN_31, ixN_32, List.set_cons_zero, List.set_cons_succ, List.getElem?_set_self, List.length_set, Bool.and_eq_true, decide_eq_true_eq, decide_eq_false_iff_not, bne_iff_ne, bne_eq_false_iff_eq, Int.toNat_natCast]
    refine ⟨?_, by trivial⟩
    rw [← hc]
    show tN dn = tN (comp dn (List.range db.length))
    rw [hdb.len, comp_idr hdn]
end
end AGL
namespace AGL
open PySem AG
/-! ### the way back: rows of hands and rules -/
abbrev Row := Nat × Nat
def hd (w : We) (i : Nat) : List Ru := w.hands.getD i []
def noAt (w : We) (h : Nat) (b : Int) : Nat := ruleNo (hd w h) b
def ruA (w : We) (h n : Nat) : Ru := ((hd w h)[n]?).getD ⟨1, 0, .own [0]⟩
def agR (w : We) (r : Row) : Nat := match (ruA w r.1 r.2).wh with
  | .cop _ a _ => a
  | .own _ => 0
def tuR (w : We) (r : Row) : List Nat := match (ruA w r.1 r.2).wh with
  | .cop _ _ t => t
  | .own _ => List.range w.many
def ck (w : We) : Nat := weC 1 w.hands
inductive Go (w : We) : Nat → Int → List Row → Nat → Int → Prop
  | nil (h : Nat) (b : Int) : Go w h b [] h b
  | cons (h : Nat) (b : Int) (h2 a : Nat) (t : List Nat) (rs : List Row) (h' : Nat) (b' : Int) : 0 ≤ b → (ruA w h (noAt w h b)).wh = .cop h2 a t → Go w h2 (b - (a : Nat)) rs h' b' → Go w h b ((h, noAt w h b) :: rs) h' b'
def Stop (w : We) (h : Nat) (b : Int) : Prop := b < 0 ∨ ∃ row, (ruA w h (noAt w h b)).wh = .own row
theorem Go.app {w : We} {h : Nat} {b : Int} {xs : List Row} {h1 : Nat} {b1 : Int} (g : Go w h b xs h1 b1) {ys : List Row} {h2 : Nat} {b2 : Int} (g2 : Go w h1 b1 ys h2 b2) : Go w h b (xs ++ ys) h2 b2 := by
  induction g with
  | nil h b => exact g2
  | cons h b h2 a t rs h' b' h0 hw _ ih => exact .cons h b h2 a t _ _ _ h0 hw (ih g2)
theorem Go.split {w : We} : ∀ {xs ys : List Row} {h : Nat} {b : Int} {h2 : Nat} {b2 : Int}, Go w h b (xs ++ ys) h2 b2 → ∃ h1 b1, Go w h b xs h1 b1 ∧ Go w h1 b1 ys h2 b2
  | [], ys, h, b, h2, b2, g => ⟨h, b, .nil h b, g⟩
  | x :: xs, ys, h, b, h2, b2, g => by
    rw [List.cons_append] at g
    cases g with
    | cons _ _ h3 a t _ _ _ h0 hw g =>
      obtain ⟨h1, b1, g1, g2⟩ := Go.split g
      exact ⟨h1, b1, .cons h b h3 a t _ _ _ h0 hw g1, g2⟩
theorem Go.det {w : We} {h : Nat} {b : Int} {xs : List Row} {h1 : Nat} {b1 : Int} (g : Go w h b xs h1 b1) (e1 : Stop w h1 b1) : ∀ {ys : List Row} {h2 : Nat} {b2 : Int}, Go w h b ys h2 b2 → Stop w h2 b2 → xs = ys ∧ h1 = h2 ∧ b1 = b2 := by
  induction g with
  | nil h b =>
    intro ys h2 b2 g2 e2
    cases g2 with
    | nil => exact ⟨rfl, rfl, rfl⟩
    | cons _ _ h3 a t _ _ _ h0 hw _ =>
      rcases e1 with z | ⟨row, z⟩
      · omega
      · rw [hw] at z; cases z
  | cons h b h3 a t rs h' b' h0 hw _ ih =>
    intro ys h2 b2 g2 e2
    cases g2 with
    | nil =>
      rcases e2 with z | ⟨row, z⟩
      · omega
      · rw [hw] at z; cases z
    | cons _ _ h4 a4 t4 _ _ _ h04 hw4 g4 =>
      rw [hw] at hw4
      cases hw4
      obtain ⟨q1, q2, q3⟩ := ih e1 g4 e2
      subst q1
      exact ⟨rfl, q2, q3⟩
def sumA (w : We) (xs : List Row) : Nat := (xs.map (agR w)).sum
theorem sumA_app (w : We) (xs ys : List Row) : sumA w (xs ++ ys) = sumA w xs + sumA w ys := by
  unfold sumA
  rw [List.map_append, List.sum_append]
theorem sumA_cons (w : We) (x : Row) (xs : List Row) : sumA w (x :: xs) = agR w x + sumA w xs := by
  unfold sumA
  rw [List.map_cons, List.sum_cons]
theorem Go.sum {w : We} {h : Nat} {b : Int} {xs : List Row} {h1 : Nat} {b1 : Int} (g : Go w h b xs h1 b1) : b1 = b - (sumA w xs : Nat) := by
  induction g with
  | nil h b => simp [sumA]
  | cons h b h2 a t rs h' b' h0 hw _ ih =>
    rw [sumA_cons]
    have : agR w (h, noAt w h b) = a := by
      unfold agR
      rw [hw]
    rw [this]
    omega
/-- a row of the web: a copy -/
structure RowOk (w : We) (r : Row) : Prop where
  c : r.1 < w.hands.length
  n : r.2 < (hd w r.1).length
  at_ : (hd w r.1)[r.2]? = some (ruA w r.1 r.2)
  cop : ∃ h2 a t, (ruA w r.1 r.2).wh = .cop h2 a t ∧ h2 < w.hands.length ∧ 1 ≤ a ∧ a ≤ 12 ∧ Tn w.many t
theorem hd_mem {w : We} {h : Nat} (hh : h < w.hands.length) : w.hands[h]? = some (hd w h) := by
  unfold hd
  rw [List.getD_eq_getElem?_getD, List.getElem?_eq_getElem hh]
  rfl
theorem hd_ok {w : We} (hw : WeOk w) {h : Nat} (hh : h < w.hands.length) : HaOk w.many w.hands.length (hd w h) := hw.ha _ (List.mem_of_getElem? (hd_mem hh))
theorem noAt_lt {w : We} (hw : WeOk w) {h : Nat} (hh : h < w.hands.length) (b : Int) : noAt w h b < (hd w h).length := ruleNo_lt (hd_ok hw hh) b
theorem ruA_at {w : We} {h n : Nat} (hn : n < (hd w h).length) : (hd w h)[n]? = some (ruA w h n) := by
  unfold ruA
  rw [List.getElem?_eq_getElem hn]
  rfl
theorem ruA_ok {w : We} (hw : WeOk w) {h n : Nat} (hh : h < w.hands.length) (hn : n < (hd w h).length) : RuOk w.many w.hands.length (ruA w h n) := (hd_ok hw hh).ru _ (List.mem_of_getElem? (ruA_at hn))
theorem Go.ok {w : We} (hw : WeOk w) {h : Nat} {b : Int} {xs : List Row} {h1 : Nat} {b1 : Int} (g : Go w h b xs h1 b1) : h < w.hands.length → h1 < w.hands.length ∧ ∀ r ∈ xs, RowOk w r := by
  induction g with
  | nil h b => exact fun hh => ⟨hh, fun r hr => nomatch hr⟩
  | cons h b h2 a t rs h' b' h0 hc _ ih =>
    intro hh
    have hn := noAt_lt hw hh b
    have ho := ruA_ok hw hh hn
    have hx := ho.wh
    rw [hc] at hx
    obtain ⟨c1, c2, c3, c4⟩ := hx
    obtain ⟨i1, i2⟩ := ih c1
    refine ⟨i1, fun r hr => ?_⟩
    rcases List.mem_cons.mp hr with e | e
    · subst e
      exact ⟨hh, hn, ruA_at hn, h2, a, t, hc, c1, c2, c3, c4⟩
    · exact i2 r e
theorem every_ruC (r : Ru) : r.every ∣ ruC r := by
  obtain ⟨evn, at_, wh⟩ := r
  cases wh with
  | own row => exact Nat.dvd_mul_right _ _
  | cop a b t => exact Nat.dvd_refl _
theorem ruleNo_mod {h : List Ru} {b b' : Int} {c : Nat} (hc : ∀ r ∈ h, ruC r ∣ c) (e : ∃ q : Int, b = b' + (c : Nat) * q) : ruleNo h b = ruleNo h b' := by
  obtain ⟨q, rfl⟩ := e
  unfold ruleNo
  have key : ∀ l : List Ru, (∀ r ∈ l, ruC r ∣ c) → l.findIdx (holds (b' + (c : Nat) * q)) = l.findIdx (holds b') := by
    intro l
    induction l with
    | nil => intro _; rfl
    | cons r l ih =>
      intro hl
      rw [List.findIdx_cons, List.findIdx_cons, ih fun x hx => hl x (List.mem_cons_of_mem _ hx)]
      have e : holds (b' + (c : Nat) * q) r = holds b' r := by
        unfold holds
        obtain ⟨p, hp⟩ := Nat.dvd_trans (every_ruC r) (hl r (List.mem_cons_self ..))
        congr 1
        rw [hp, Int.natCast_mul, Int.mul_assoc, show b' + (r.every : Int) * ((p : Int) * q) - (r.at_ : Nat) = b' - (r.at_ : Nat) + (r.every : Int) * ((p : Int) * q) by omega, Int.add_mul_emod_self_left]
      rw [e]
  exact key h hc
theorem ck_dvd {w : We} {h : Nat} (hh : h < w.hands.length) : ∀ r ∈ hd w h, ruC r ∣ ck w := fun r hr => r_weC w.hands 1 _ r (List.mem_of_getElem? (hd_mem hh)) hr
theorem noAt_mod {w : We} {h : Nat} (hh : h < w.hands.length) {b b' : Int} (e : ∃ q : Int, b = b' + (ck w : Nat) * q) : noAt w h b = noAt w h b' := ruleNo_mod (ck_dvd hh) e
/-- the beats of the rows begin at 0 or above -/
def Fits (w : We) : Int → List Row → Prop
  | _, [] => True
  | c, r :: rs => 0 ≤ c ∧ Fits w (c - (agR w r : Nat)) rs
theorem Go.shift {w : We} (hw : WeOk w) {h : Nat} {b : Int} {xs : List Row} {h1 : Nat} {b1 : Int} (g : Go w h b xs h1 b1) : h < w.hands.length → ∀ c : Int, (∃ q : Int, c = b + (ck w : Nat) * q) → Fits w c xs → Go w h c xs h1 (c - (sumA w xs : Nat)) := by
  induction g with
  | nil h b =>
    intro _ c _ _
    have : c - (sumA w [] : Nat) = c := by simp [sumA]
    rw [this]
    exact .nil h c
  | cons h b h2 a t rs h' b' h0 hc _ ih =>
    intro hh c he hf
    have hx := (ruA_ok hw hh (noAt_lt hw hh b)).wh
    rw [hc] at hx
    have en : noAt w h c = noAt w h b := noAt_mod hh he
    obtain ⟨f0, f1⟩ := hf
    have ea : agR w (h, noAt w h b) = a := by
      unfold agR
      rw [hc]
    rw [ea] at f1
    have ih2 := ih hx.1 (c - (a : Nat)) (by obtain ⟨q, hq⟩ := he; exact ⟨q, by omega⟩) f1
    rw [sumA_cons, ea, show c - ((a + sumA w rs : Nat) : Int) = c - (a : Nat) - (sumA w rs : Nat) by omega]
    have := Go.cons (w := w) h c h2 a t rs h' _ f0 (by rw [en]; exact hc) ih2
    rw [en] at this
    exact this
theorem Fits.of {w : We} : ∀ (xs : List Row) (c : Int), (∀ n, n < xs.length → ((sumA w (xs.take n) : Nat) : Int) ≤ c) → Fits w c xs
  | [], _, _ => trivial
  | x :: xs, c, h => by
    refine ⟨by have := h 0 (by simp); simpa [sumA] using this, Fits.of xs _ fun n hn => ?_⟩
    have := h (n + 1) (by rw [List.length_cons]; omega)
    rw [List.take_succ_cons, sumA_cons] at this
    omega
theorem sumA_take_le (w : We) (xs : List Row) {m n : Nat} (h : m ≤ n) : sumA w (xs.take m) ≤ sumA w (xs.take n) := by
  have e : xs.take n = xs.take m ++ (xs.drop m).take (n - m) := by
    rw [← List.take_add, Nat.add_sub_cancel' h]
  rw [e, sumA_app]
  omega
theorem agR_pos {w : We} {r : Row} (h : RowOk w r) : 1 ≤ agR w r ∧ agR w r ≤ 12 := by
  obtain ⟨h2, a, t, e, _, h1, h12, _⟩ := h.cop
  unfold agR
  rw [e]
  exact ⟨h1, h12⟩
theorem tuR_tn {w : We} {r : Row} (h : RowOk w r) : Tn w.many (tuR w r) := by
  obtain ⟨h2, a, t, e, _, _, _, ht⟩ := h.cop
  unfold tuR
  rw [e]
  exact ht
/-- the circle gone through q times more -/
theorem Go.circ {w : We} (hw : WeOk w) {h : Nat} {b0 b : Int} {C : List Row} (g : Go w h b0 C h b) (hh : h < w.hands.length) (he : ∃ q : Int, b = b0 + (ck w : Nat) * q) (hn : C ≠ []) :
    ∀ q : Nat, (q : Int) * (sumA w C : Nat) ≤ b + (sumA w C : Nat) - (sumA w (C.take (C.length - 1)) : Nat) → 0 ≤ b + (sumA w C : Nat) - (sumA w (C.take (C.length - 1)) : Nat) → Go w h b (List.replicate q C).flatten h (b - (q : Nat) * (sumA w C : Nat))
  | 0, _, _ => by
    rw [show b - ((0 : Nat) : Int) * (sumA w C : Nat) = b by omega]
    exact .nil h b
  | q + 1, hq, hb => by
    have hs := g.sum
    have e1 : ((q + 1 : Nat) : Int) * (sumA w C : Nat) = (q : Int) * (sumA w C : Nat) + (sumA w C : Nat) := by
      rw [Int.natCast_add, Int.add_mul]
      omega
    have prev := Go.circ hw g hh he hn q (by omega) hb
    rw [List.replicate_succ', List.flatten_append, List.flatten_singleton, e1]
    have eb : b - ((q : Int) * (sumA w C : Nat) + (sumA w C : Nat)) = b - (q : Int) * (sumA w C : Nat) - (sumA w C : Nat) := by omega
    rw [eb]
    refine prev.app (g.shift hw hh _ ?_ ?_)
    · obtain ⟨p, hp⟩ := he
      have e : (ck w : Int) * p = -((sumA w C : Nat) : Int) := by omega
      refine ⟨p + p * q, ?_⟩
      rw [Int.mul_add, ← Int.mul_assoc, e, Int.neg_mul, Int.mul_comm ((sumA w C : Nat) : Int) q]
      omega
    · apply Fits.of
      intro n hn2
      have := sumA_take_le w C (m := n) (n := C.length - 1) (by omega)
      omega
end AGL
namespace AGL
open PySem AG
/-! ### objects and dicts -/
theorem getK_at {S : Sto} {k : Nat} {t : Bool} {ks : List Ky} {vs : List D} (h : S[k]? = some (some [.dic t ks vs])) : getK k S = .ok (t, ks, vs) S := by
  unfold getK bnd
  rw [getC_at h]
  rfl
theorem ok_of_run {α : Type} {m : M α} {S S' : Sto} {a : α} {P : α → Sto → Prop} (h : m S = .ok a S') : Ok m S P = P a S' := by
  apply propext
  constructor
  · rintro ⟨b, S2, e, p⟩
    rw [h] at e
    cases e
    exact p
  · intro p
    exact ⟨a, S', h, p⟩
theorem ok_fld {c f : String} {k : Nat} {S : Sto} {ks : List Ky} {vs : List D} {v : D} {P : D → Sto → Prop} (h : S[k]? = some (some [.dic false ks vs])) (hv : lookY ks vs (.s f) = some v) : Ok (fldD c f (.obj c k)) S P = P v S := by
  apply ok_of_run
  unfold fldD need
  simp only [decide_true, if_true]
  unfold bnd
  rw [getK_at h]
  show (opt (lookY ks vs (.s f))) S = _
  rw [hv]
  rfl
theorem ok_isO {c m : String} {k : Nat} {S : Sto} {ks : List Ky} {vs : List D} {P : Unit → Sto → Prop} (h : S[k]? = some (some [.dic false ks vs])) (hv : lookY ks vs (.s m) = none) : Ok (isO c m (.obj c k)) S P = P () S := by
  apply ok_of_run
  unfold isO need
  simp only [decide_true, if_true]
  unfold bnd
  rw [getK_at h]
  show (if (!false && (lookY ks vs (.s m)).isNone) = true then ret () else bad) S = _
  rw [hv]
  rfl
theorem ok_setfl {c f : String} {k : Nat} {S : Sto} {ks : List Ky} {vs : List D} {v : D} {P : Unit → Sto → Prop} (h : S[k]? = some (some [.dic false ks vs])) (hl : ks.length < 100) : Ok (setflD c f (.obj c k) v) S P = P () (S.set k (some [.dic false (putA ks vs (.s f) v).1 (putA ks vs (.s f) v).2])) := by
  apply ok_of_run
  unfold setflD need
  simp only [decide_true, if_true]
  unfold bnd
  rw [getK_at h]
  show (if (!false && decide (ks.length < 100)) = true then setC k _ else bad) S = _
  rw [decide_eq_true hl]
  show setC k _ S = _
  unfold setC
  rw [h]
theorem ok_newO {c : String} {S : Sto} {P : D → Sto → Prop} : Ok (newO c) S P = P (.obj c S.length) (S ++ [some [.dic false [] []]]) := ok_of_run rfl
theorem ok_newT {t : Bool} {S : Sto} {P : D → Sto → Prop} : Ok (newT t) S P = P (.dct t S.length) (S ++ [some [.dic t [] []]]) := ok_of_run rfl
theorem ok_isNon {S : Sto} {P : Unit → Sto → Prop} : Ok (isNon .non) S P = P () S := ok_of_run rfl
theorem dicD_at {S : Sto} {k : Nat} {t : Bool} {ks : List Ky} {vs : List D} (h : S[k]? = some (some [.dic t ks vs])) : dicD (.dct t k) S = .ok (t, ks, vs) S := by
  show (getK k S).then _ = _
  rw [getK_at h]
  show (if (t == t) = true then ret (t, ks, vs) else bad) S = _
  rw [beq_self_eq_true]
  rfl
theorem ok_din {S : Sto} {r : Nat} {ks : List Ky} {vs : List D} {a b : Int} {P : Bool → Sto → Prop} (h : S[r]? = some (some [.dic true ks vs])) : Ok (dinD (.dct true r) (.tup [.int a, .int b])) S P = P (lookY ks vs (.t [a, b])).isSome S := by
  apply ok_of_run
  unfold dinD bnd
  rw [dicD_at h]
  rfl
theorem ok_dget {S : Sto} {r : Nat} {ks : List Ky} {vs : List D} {a b : Int} {v : D} {P : D → Sto → Prop} (h : S[r]? = some (some [.dic true ks vs])) (hv : lookY ks vs (.t [a, b]) = some v) : Ok (dgetD (.dct true r) (.tup [.int a, .int b])) S P = P v S := by
  apply ok_of_run
  unfold dgetD bnd
  rw [dicD_at h]
  show (opt (lookY ks vs (.t [a, b]))) S = _
  rw [hv]
  rfl
theorem ok_dput {S : Sto} {r : Nat} {ks : List Ky} {vs : List D} {a b : Int} {v : D} {P : Unit → Sto → Prop} (h : S[r]? = some (some [.dic true ks vs])) (hl : ks.length < 100000) (hn : Ky.t [a, b] ∉ ks) : Ok (dputD (.dct true r) (.tup [.int a, .int b]) v) S P = P () (S.set r (some [.dic true (ks ++ [.t [a, b]]) (vs ++ [v])])) := by
  apply ok_of_run
  show (getK r S).then _ = _
  rw [getK_at h]
  show (if (true == true && true == true && decide (ks.length < 100000)) = true then setC r _ else bad) S = _
  rw [decide_eq_true hl]
  show setC r _ S = _
  unfold setC
  rw [h]
  unfold putY
  rw [if_neg hn]
theorem lookY_none : ∀ (ks : List Ky) (vs : List D) (q : Ky), q ∉ ks → lookY ks vs q = none
  | [], vs, q, _ => by cases vs <;> rfl
  | k :: ks, [], q, _ => rfl
  | k :: ks, v :: vs, q, h => by
    unfold lookY
    rw [if_neg fun e => h (List.mem_cons.mpr (.inl e.symm))]
    exact lookY_none ks vs q fun e => h (List.mem_cons_of_mem _ e)
theorem lookY_app : ∀ (ks : List Ky) (vs : List D) (q : Ky) (v : D) (p : Ky), ks.length = vs.length → lookY (ks ++ [q]) (vs ++ [v]) p = match lookY ks vs p with
    | some x => some x
    | none => if q = p then some v else none
  | [], [], q, v, p, _ => rfl
  | [], _ :: _, _, _, _, h => by cases h
  | _ :: _, [], _, _, _, h => by cases h
  | k :: ks, w :: vs, q, v, p, h => by
    rw [List.cons_append, List.cons_append]
    unfold lookY
    by_cases e : k = p
    · rw [if_pos e, if_pos e]
    · rw [if_neg e, if_neg e]
      exact lookY_app ks vs q v p (by simpa using h)
theorem lookY_in : ∀ (ks : List Ky) (vs : List D) (q : Ky) (v : D), lookY ks vs q = some v → ∃ i : Nat, ks[i]? = some q ∧ vs[i]? = some v
  | [], vs, q, v, h => by cases vs <;> cases h
  | k :: ks, [], q, v, h => by cases h
  | k :: ks, w :: vs, q, v, h => by
    unfold lookY at h
    by_cases e : k = q
    · rw [if_pos e] at h
      exact ⟨0, by rw [e]; rfl, h⟩
    · rw [if_neg e] at h
      obtain ⟨i, h1, h2⟩ := lookY_in ks vs q v h
      exact ⟨i + 1, h1, h2⟩
theorem lookY_mem : ∀ (ks : List Ky) (vs : List D) (q : Ky), ks.length = vs.length → q ∈ ks → ∃ v, lookY ks vs q = some v
  | [], vs, q, _, h => nomatch h
  | k :: ks, [], q, h, _ => by cases h
  | k :: ks, w :: vs, q, h, hm => by
    unfold lookY
    by_cases e : k = q
    · exact ⟨w, if_pos e⟩
    · rw [if_neg e]
      rcases List.mem_cons.mp hm with z | z
      · exact absurd z.symm e
      · exact lookY_mem ks vs q (by simpa using h) z
theorem lookY_isSome {ks : List Ky} {vs : List D} {q : Ky} (hl : ks.length = vs.length) : (lookY ks vs q).isSome = decide (q ∈ ks) := by
  by_cases h : q ∈ ks
  · obtain ⟨v, e⟩ := lookY_mem ks vs q hl h
    rw [e, decide_eq_true h]
    rfl
  · rw [lookY_none ks vs q h, decide_eq_false h]
    rfl
theorem nodup_len {α : Type} [DecidableEq α] : ∀ (l m : List α), l.Nodup → (∀ x ∈ l, x ∈ m) → l.length ≤ m.length
  | [], m, _, _ => Nat.zero_le _
  | x :: l, m, hn, hs => by
    rw [List.nodup_cons] at hn
    have hx := hs x (List.mem_cons_self ..)
    have := nodup_len l (m.erase x) hn.2 fun y hy => by
      have hne : y ≠ x := fun e => hn.1 (by rw [← e]; exact hy)
      rw [List.mem_erase_of_ne hne]
      exact hs y (List.mem_cons_of_mem _ hy)
    rw [List.length_erase_of_mem hx] at this
    have := List.length_pos_of_mem hx
    rw [List.length_cons]
    omega
theorem ok_sum {ns : List Int} {S : Sto} {P : D → Sto → Prop} (hl : ns.length ≤ 1000000) (hb : ∀ n ∈ ns, n.natAbs < 2 ^ 100) : Ok (biD .sum [.lst (ns.map D.int)]) S P = P (.int ns.sum) S := by
  have e : ∀ l : List Int, intsOf (l.map D.int) = some l := by
    intro l
    induction l with
    | nil => rfl
    | cons i l ih => simp only [List.map_cons, intsOf, ih]
  show Ok (sumB [.lst (ns.map D.int)]) S P = _
  unfold sumB
  simp only [e]
  rw [decide_eq_true hl, show (ns.all fun n => decide (n.natAbs < 2 ^ 100)) = true from List.all_eq_true.mpr fun n hn => decide_eq_true (hb n hn)]
  exact ok_of_run rfl
end AGL
namespace AGL
open PySem AG
/-! ### Ways -/
def dRow (r : Row) : D := .tup [.int (r.1 : Nat), .int (r.2 : Nat)]
abbrev wKs : List Ky := [.s "web", .s "beats", .s "rules"]
def waysV (w : We) (r : Nat) : List D := [dWe w, .int (ck w : Nat), .dct true r]
structure Memo (w : We) (ks : List Ky) (vs : List D) : Prop where
  len : ks.length = vs.length
  nd : ks.Nodup
  dom : ∀ q ∈ ks, ∃ h b : Nat, q = .t [(h : Int), (b : Int)] ∧ h < w.hands.length ∧ b < ck w
  val : ∀ (h b : Nat) (v : D), lookY ks vs (.t [(h : Int), (b : Int)]) = some v → v = .int (noAt w h (b : Nat) : Nat)
structure WA (S : Sto) (k r : Nat) (w : We) : Prop where
  ne : k ≠ r
  wok : WeOk w
  cell : S[k]? = some (some [.dic false wKs (waysV w r)])
  memo : ∃ ks vs, S[r]? = some (some [.dic true ks vs]) ∧ Memo w ks vs
theorem WA.lk {S : Sto} {k r : Nat} {w : We} (h : WA S k r w) : k < S.length := (List.getElem?_eq_some_iff.mp h.cell).1
theorem WA.lr {S : Sto} {k r : Nat} {w : We} (h : WA S k r w) : r < S.length := let ⟨_, _, e, _⟩ := h.memo; (List.getElem?_eq_some_iff.mp e).1
theorem WA.fr {S S' : Sto} {j k r : Nat} {w : We} (h : WA S k r w) (f : Fr j S S') (h1 : k ≠ j) (h2 : r ≠ j) : WA S' k r w := by
  refine ⟨h.ne, h.wok, by rw [f.at_ k h.lk h1]; exact h.cell, ?_⟩
  obtain ⟨ks, vs, e, m⟩ := h.memo
  exact ⟨ks, vs, by rw [f.at_ r h.lr h2]; exact e, m⟩
theorem WA.app {S : Sto} {k r : Nat} {w : We} (h : WA S k r w) (x : Option (List D)) : WA (S ++ [x]) k r w := h.fr (Fr.app S.length S x) (Nat.ne_of_lt h.lk) (Nat.ne_of_lt h.lr)
theorem WA.set {S : Sto} {k r j : Nat} {w : We} (h : WA S k r w) (x : Option (List D)) (h1 : k ≠ j) (h2 : r ≠ j) : WA (S.set j x) k r w := h.fr (Fr.set j S x) h1 h2
theorem lk_web {a b c : D} : lookY wKs [a, b, c] (.s "web") = some a := by unfold lookY; exact if_pos rfl
theorem lk_beats {a b c : D} : lookY wKs [a, b, c] (.s "beats") = some b := by
  unfold lookY
  rw [if_neg (by decide +kernel)]
  unfold lookY
  exact if_pos rfl
theorem lk_rules {a b c : D} : lookY wKs [a, b, c] (.s "rules") = some c := by
  unfold lookY
  rw [if_neg (by decide +kernel)]
  unfold lookY
  rw [if_neg (by decide +kernel)]
  unfold lookY
  exact if_pos rfl
section
variable {S : Sto} {k r : Nat} {w : We}
theorem f_web (h : WA S k r w) {P : D → Sto → Prop} : Ok (fldD "Ways" "web" (.obj "Ways" k)) S P = P (dWe w) S := ok_fld h.cell lk_web
theorem f_beats (h : WA S k r w) {P : D → Sto → Prop} : Ok (fldD "Ways" "beats" (.obj "Ways" k)) S P = P (.int (ck w : Nat)) S := ok_fld h.cell lk_beats
theorem f_rules (h : WA S k r w) {P : D → Sto → Prop} : Ok (fldD "Ways" "rules" (.obj "Ways" k)) S P = P (.dct true r) S := ok_fld h.cell lk_rules
theorem i_rule (h : WA S k r w) {P : Unit → Sto → Prop} : Ok (isO "Ways" "rule" (.obj "Ways" k)) S P = P () S := ok_isO h.cell (lookY_none _ _ _ (by decide +kernel))
theorem i_back (h : WA S k r w) {P : Unit → Sto → Prop} : Ok (isO "Ways" "back" (.obj "Ways" k)) S P = P () S := ok_isO h.cell (lookY_none _ _ _ (by decide +kernel))
theorem i_round (h : WA S k r w) {P : Unit → Sto → Prop} : Ok (isO "Ways" "_round" (.obj "Ways" k)) S P = P () S := ok_isO h.cell (lookY_none _ _ _ (by decide +kernel))
theorem i_what (h : WA S k r w) {P : Unit → Sto → Prop} : Ok (isO "Ways" "_what" (.obj "Ways" k)) S P = P () S := ok_isO h.cell (lookY_none _ _ _ (by decide +kernel))
theorem i_turn (h : WA S k r w) {P : Unit → Sto → Prop} : Ok (isO "Ways" "turn" (.obj "Ways" k)) S P = P () S := ok_isO h.cell (lookY_none _ _ _ (by decide +kernel))
theorem i_all (h : WA S k r w) {P : Unit → Sto → Prop} : Ok (isO "Ways" "turn_of_all" (.obj "Ways" k)) S P = P () S := ok_isO h.cell (lookY_none _ _ _ (by decide +kernel))
theorem i_doing (h : WA S k r w) {P : Unit → Sto → Prop} : Ok (isO "Ways" "doing" (.obj "Ways" k)) S P = P () S := ok_isO h.cell (lookY_none _ _ _ (by decide +kernel))
theorem i_begun (h : WA S k r w) {P : Unit → Sto → Prop} : Ok (isO "Ways" "begun" (.obj "Ways" k)) S P = P () S := ok_isO h.cell (lookY_none _ _ _ (by decide +kernel))
theorem i_led (h : WA S k r w) {P : Unit → Sto → Prop} : Ok (isO "Ways" "led_on" (.obj "Ways" k)) S P = P () S := ok_isO h.cell (lookY_none _ _ _ (by decide +kernel))
theorem i_changed (h : WA S k r w) {P : Unit → Sto → Prop} : Ok (isO "Ways" "_changed" (.obj "Ways" k)) S P = P () S := ok_isO h.cell (lookY_none _ _ _ (by decide +kernel))
end
theorem ck_pos {w : We} (hw : WeOk w) : 1 ≤ ck w := weC_pos (m := w.many) (c0 := w.hands.length) _ _ (by omega) fun h hh r hr => (hw.ha h hh).ru r hr
theorem ck_le {w : We} (hw : WeOk w) : ck w ≤ 240 := hw.ck
theorem keys_len {w : We} (hw : WeOk w) {ks : List Ky} (nd : ks.Nodup) (dom : ∀ q ∈ ks, ∃ h b : Nat, q = .t [(h : Int), (b : Int)] ∧ h < w.hands.length ∧ b < ck w) : ks.length ≤ 1440 := by
  have h1 := nodup_len ks ((List.range (w.hands.length * ck w)).map fun x => Ky.t [((x / ck w : Nat) : Int), ((x % ck w : Nat) : Int)]) nd fun q hq => by
    obtain ⟨h, b, rfl, hh, hb⟩ := dom q hq
    refine List.mem_map.mpr ⟨h * ck w + b, List.mem_range.mpr ?_, ?_⟩
    · calc h * ck w + b < h * ck w + ck w := by omega
        _ = (h + 1) * ck w := by rw [Nat.add_mul, Nat.one_mul]
        _ ≤ w.hands.length * ck w := Nat.mul_le_mul_right _ hh
    · have e1 : (h * ck w + b) / ck w = h := by
        rw [Nat.mul_comm, Nat.mul_add_div (by omega), Nat.div_eq_of_lt hb, Nat.add_zero]
      have e2 : (h * ck w + b) % ck w = b := by
        rw [Nat.mul_comm, Nat.mul_add_mod, Nat.mod_eq_of_lt hb]
      rw [e1, e2]
  rw [List.length_map, List.length_range] at h1
  have : w.hands.length * ck w ≤ 6 * 240 := Nat.mul_le_mul hw.c6 hw.ck
  omega
def WRuleW (F : List D → M D) : Prop := ∀ (S : Sto) (k r : Nat) (w : We) (h b : Nat), WA S k r w → h < w.hands.length → b < ck w → Ok (F [.obj "Ways" k, .int (h : Nat), .int (b : Nat)]) S fun d S' => d = .int (noAt w h (b : Nat) : Nat) ∧ WA S' k r w ∧ S'.length = S.length ∧ Fr r S S'
def WhatW (F : List D → M D) : Prop := ∀ (S : Sto) (k r : Nat) (w : We) (q : Row), WA S k r w → RowOk w q → Ok (F [.obj "Ways" k, dRow q]) S fun d S' => d = dW (ruA w q.1 q.2).wh ∧ S' = S
def InitW (F : List D → M D) : Prop := ∀ (S : Sto) (k : Nat) (w : We), WeOk w → S[k]? = some (some [.dic false [] []]) → Ok (F [.obj "Ways" k, dWe w]) S fun d S' => d = .non ∧ WA S' k S.length w ∧ S'.length = S.length + 1 ∧ Fr k S S'
theorem hands_at {w : We} {h : Nat} (hh : h < w.hands.length) : L2.atI (w.hands.map dH) (h : Nat) = some (.tup ((hd w h).map dR)) := by
  rw [atI_of, List.getElem?_map, hd_mem hh]
  rfl
theorem rules_at {w : We} {h n : Nat} (hn : n < (hd w h).length) : L2.atI ((hd w h).map dR) (n : Nat) = some (dR (ruA w h n)) := by
  rw [atI_of, List.getElem?_map, ruA_at hn]
  rfl
section
variable {Φ : String → List D → M D} {fu : Nat}
theorem what_run : WhatW (runF Φ fu 4 b_Ways__what) := by
  intro S k r w q H hq
  obtain ⟨q1, q2⟩ := q
  simp only [b_Ways__what, dRow, runF, exs, ex, ev, evs, evt, evo, evi, evc, ok_bnd, ok_ret', ok_getV, ok_getC, ok_setC, ok_opt, ok_need, ok_ite, ok_mkLf, ok_mkLt, ok_notB, List.map_cons, List.map_nil, List.replicate_zero, List.replicate_succ, List.length_cons, List.length_nil, List.cons_append, List.nil_append, Nat.reduceSub, Nat.reduceAdd, List.getElem?_cons_zero, List.getElem?_cons_succ, Option.some.injEq, exists_eq_left', ixD_i, setIx_ri, appD_r, isC_r, items_tup, items_lst, items_fro, items_ref, tru_b, tru_i, b_add, b_sub, b_mul, b_div, b_mod, b_pow, b_band, addD_ii, subD_ii, mulD_ii, modD_ii, divD_ii, powD_ii, bandD_ii, addD_tt, addD_ll, c_eq, c_ne, c_lt, c_le, c_gt, c_ge, c_is, c_isn, isD_bb, eqD_ii, eqD_ss, eqD_bb, ltD_ii, leD_ii, bi_len, bi_max, bi_min, bi_tup, bi_lst, bi_repr, bi_all, maxB_ii, minB_ii, lenB_1, tupB_1, lstB_1, reprB_1, allB_1, slD_t, slD_l, slD_f, slD_r, ints2_ii, popD_ri, AG.wipeD, asg_n, asg_t, asg_p, AG.setAll, atI_0, atI_1, atI_2, atI_3, ixN_30, ixN_31, ixN_32, List.set_cons_zero, List.set_cons_succ, List.getElem?_set_self, List.length_set, Bool.and_eq_true, decide_eq_true_eq, decide_eq_false_iff_not, bne_iff_ne, bne_eq_false_iff_eq, Int.toNat_natCast]
  rw [f_web H]
  try simp only [dWe, runF, exs, ex, ev, evs, evt, evo, evi, evc, ok_bnd, ok_ret', ok_getV, ok_getC, ok_setC, ok_opt, ok_need, ok_ite, ok_mkLf, ok_mkLt, ok_notB, List.map_cons, List.map_nil, List.replicate_zero, List.replicate_succ, List.length_cons, List.length_nil, List.cons_append, List.nil_append, Nat.reduceSub, Nat.reduceAdd, List.getElem?_cons_zero, List.getElem?_cons_succ, Option.some.injEq, exists_eq_left', ixD_i, setIx_ri, appD_r, isC_r, items_tup, items_lst, items_fro, items_ref, tru_b, tru_i, b_add, b_sub, b_mul, b_div, b_mod, b_pow, b_band, addD_ii, subD_ii, mulD_ii, modD_ii, divD_ii, powD_ii, bandD_ii, addD_tt, addD_ll, c_eq, c_ne, c_lt, c_le, c_gt, c_ge, c_is, c_isn, isD_bb, eqD_ii, eqD_ss, eqD_bb, ltD_ii, leD_ii, bi_len, bi_max, bi_min, bi_tup, bi_lst, bi_repr, bi_all, maxB_ii, minB_ii, lenB_1, tupB_1, lstB_1, reprB_1, allB_1, slD_t, slD_l, slD_f, slD_r, ints2_ii, popD_ri, AG.wipeD, asg_n, asg_t, asg_p, AG.setAll, atI_0, atI_1, atI_2, atI_3, ixN_30, ixN_31, ixN_32, List.set_cons_zero, List.set_cons_succ, List.getElem?_set_self, List.length_set, Bool.and_eq_true, decide_eq_true_eq, decide_eq_false_iff_not, bne_iff_ne, bne_eq_false_iff_eq, Int.toNat_natCast]
  rw [hands_at hq.c]
  refine ⟨_, rfl, ?_⟩
  try simp only [runF, exs, ex, ev, evs, evt, evo, evi, evc, ok_bnd, ok_ret', ok_getV, ok_getC, ok_setC, ok_opt, ok_need, ok_ite, ok_mkLf, ok_mkLt, ok_notB, List.map_cons, List.map_nil, List.replicate_zero, List.replicate_succ, List.length_cons, List.length_nil, List.cons_append, List.nil_append, Nat.reduceSub, Nat.reduceAdd, List.getElem?_cons_zero, List.getElem?_cons_succ, Option.some.injEq, exists_eq_left', ixD_i, setIx_ri, appD_r, isC_r, items_tup, items_lst, items_fro, items_ref, tru_b, tru_i, b_add, b_sub, b_mul, b_div, b_mod, b_pow, b_band, addD_ii, subD_ii, mulD_ii, modD_ii, divD_ii, powD_ii, bandD_ii, addD_tt, addD_ll, c_eq, c_ne, c_lt, c_le, c_gt, c_ge, c_is, c_isn, isD_bb, eqD_ii, eqD_ss, eqD_bb, ltD_ii, leD_ii, bi_len, bi_max, bi_min, bi_tup, bi_lst, bi_repr, bi_all, maxB_ii, minB_ii, lenB_1, tupB_1, lstB_1, reprB_1, allB_1, slD_t, slD_l, slD_f, slD_r, ints2_ii, popD_ri, AG.wipeD, asg_n, asg_t, asg_p, AG.setAll, atI_0, atI_1, atI_2, atI_3, ixN_30, ixN_31, ixN_32, List.set_cons_zero, List.set_cons_succ, List.getElem?_set_self, List.length_set, Bool.and_eq_true, decide_eq_true_eq, decide_eq_false_iff_not, bne_iff_ne, bne_eq_false_iff_eq, Int.toNat_natCast]
  rw [rules_at hq.n]
  refine ⟨_, rfl, ?_⟩
  simp only [dR, runF, exs, ex, ev, evs, evt, evo, evi, evc, ok_bnd, ok_ret', ok_getV, ok_getC, ok_setC, ok_opt, ok_need, ok_ite, ok_mkLf, ok_mkLt, ok_notB, List.map_cons, List.map_nil, List.replicate_zero, List.replicate_succ, List.length_cons, List.length_nil, List.cons_append, List.nil_append, Nat.reduceSub, Nat.reduceAdd, List.getElem?_cons_zero, List.getElem?_cons_succ, Option.some.injEq, exists_eq_left', ixD_i, setIx_ri, appD_r, isC_r, items_tup, items_lst, items_fro, items_ref, tru_b, tru_i, b_add, b_sub, b_mul, b_div, b_mod, b_pow, b_band, addD_ii, subD_ii, mulD_ii, modD_ii, divD_ii, powD_ii, bandD_ii, addD_tt, addD_ll, c_eq, c_ne, c_lt, c_le, c_gt, c_ge, c_is, c_isn, isD_bb, eqD_ii, eqD_ss, eqD_bb, ltD_ii, leD_ii, bi_len, bi_max, bi_min, bi_tup, bi_lst, bi_repr, bi_all, maxB_ii, minB_ii, lenB_1, tupB_1, lstB_1, reprB_1, allB_1, slD_t, slD_l, slD_f, slD_r, ints2_ii, popD_ri, AG.wipeD, asg_n, asg_t, asg_p, AG.setAll, atI_0, atI_1, atI_2, atI_3, ixN_30, ixN_31, ixN_32, List.set_cons_zero, List.set_cons_succ, List.getElem?_set_self, List.length_set, Bool.and_eq_true, decide_eq_true_eq, decide_eq_false_iff_not, bne_iff_ne, bne_eq_false_iff_eq, Int.toNat_natCast]
  exact ⟨by trivial, by trivial⟩
theorem wrule_run (hr : RatW (Φ "rule_at")) : WRuleW (runF Φ fu 3 b_Ways_rule) := by
  intro S k r w h b H hh hb
  obtain ⟨ks, vs, hm, M⟩ := H.memo
  simp only [b_Ways_rule, runF, exs, ex, ev, evs, evt, evo, evi, evc, ok_bnd, ok_ret', ok_getV, ok_getC, ok_setC, ok_opt, ok_need, ok_ite, ok_mkLf, ok_mkLt, ok_notB, List.map_cons, List.map_nil, List.replicate_zero, List.replicate_succ, List.length_cons, List.length_nil, List.cons_append, List.nil_append, Nat.reduceSub, Nat.reduceAdd, List.getElem?_cons_zero, List.getElem?_cons_succ, Option.some.injEq, exists_eq_left', ixD_i, setIx_ri, appD_r, isC_r, items_tup, items_lst, items_fro, items_ref, tru_b, tru_i, b_add, b_sub, b_mul, b_div, b_mod, b_pow, b_band, addD_ii, subD_ii, mulD_ii, modD_ii, divD_ii, powD_ii, bandD_ii, addD_tt, addD_ll, c_eq, c_ne, c_lt, c_le, c_gt, c_ge, c_is, c_isn, isD_bb, eqD_ii, eqD_ss, eqD_bb, ltD_ii, leD_ii, bi_len, bi_max, bi_min, bi_tup, bi_lst, bi_repr, bi_all, maxB_ii, minB_ii, lenB_1, tupB_1, lstB_1, reprB_1, allB_1, slD_t, slD_l, slD_f, slD_r, ints2_ii, popD_ri, AG.wipeD, asg_n, asg_t, asg_p, AG.setAll, atI_0, atI_1, atI_2, atI_3, ixN_30, ixN_31, ixN_32, List.set_cons_zero, List.set_cons_succ, List.getElem?_set_self, List.length_set, Bool.and_eq_true, decide_eq_true_eq, decide_eq_false_iff_not, bne_iff_ne, bne_eq_false_iff_eq, Int.toNat_natCast]
  refine ⟨by decide, ?_⟩
  rw [f_rules H, ok_din hm, lookY_isSome M.len]
  try simp only [runF, exs, ex, ev, evs, evt, evo, evi, evc, ok_bnd, ok_ret', ok_getV, ok_getC, ok_setC, ok_opt, ok_need, ok_ite, ok_mkLf, ok_mkLt, ok_notB, List.map_cons, List.map_nil, List.replicate_zero, List.replicate_succ, List.length_cons, List.length_nil, List.cons_append, List.nil_append, Nat.reduceSub, Nat.reduceAdd, List.getElem?_cons_zero, List.getElem?_cons_succ, Option.some.injEq, exists_eq_left', ixD_i, setIx_ri, appD_r, isC_r, items_tup, items_lst, items_fro, items_ref, tru_b, tru_i, b_add, b_sub, b_mul, b_div, b_mod, b_pow, b_band, addD_ii, subD_ii, mulD_ii, modD_ii, divD_ii, powD_ii, bandD_ii, addD_tt, addD_ll, c_eq, c_ne, c_lt, c_le, c_gt, c_ge, c_is, c_isn, isD_bb, eqD_ii, eqD_ss, eqD_bb, ltD_ii, leD_ii, bi_len, bi_max, bi_min, bi_tup, bi_lst, bi_repr, bi_all, maxB_ii, minB_ii, lenB_1, tupB_1, lstB_1, reprB_1, allB_1, slD_t, slD_l, slD_f, slD_r, ints2_ii, popD_ri, AG.wipeD, asg_n, asg_t, asg_p, AG.setAll, atI_0, atI_1, atI_2, atI_3, ixN_30, ixN_31, ixN_32, List.set_cons_zero, List.set_cons_succ, List.getElem?_set_self, List.length_set, Bool.and_eq_true, decide_eq_true_eq, decide_eq_false_iff_not, bne_iff_ne, bne_eq_false_iff_eq, Int.toNat_natCast]
  by_cases hq : Ky.t [(h : Int), (b : Int)] ∈ ks
  · rw [decide_eq_true hq]
    refine ⟨fun z => by simp at z, fun _ => ?_⟩
    try simp only [runF, exs, ex, ev, evs, evt, evo, evi, evc, ok_bnd, ok_ret', ok_getV, ok_getC, ok_setC, ok_opt, ok_need, ok_ite, ok_mkLf, ok_mkLt, ok_notB, List.map_cons, List.map_nil, List.replicate_zero, List.replicate_succ, List.length_cons, List.length_nil, List.cons_append, List.nil_append, Nat.reduceSub, Nat.reduceAdd, List.getElem?_cons_zero, List.getElem?_cons_succ, Option.some.injEq, exists_eq_left', ixD_i, setIx_ri, appD_r, isC_r, items_tup, items_lst, items_fro, items_ref, tru_b, tru_i, b_add, b_sub, b_mul, b_div, b_mod, b_pow, b_band, addD_ii, subD_ii, mulD_ii, modD_ii, divD_ii, powD_ii, bandD_ii, addD_tt, addD_ll, c_eq, c_ne, c_lt, c_le, c_gt, c_ge, c_is, c_isn, isD_bb, eqD_ii, eqD_ss, eqD_bb, ltD_ii, leD_ii, bi_len, bi_max, bi_min, bi_tup, bi_lst, bi_repr, bi_all, maxB_ii, minB_ii, lenB_1, tupB_1, lstB_1, reprB_1, allB_1, slD_t, slD_l, slD_f, slD_r, ints2_ii, popD_ri, AG.wipeD, asg_n, asg_t, asg_p, AG.setAll, atI_0, atI_1, atI_2, atI_3, ixN_30, ixN_31, ixN_32, List.set_cons_zero, List.set_cons_succ, List.getElem?_set_self, List.length_set, Bool.and_eq_true, decide_eq_true_eq, decide_eq_false_iff_not, bne_iff_ne, bne_eq_false_iff_eq, Int.toNat_natCast]
    rw [f_rules H]
    obtain ⟨v, hv⟩ := lookY_mem ks vs _ M.len hq
    refine ⟨by decide, ?_⟩
    rw [ok_dget hm hv]
    exact ⟨M.val h b v hv, H, rfl, Fr.refl _ _⟩
  · rw [decide_eq_false hq]
    refine ⟨fun _ => ?_, fun z => by first | exact absurd z (by decide) | exact absurd hq z | exact absurd z hq | simp_all⟩
    try simp only [runF, exs, ex, ev, evs, evt, evo, evi, evc, ok_bnd, ok_ret', ok_getV, ok_getC, ok_setC, ok_opt, ok_need, ok_ite, ok_mkLf, ok_mkLt, ok_notB, List.map_cons, List.map_nil, List.replicate_zero, List.replicate_succ, List.length_cons, List.length_nil, List.cons_append, List.nil_append, Nat.reduceSub, Nat.reduceAdd, List.getElem?_cons_zero, List.getElem?_cons_succ, Option.some.injEq, exists_eq_left', ixD_i, setIx_ri, appD_r, isC_r, items_tup, items_lst, items_fro, items_ref, tru_b, tru_i, b_add, b_sub, b_mul, b_div, b_mod, b_pow, b_band, addD_ii, subD_ii, mulD_ii, modD_ii, divD_ii, powD_ii, bandD_ii, addD_tt, addD_ll, c_eq, c_ne, c_lt, c_le, c_gt, c_ge, c_is, c_isn, isD_bb, eqD_ii, eqD_ss, eqD_bb, ltD_ii, leD_ii, bi_len, bi_max, bi_min, bi_tup, bi_lst, bi_repr, bi_all, maxB_ii, minB_ii, lenB_1, tupB_1, lstB_1, reprB_1, allB_1, slD_t, slD_l, slD_f, slD_r, ints2_ii, popD_ri, AG.wipeD, asg_n, asg_t, asg_p, AG.setAll, atI_0, atI_1, atI_2, atI_3, ixN_30, ixN_31, ixN_32, List.set_cons_zero, List.set_cons_succ, List.getElem?_set_self, List.length_set, Bool.and_eq_true, decide_eq_true_eq, decide_eq_false_iff_not, bne_iff_ne, bne_eq_false_iff_eq, Int.toNat_natCast]
    rw [f_web H]
    refine (hr S w h (hd w h) (b : Nat) H.wok (hd_mem hh)).mono fun d S2 ⟨e1, e2⟩ => ?_
    subst e1 e2
    try simp only [runF, exs, ex, ev, evs, evt, evo, evi, evc, ok_bnd, ok_ret', ok_getV, ok_getC, ok_setC, ok_opt, ok_need, ok_ite, ok_mkLf, ok_mkLt, ok_notB, List.map_cons, List.map_nil, List.replicate_zero, List.replicate_succ, List.length_cons, List.length_nil, List.cons_append, List.nil_append, Nat.reduceSub, Nat.reduceAdd, List.getElem?_cons_zero, List.getElem?_cons_succ, Option.some.injEq, exists_eq_left', ixD_i, setIx_ri, appD_r, isC_r, items_tup, items_lst, items_fro, items_ref, tru_b, tru_i, b_add, b_sub, b_mul, b_div, b_mod, b_pow, b_band, addD_ii, subD_ii, mulD_ii, modD_ii, divD_ii, powD_ii, bandD_ii, addD_tt, addD_ll, c_eq, c_ne, c_lt, c_le, c_gt, c_ge, c_is, c_isn, isD_bb, eqD_ii, eqD_ss, eqD_bb, ltD_ii, leD_ii, bi_len, bi_max, bi_min, bi_tup, bi_lst, bi_repr, bi_all, maxB_ii, minB_ii, lenB_1, tupB_1, lstB_1, reprB_1, allB_1, slD_t, slD_l, slD_f, slD_r, ints2_ii, popD_ri, AG.wipeD, asg_n, asg_t, asg_p, AG.setAll, atI_0, atI_1, atI_2, atI_3, ixN_30, ixN_31, ixN_32, List.set_cons_zero, List.set_cons_succ, List.getElem?_set_self, List.length_set, Bool.and_eq_true, decide_eq_true_eq, decide_eq_false_iff_not, bne_iff_ne, bne_eq_false_iff_eq, Int.toNat_natCast]
    rw [f_rules H]
    have hl := keys_len H.wok M.nd M.dom
    try simp only [runF, exs, ex, ev, evs, evt, evo, evi, evc, ok_bnd, ok_ret', ok_getV, ok_getC, ok_setC, ok_opt, ok_need, ok_ite, ok_mkLf, ok_mkLt, ok_notB, List.map_cons, List.map_nil, List.replicate_zero, List.replicate_succ, List.length_cons, List.length_nil, List.cons_append, List.nil_append, Nat.reduceSub, Nat.reduceAdd, List.getElem?_cons_zero, List.getElem?_cons_succ, Option.some.injEq, exists_eq_left', ixD_i, setIx_ri, appD_r, isC_r, items_tup, items_lst, items_fro, items_ref, tru_b, tru_i, b_add, b_sub, b_mul, b_div, b_mod, b_pow, b_band, addD_ii, subD_ii, mulD_ii, modD_ii, divD_ii, powD_ii, bandD_ii, addD_tt, addD_ll, c_eq, c_ne, c_lt, c_le, c_gt, c_ge, c_is, c_isn, isD_bb, eqD_ii, eqD_ss, eqD_bb, ltD_ii, leD_ii, bi_len, bi_max, bi_min, bi_tup, bi_lst, bi_repr, bi_all, maxB_ii, minB_ii, lenB_1, tupB_1, lstB_1, reprB_1, allB_1, slD_t, slD_l, slD_f, slD_r, ints2_ii, popD_ri, AG.wipeD, asg_n, asg_t, asg_p, AG.setAll, atI_0, atI_1, atI_2, atI_3, ixN_30, ixN_31, ixN_32, List.set_cons_zero, List.set_cons_succ, List.getElem?_set_self, List.length_set, Bool.and_eq_true, decide_eq_true_eq, decide_eq_false_iff_not, bne_iff_ne, bne_eq_false_iff_eq, Int.toNat_natCast]
    refine ⟨by decide, ?_⟩
    rw [ok_dput hm (by omega) hq]
    try simp only [runF, exs, ex, ev, evs, evt, evo, evi, evc, ok_bnd, ok_ret', ok_getV, ok_getC, ok_setC, ok_opt, ok_need, ok_ite, ok_mkLf, ok_mkLt, ok_notB, List.map_cons, List.map_nil, List.replicate_zero, List.replicate_succ, List.length_cons, List.length_nil, List.cons_append, List.nil_append, Nat.reduceSub, Nat.reduceAdd, List.getElem?_cons_zero, List.getElem?_cons_succ, Option.some.injEq, exists_eq_left', ixD_i, setIx_ri, appD_r, isC_r, items_tup, items_lst, items_fro, items_ref, tru_b, tru_i, b_add, b_sub, b_mul, b_div, b_mod, b_pow, b_band, addD_ii, subD_ii, mulD_ii, modD_ii, divD_ii, powD_ii, bandD_ii, addD_tt, addD_ll, c_eq, c_ne, c_lt, c_le, c_gt, c_ge, c_is, c_isn, isD_bb, eqD_ii, eqD_ss, eqD_bb, ltD_ii, leD_ii, bi_len, bi_max, bi_min, bi_tup, bi_lst, bi_repr, bi_all, maxB_ii, minB_ii, lenB_1, tupB_1, lstB_1, reprB_1, allB_1, slD_t, slD_l, slD_f, slD_r, ints2_ii, popD_ri, AG.wipeD, asg_n, asg_t, asg_p, AG.setAll, atI_0, atI_1, atI_2, atI_3, ixN_30, ixN_31, ixN_32, List.set_cons_zero, List.set_cons_succ, List.getElem?_set_self, List.length_set, Bool.and_eq_true, decide_eq_true_eq, decide_eq_false_iff_not, bne_iff_ne, bne_eq_false_iff_eq, Int.toNat_natCast]
    have hm2 := set_at hm (some [.dic true (ks ++ [.t [(h : Int), (b : Int)]]) (vs ++ [.int (ruleNo (hd w h) (b : Nat) : Nat)])])
    have look : ∀ p, lookY (ks ++ [.t [(h : Int), (b : Int)]]) (vs ++ [.int (ruleNo (hd w h) (b : Nat) : Nat)]) p = _ := fun p => lookY_app ks vs _ _ p M.len
    have M2 : Memo w (ks ++ [.t [(h : Int), (b : Int)]]) (vs ++ [.int (ruleNo (hd w h) (b : Nat) : Nat)]) := by
      refine ⟨by rw [List.length_append, List.length_append, M.len]; rfl, ?_, ?_, ?_⟩
      · rw [List.nodup_append]
        refine ⟨M.nd, by simp, ?_⟩
        intro a ha b' hb' e
        rw [List.mem_singleton.mp hb'] at e
        exact hq (e ▸ ha)
      · intro q hq'
        rcases List.mem_append.mp hq' with z | z
        · exact M.dom q z
        · rw [List.mem_singleton.mp z]
          exact ⟨h, b, rfl, hh, hb⟩
      · intro h' b' v hv
        rw [look] at hv
        cases e : lookY ks vs (.t [(h' : Int), (b' : Int)]) with
        | some x =>
          rw [e] at hv
          cases hv
          exact M.val h' b' v e
        | none =>
          rw [e] at hv
          simp only [] at hv
          split at hv
          · rename_i e2
            cases hv
            have e3 : ((h : Int) = h') ∧ ((b : Int) = b') := by
              injection e2 with e2
              injection e2 with e3 e4
              injection e4 with e4 _
              exact ⟨e3, e4⟩
            have : h' = h := by omega
            have : b' = b := by omega
            subst h' b'
            rfl
          · cases hv
    have H2 : WA (S2.set r (some [.dic true (ks ++ [.t [(h : Int), (b : Int)]]) (vs ++ [.int (ruleNo (hd w h) (b : Nat) : Nat)])])) k r w := ⟨H.ne, H.wok, by rw [List.getElem?_set_ne (Ne.symm H.ne)]; exact H.cell, _, _, hm2, M2⟩
    rw [f_rules H2]
    refine ⟨by decide, ?_⟩
    rw [ok_dget hm2 (by rw [look, lookY_none ks vs _ hq]; exact if_pos rfl)]
    exact ⟨rfl, H2, by rw [List.length_set], Fr.set _ _ _⟩
theorem putA_app : ∀ (ks : List Ky) (vs : List D) (q : Ky) (v : D), ks.length = vs.length → q ∉ ks → putA ks vs q v = (ks ++ [q], vs ++ [v])
  | [], [], q, v, _, _ => rfl
  | [], _ :: _, _, _, h, _ => by cases h
  | _ :: _, [], _, _, h, _ => by cases h
  | k :: ks, w :: vs, q, v, h, hn => by
    unfold putA
    rw [if_neg fun e => hn (List.mem_cons.mpr (.inl e.symm)), putA_app ks vs q v (by simpa using h) fun e => hn (List.mem_cons_of_mem _ e)]
    rfl
theorem init_run (hc : ClW (Φ "clock")) : InitW (runF Φ fu 2 b_Ways___init__) := by
  intro S k w hw hk
  simp only [b_Ways___init__, runF, exs, ex, ev, evs, evt, evo, evi, evc, ok_bnd, ok_ret', ok_getV, ok_getC, ok_setC, ok_opt, ok_need, ok_ite, ok_mkLf, ok_mkLt, ok_notB, List.map_cons, List.map_nil, List.replicate_zero, List.replicate_succ, List.length_cons, List.length_nil, List.cons_append, List.nil_append, Nat.reduceSub, Nat.reduceAdd, List.getElem?_cons_zero, List.getElem?_cons_succ, Option.some.injEq, exists_eq_left', ixD_i, setIx_ri, appD_r, isC_r, items_tup, items_lst, items_fro, items_ref, tru_b, tru_i, b_add, b_sub, b_mul, b_div, b_mod, b_pow, b_band, addD_ii, subD_ii, mulD_ii, modD_ii, divD_ii, powD_ii, bandD_ii, addD_tt, addD_ll, c_eq, c_ne, c_lt, c_le, c_gt, c_ge, c_is, c_isn, isD_bb, eqD_ii, eqD_ss, eqD_bb, ltD_ii, leD_ii, bi_len, bi_max, bi_min, bi_tup, bi_lst, bi_repr, bi_all, maxB_ii, minB_ii, lenB_1, tupB_1, lstB_1, reprB_1, allB_1, slD_t, slD_l, slD_f, slD_r, ints2_ii, popD_ri, AG.wipeD, asg_n, asg_t, asg_p, AG.setAll, atI_0, atI_1, atI_2, atI_3, ixN_30, ixN_31, ixN_32, List.set_cons_zero, List.set_cons_succ, List.getElem?_set_self, List.length_set, Bool.and_eq_true, decide_eq_true_eq, decide_eq_false_iff_not, bne_iff_ne, bne_eq_false_iff_eq, Int.toNat_natCast]
  rw [ok_setfl hk (by decide)]
  try simp only [runF, exs, ex, ev, evs, evt, evo, evi, evc, ok_bnd, ok_ret', ok_getV, ok_getC, ok_setC, ok_opt, ok_need, ok_ite, ok_mkLf, ok_mkLt, ok_notB, List.map_cons, List.map_nil, List.replicate_zero, List.replicate_succ, List.length_cons, List.length_nil, List.cons_append, List.nil_append, Nat.reduceSub, Nat.reduceAdd, List.getElem?_cons_zero, List.getElem?_cons_succ, Option.some.injEq, exists_eq_left', ixD_i, setIx_ri, appD_r, isC_r, items_tup, items_lst, items_fro, items_ref, tru_b, tru_i, b_add, b_sub, b_mul, b_div, b_mod, b_pow, b_band, addD_ii, subD_ii, mulD_ii, modD_ii, divD_ii, powD_ii, bandD_ii, addD_tt, addD_ll, c_eq, c_ne, c_lt, c_le, c_gt, c_ge, c_is, c_isn, isD_bb, eqD_ii, eqD_ss, eqD_bb, ltD_ii, leD_ii, bi_len, bi_max, bi_min, bi_tup, bi_lst, bi_repr, bi_all, maxB_ii, minB_ii, lenB_1, tupB_1, lstB_1, reprB_1, allB_1, slD_t, slD_l, slD_f, slD_r, ints2_ii, popD_ri, AG.wipeD, asg_n, asg_t, asg_p, AG.setAll, atI_0, atI_1, atI_2, atI_3, ixN_30, ixN_31, ixN_32, List.set_cons_zero, List.set_cons_succ, List.getElem?_set_self, List.length_set, Bool.and_eq_true, decide_eq_true_eq, decide_eq_false_iff_not, bne_iff_ne, bne_eq_false_iff_eq, Int.toNat_natCast]
  have e1 := set_at hk (some [.dic false [.s "web"] [dWe w]])
  refine (hc _ w hw).mono fun d S2 ⟨q1, q2⟩ => ?_
  subst q1 q2
  try simp only [runF, exs, ex, ev, evs, evt, evo, evi, evc, ok_bnd, ok_ret', ok_getV, ok_getC, ok_setC, ok_opt, ok_need, ok_ite, ok_mkLf, ok_mkLt, ok_notB, List.map_cons, List.map_nil, List.replicate_zero, List.replicate_succ, List.length_cons, List.length_nil, List.cons_append, List.nil_append, Nat.reduceSub, Nat.reduceAdd, List.getElem?_cons_zero, List.getElem?_cons_succ, Option.some.injEq, exists_eq_left', ixD_i, setIx_ri, appD_r, isC_r, items_tup, items_lst, items_fro, items_ref, tru_b, tru_i, b_add, b_sub, b_mul, b_div, b_mod, b_pow, b_band, addD_ii, subD_ii, mulD_ii, modD_ii, divD_ii, powD_ii, bandD_ii, addD_tt, addD_ll, c_eq, c_ne, c_lt, c_le, c_gt, c_ge, c_is, c_isn, isD_bb, eqD_ii, eqD_ss, eqD_bb, ltD_ii, leD_ii, bi_len, bi_max, bi_min, bi_tup, bi_lst, bi_repr, bi_all, maxB_ii, minB_ii, lenB_1, tupB_1, lstB_1, reprB_1, allB_1, slD_t, slD_l, slD_f, slD_r, ints2_ii, popD_ri, AG.wipeD, asg_n, asg_t, asg_p, AG.setAll, atI_0, atI_1, atI_2, atI_3, ixN_30, ixN_31, ixN_32, List.set_cons_zero, List.set_cons_succ, List.getElem?_set_self, List.length_set, Bool.and_eq_true, decide_eq_true_eq, decide_eq_false_iff_not, bne_iff_ne, bne_eq_false_iff_eq, Int.toNat_natCast]
  refine (show Ok (setflD "Ways" "beats" (.obj "Ways" k) (.int (weC 1 w.hands : Nat))) (S.set k (some [.dic false [.s "web"] [dWe w]])) _ from ?_)
  rw [ok_setfl e1 (by decide), putA_app _ _ _ _ rfl (by decide +kernel)]
  try simp only [ok_newT, runF, exs, ex, ev, evs, evt, evo, evi, evc, ok_bnd, ok_ret', ok_getV, ok_getC, ok_setC, ok_opt, ok_need, ok_ite, ok_mkLf, ok_mkLt, ok_notB, List.map_cons, List.map_nil, List.replicate_zero, List.replicate_succ, List.length_cons, List.length_nil, List.cons_append, List.nil_append, Nat.reduceSub, Nat.reduceAdd, List.getElem?_cons_zero, List.getElem?_cons_succ, Option.some.injEq, exists_eq_left', ixD_i, setIx_ri, appD_r, isC_r, items_tup, items_lst, items_fro, items_ref, tru_b, tru_i, b_add, b_sub, b_mul, b_div, b_mod, b_pow, b_band, addD_ii, subD_ii, mulD_ii, modD_ii, divD_ii, powD_ii, bandD_ii, addD_tt, addD_ll, c_eq, c_ne, c_lt, c_le, c_gt, c_ge, c_is, c_isn, isD_bb, eqD_ii, eqD_ss, eqD_bb, ltD_ii, leD_ii, bi_len, bi_max, bi_min, bi_tup, bi_lst, bi_repr, bi_all, maxB_ii, minB_ii, lenB_1, tupB_1, lstB_1, reprB_1, allB_1, slD_t, slD_l, slD_f, slD_r, ints2_ii, popD_ri, AG.wipeD, asg_n, asg_t, asg_p, AG.setAll, atI_0, atI_1, atI_2, atI_3, ixN_30, ixN_31, ixN_32, List.set_cons_zero, List.set_cons_succ, List.getElem?_set_self, List.length_set, Bool.and_eq_true, decide_eq_true_eq, decide_eq_false_iff_not, bne_iff_ne, bne_eq_false_iff_eq, Int.toNat_natCast]
  have e2 := set_at e1 (some [.dic false [.s "web", .s "beats"] [dWe w, .int (weC 1 w.hands : Nat)]])
  have hkl : k < S.length := (List.getElem?_eq_some_iff.mp hk).1
  have e3 : (((S.set k (some [.dic false [.s "web"] [dWe w]])).set k (some [.dic false [.s "web", .s "beats"] [dWe w, .int (weC 1 w.hands : Nat)]])) ++ [some [.dic true [] []]])[k]? = some (some [.dic false [.s "web", .s "beats"] [dWe w, .int (weC 1 w.hands : Nat)]]) := by
    rw [List.getElem?_append_left (by simpa using hkl)]
    exact e2
  rw [ok_setfl e3 (by decide), putA_app _ _ _ _ rfl (by decide +kernel)]
  refine ⟨by trivial, ⟨by omega, hw, set_at e3 _, [], [], ?_, ⟨rfl, List.nodup_nil, fun q h => (nomatch h), fun h b v e => ?_⟩⟩, by simp, ?_⟩
  · rw [List.getElem?_set_ne (by omega), List.getElem?_append_right (by simp)]
    simp
  · rw [show lookY [] [] (Ky.t [(h : Int), (b : Int)]) = none from rfl] at e
    cases e
  · exact (((Fr.set k S _).trans (Fr.set k _ _)).trans (Fr.app k _ _)).trans (Fr.set k _ _)
end
end AGL
namespace AGL
open PySem AG
/-! ### parts of the way back -/
def dRows (rs : List Row) : D := .lst (rs.map dRow)
def dPart (p : List Row × Nat) : D := .tup [dRows p.1, .int (p.2 : Nat)]
def dParts (ps : List (List Row × Nat)) : D := .lst (ps.map dPart)
def flat (ps : List (List Row × Nat)) : List Row := ps.flatMap fun p => (List.replicate p.2 p.1).flatten
structure PsOk (w : We) (ps : List (List Row × Nat)) : Prop where
  le : ps.length ≤ 3
  len : ∀ p ∈ ps, p.1.length ≤ 1440
  one : ∀ p ∈ ps, 1 ≤ p.2
  big : ∀ p ∈ ps, p.2 < 2 ^ 81
  rows : ∀ p ∈ ps, ∀ q ∈ p.1, RowOk w q
def RoundW (F : List D → M D) : Prop := ∀ (S : Sto) (k r : Nat) (w : We) (R : Nat) (rows : List Row) (i hc : Nat) (b0 bc : Int), WA S k r w → S[R]? = some (some (rows.map dRow)) → i < rows.length → rows.length ≤ 1440 → (∀ q ∈ rows, RowOk w q) → hc < w.hands.length → Go w hc b0 (rows.drop i) hc bc → (∃ q : Int, bc = b0 + (ck w : Nat) * q) → 0 ≤ bc → bc ≤ 10 ^ 20 →
  Ok (F [.obj "Ways" k, .ref R, .int (i : Nat), .int bc, .int 0]) S fun d S' => ∃ (more : Nat) (left : List Row) (h' : Nat) (b' : Int), d = .tup [dParts [(rows.take i, 1), (rows.drop i, 1 + more), (left, 1)], .int (h' : Nat), .int b'] ∧ Go w hc bc ((List.replicate more (rows.drop i)).flatten ++ left) h' b' ∧ b' < 0 ∧ left.length ≤ 1440 ∧ (∀ q ∈ left, RowOk w q) ∧ more < 2 ^ 80 ∧ WA S' k r w ∧ Fr S.length S S'
theorem cut_drop (xs : List D) (n : Nat) : cutD xs (some (n : Int)) none = xs.drop n := by
  unfold cutD
  show (xs.drop (if (n : Int) < 0 then ((n : Int) + (xs.length : Int)).toNat else min (n : Int).toNat xs.length)).take (xs.length - (if (n : Int) < 0 then ((n : Int) + (xs.length : Int)).toNat else min (n : Int).toNat xs.length)) = _
  rw [if_neg (by omega), Int.toNat_natCast]
  rcases Nat.le_total n xs.length with h | h
  · rw [Nat.min_eq_left h, List.take_of_length_le (by simp)]
  · rw [Nat.min_eq_right h, List.drop_of_length_le (Nat.le_refl _), List.drop_of_length_le h, List.take_nil]
/-- the ago of a row that is told -/
def agD (w : We) (d : D) : D := match d with
  | .tup [.int a, .int b] => .int (agR w (a.toNat, b.toNat) : Nat)
  | d => d
theorem agD_row (w : We) (q : Row) : agD w (dRow q) = .int (agR w q : Nat) := rfl
theorem sum_ints (w : We) (rs : List Row) : (rs.map fun q => ((agR w q : Nat) : Int)).sum = ((sumA w rs : Nat) : Int) := by
  unfold sumA
  induction rs with
  | nil => rfl
  | cons q rs ih => rw [List.map_cons, List.sum_cons, List.map_cons, List.sum_cons, ih, Int.natCast_add]
theorem sumA_b {w : We} : ∀ (rs : List Row), (∀ q ∈ rs, RowOk w q) → rs.length ≤ sumA w rs ∧ sumA w rs ≤ 12 * rs.length
  | [], _ => by simp [sumA]
  | q :: rs, h => by
    obtain ⟨h1, h2⟩ := agR_pos (h q (List.mem_cons_self ..))
    obtain ⟨i1, i2⟩ := sumA_b rs fun x hx => h x (List.mem_cons_of_mem _ hx)
    rw [sumA_cons, List.length_cons]
    omega
section
variable {Φ : String → List D → M D} {fu : Nat}
theorem round_run (hw : WhatW (Φ "Ways._what")) (hfu : 1500 ≤ fu) : RoundW (runF Φ fu 11 b_Ways__round) := by
  intro S k r w R rows i hc b0 bc H hR hi hlen hro hh g he hb0 hb
  have hRl : R < S.length := (List.getElem?_eq_some_iff.mp hR).1
  obtain ⟨C, hC⟩ : ∃ C, rows.drop i = C := ⟨_, rfl⟩
  rw [hC] at g
  have hCl : C.length + i = rows.length := by rw [← hC, List.length_drop]; omega
  have hCo : ∀ q ∈ C, RowOk w q := fun q hq => hro q (List.mem_of_mem_drop (hC ▸ hq))
  obtain ⟨hA1, hA2⟩ := sumA_b C hCo
  simp only [b_Ways__round, runF, exs, ex, ev, evs, evt, evo, evi, evc, ok_bnd, ok_ret', ok_getV, ok_getC, ok_setC, ok_opt, ok_need, ok_ite, ok_mkLf, ok_mkLt, ok_notB, List.map_cons, List.map_nil, List.replicate_zero, List.replicate_succ, List.length_cons, List.length_nil, List.cons_append, List.nil_append, Nat.reduceSub, Nat.reduceAdd, List.getElem?_cons_zero, List.getElem?_cons_succ, Option.some.injEq, exists_eq_left', ixD_i, setIx_ri, appD_r, isC_r, items_tup, items_lst, items_fro, items_ref, tru_b, tru_i, b_add, b_sub, b_mul, b_div, b_mod, b_pow, b_band, addD_ii, subD_ii, mulD_ii, modD_ii, divD_ii, powD_ii, bandD_ii, addD_tt, addD_ll, c_eq, c_ne, c_lt, c_le, c_gt, c_ge, c_is, c_isn, isD_bb, eqD_ii, eqD_ss, eqD_bb, ltD_ii, leD_ii, bi_len, bi_max, bi_min, bi_tup, bi_lst, bi_repr, bi_all, maxB_ii, minB_ii, lenB_1, tupB_1, lstB_1, reprB_1, allB_1, slD_t, slD_l, slD_f, slD_r, ints2_ii, popD_ri, AG.wipeD, asg_n, asg_t, asg_p, AG.setAll, atI_0, atI_1, atI_2, atI_3, ixN_30, ixN_31, ixN_32, List.set_cons_zero, List.set_cons_succ, List.getElem?_set_self, List.length_set, Bool.and_eq_true, decide_eq_true_eq, decide_eq_false_iff_not, bne_iff_ne, bne_eq_false_iff_eq, Int.toNat_natCast]
  refine ⟨_, hR, ?_⟩
  try simp only [runF, exs, ex, ev, evs, evt, evo, evi, evc, ok_bnd, ok_ret', ok_getV, ok_getC, ok_setC, ok_opt, ok_need, ok_ite, ok_mkLf, ok_mkLt, ok_notB, List.map_cons, List.map_nil, List.replicate_zero, List.replicate_succ, List.length_cons, List.length_nil, List.cons_append, List.nil_append, Nat.reduceSub, Nat.reduceAdd, List.getElem?_cons_zero, List.getElem?_cons_succ, Option.some.injEq, exists_eq_left', ixD_i, setIx_ri, appD_r, isC_r, items_tup, items_lst, items_fro, items_ref, tru_b, tru_i, b_add, b_sub, b_mul, b_div, b_mod, b_pow, b_band, addD_ii, subD_ii, mulD_ii, modD_ii, divD_ii, powD_ii, bandD_ii, addD_tt, addD_ll, c_eq, c_ne, c_lt, c_le, c_gt, c_ge, c_is, c_isn, isD_bb, eqD_ii, eqD_ss, eqD_bb, ltD_ii, leD_ii, bi_len, bi_max, bi_min, bi_tup, bi_lst, bi_repr, bi_all, maxB_ii, minB_ii, lenB_1, tupB_1, lstB_1, reprB_1, allB_1, slD_t, slD_l, slD_f, slD_r, ints2_ii, popD_ri, AG.wipeD, asg_n, asg_t, asg_p, AG.setAll, atI_0, atI_1, atI_2, atI_3, ixN_30, ixN_31, ixN_32, List.set_cons_zero, List.set_cons_succ, List.getElem?_set_self, List.length_set, Bool.and_eq_true, decide_eq_true_eq, decide_eq_false_iff_not, bne_iff_ne, bne_eq_false_iff_eq, Int.toNat_natCast]
  rw [cut_drop, ← List.map_drop, hC]
  refine ok_lcmap (agD w) (by rw [List.length_map]; omega) (fun x hx => ?_) ?_
  · obtain ⟨q, hq, rfl⟩ := List.mem_map.mp hx
    refine ⟨_, rfl, ?_⟩
    try simp only [runF, exs, ex, ev, evs, evt, evo, evi, evc, ok_bnd, ok_ret', ok_getV, ok_getC, ok_setC, ok_opt, ok_need, ok_ite, ok_mkLf, ok_mkLt, ok_notB, List.map_cons, List.map_nil, List.replicate_zero, List.replicate_succ, List.length_cons, List.length_nil, List.cons_append, List.nil_append, Nat.reduceSub, Nat.reduceAdd, List.getElem?_cons_zero, List.getElem?_cons_succ, Option.some.injEq, exists_eq_left', ixD_i, setIx_ri, appD_r, isC_r, items_tup, items_lst, items_fro, items_ref, tru_b, tru_i, b_add, b_sub, b_mul, b_div, b_mod, b_pow, b_band, addD_ii, subD_ii, mulD_ii, modD_ii, divD_ii, powD_ii, bandD_ii, addD_tt, addD_ll, c_eq, c_ne, c_lt, c_le, c_gt, c_ge, c_is, c_isn, isD_bb, eqD_ii, eqD_ss, eqD_bb, ltD_ii, leD_ii, bi_len, bi_max, bi_min, bi_tup, bi_lst, bi_repr, bi_all, maxB_ii, minB_ii, lenB_1, tupB_1, lstB_1, reprB_1, allB_1, slD_t, slD_l, slD_f, slD_r, ints2_ii, popD_ri, AG.wipeD, asg_n, asg_t, asg_p, AG.setAll, atI_0, atI_1, atI_2, atI_3, ixN_30, ixN_31, ixN_32, List.set_cons_zero, List.set_cons_succ, List.getElem?_set_self, List.length_set, Bool.and_eq_true, decide_eq_true_eq, decide_eq_false_iff_not, bne_iff_ne, bne_eq_false_iff_eq, Int.toNat_natCast]
    rw [i_what H]
    refine (hw S k r w q H (hCo q hq)).mono fun d S2 ⟨e1, e2⟩ => ?_
    subst e1 e2
    obtain ⟨h2, a, t, ew, _⟩ := (hCo q hq).cop
    rw [ew]
    simp only [dW, runF, exs, ex, ev, evs, evt, evo, evi, evc, ok_bnd, ok_ret', ok_getV, ok_getC, ok_setC, ok_opt, ok_need, ok_ite, ok_mkLf, ok_mkLt, ok_notB, List.map_cons, List.map_nil, List.replicate_zero, List.replicate_succ, List.length_cons, List.length_nil, List.cons_append, List.nil_append, Nat.reduceSub, Nat.reduceAdd, List.getElem?_cons_zero, List.getElem?_cons_succ, Option.some.injEq, exists_eq_left', ixD_i, setIx_ri, appD_r, isC_r, items_tup, items_lst, items_fro, items_ref, tru_b, tru_i, b_add, b_sub, b_mul, b_div, b_mod, b_pow, b_band, addD_ii, subD_ii, mulD_ii, modD_ii, divD_ii, powD_ii, bandD_ii, addD_tt, addD_ll, c_eq, c_ne, c_lt, c_le, c_gt, c_ge, c_is, c_isn, isD_bb, eqD_ii, eqD_ss, eqD_bb, ltD_ii, leD_ii, bi_len, bi_max, bi_min, bi_tup, bi_lst, bi_repr, bi_all, maxB_ii, minB_ii, lenB_1, tupB_1, lstB_1, reprB_1, allB_1, slD_t, slD_l, slD_f, slD_r, ints2_ii, popD_ri, AG.wipeD, asg_n, asg_t, asg_p, AG.setAll, atI_0, atI_1, atI_2, atI_3, ixN_30, ixN_31, ixN_32, List.set_cons_zero, List.set_cons_succ, List.getElem?_set_self, List.length_set, Bool.and_eq_true, decide_eq_true_eq, decide_eq_false_iff_not, bne_iff_ne, bne_eq_false_iff_eq, Int.toNat_natCast]
    refine ⟨?_, by trivial⟩
    rw [agD_row]
    unfold agR
    rw [ew]
  · rw [List.map_map, show (C.map (agD w ∘ dRow)) = (C.map fun q => ((agR w q : Nat) : Int)).map D.int from by rw [List.map_map]; rfl]
    try simp only [runF, exs, ex, ev, evs, evt, evo, evi, evc, ok_bnd, ok_ret', ok_getV, ok_getC, ok_setC, ok_opt, ok_need, ok_ite, ok_mkLf, ok_mkLt, ok_notB, List.map_cons, List.map_nil, List.replicate_zero, List.replicate_succ, List.length_cons, List.length_nil, List.cons_append, List.nil_append, Nat.reduceSub, Nat.reduceAdd, List.getElem?_cons_zero, List.getElem?_cons_succ, Option.some.injEq, exists_eq_left', ixD_i, setIx_ri, appD_r, isC_r, items_tup, items_lst, items_fro, items_ref, tru_b, tru_i, b_add, b_sub, b_mul, b_div, b_mod, b_pow, b_band, addD_ii, subD_ii, mulD_ii, modD_ii, divD_ii, powD_ii, bandD_ii, addD_tt, addD_ll, c_eq, c_ne, c_lt, c_le, c_gt, c_ge, c_is, c_isn, isD_bb, eqD_ii, eqD_ss, eqD_bb, ltD_ii, leD_ii, bi_len, bi_max, bi_min, bi_tup, bi_lst, bi_repr, bi_all, maxB_ii, minB_ii, lenB_1, tupB_1, lstB_1, reprB_1, allB_1, slD_t, slD_l, slD_f, slD_r, ints2_ii, popD_ri, AG.wipeD, asg_n, asg_t, asg_p, AG.setAll, atI_0, atI_1, atI_2, atI_3, ixN_30, ixN_31, ixN_32, List.set_cons_zero, List.set_cons_succ, List.getElem?_set_self, List.length_set, Bool.and_eq_true, decide_eq_true_eq, decide_eq_false_iff_not, bne_iff_ne, bne_eq_false_iff_eq, Int.toNat_natCast]
    rw [ok_sum (by rw [List.length_map]; omega) (by
      intro n hn
      obtain ⟨q, hq, rfl⟩ := List.mem_map.mp hn
      have := (agR_pos (hCo q hq)).2
      rw [Int.natAbs_natCast]
      exact Nat.lt_of_le_of_lt this (by decide)), sum_ints]
    try simp only [runF, exs, ex, ev, evs, evt, evo, evi, evc, ok_bnd, ok_ret', ok_getV, ok_getC, ok_setC, ok_opt, ok_need, ok_ite, ok_mkLf, ok_mkLt, ok_notB, List.map_cons, List.map_nil, List.replicate_zero, List.replicate_succ, List.length_cons, List.length_nil, List.cons_append, List.nil_append, Nat.reduceSub, Nat.reduceAdd, List.getElem?_cons_zero, List.getElem?_cons_succ, Option.some.injEq, exists_eq_left', ixD_i, setIx_ri, appD_r, isC_r, items_tup, items_lst, items_fro, items_ref, tru_b, tru_i, b_add, b_sub, b_mul, b_div, b_mod, b_pow, b_band, addD_ii, subD_ii, mulD_ii, modD_ii, divD_ii, powD_ii, bandD_ii, addD_tt, addD_ll, c_eq, c_ne, c_lt, c_le, c_gt, c_ge, c_is, c_isn, isD_bb, eqD_ii, eqD_ss, eqD_bb, ltD_ii, leD_ii, bi_len, bi_max, bi_min, bi_tup, bi_lst, bi_repr, bi_all, maxB_ii, minB_ii, lenB_1, tupB_1, lstB_1, reprB_1, allB_1, slD_t, slD_l, slD_f, slD_r, ints2_ii, popD_ri, AG.wipeD, asg_n, asg_t, asg_p, AG.setAll, atI_0, atI_1, atI_2, atI_3, ixN_30, ixN_31, ixN_32, List.set_cons_zero, List.set_cons_succ, List.getElem?_set_self, List.length_set, Bool.and_eq_true, decide_eq_true_eq, decide_eq_false_iff_not, bne_iff_ne, bne_eq_false_iff_eq, Int.toNat_natCast]
    rw [atI_m1, List.length_map, List.length_map]
    have hC1 : C.length - 1 < C.length := by omega
    have hlast : sumA w C = sumA w (C.take (C.length - 1)) + agR w (C[C.length - 1]) := by
      have e : C = C.take (C.length - 1) ++ [C[C.length - 1]] := by
        conv => lhs; rw [← List.take_append_drop (C.length - 1) C]
        rw [List.drop_eq_getElem_cons hC1, List.drop_of_length_le (by omega)]
      conv => lhs; rw [e]
      rw [sumA_app, sumA_cons]
      rfl
    obtain ⟨al, hal⟩ : ∃ al, agR w (C[C.length - 1]) = al := ⟨_, rfl⟩
    obtain ⟨A, hA⟩ : ∃ A, sumA w C = A := ⟨_, rfl⟩
    obtain ⟨A', hA'⟩ : ∃ A', sumA w (C.take (C.length - 1)) = A' := ⟨_, rfl⟩
    have hal12 : al ≤ 12 := by rw [← hal]; exact (agR_pos (hCo _ (List.getElem_mem hC1))).2
    rw [hA, hA', hal] at hlast
    rw [hA] at hA1 hA2
    rw [hA]
    obtain ⟨bn, rfl⟩ : ∃ bn : Nat, bc = (bn : Nat) := ⟨bc.toNat, by omega⟩
    refine ⟨.int (al : Nat), by rw [List.getElem?_map, List.getElem?_map, List.getElem?_eq_getElem hC1, ← hal]; rfl, ?_⟩
    have hm : (((bn : Nat) : Int) + (al : Nat)) / (A : Nat) = (((bn + al) / A : Nat) : Int) := by rw [← Int.natCast_add, ← Int.natCast_ediv]
    have hm1 := Nat.div_mul_le_self (bn + al) A
    have hm2 := Nat.lt_div_mul_add (a := bn + al) (b := A) (by omega)
    have hm3 := Nat.div_le_self (bn + al) A
    try simp only [Int.sub_zero, runF, exs, ex, ev, evs, evt, evo, evi, evc, ok_bnd, ok_ret', ok_getV, ok_getC, ok_setC, ok_opt, ok_need, ok_ite, ok_mkLf, ok_mkLt, ok_notB, List.map_cons, List.map_nil, List.replicate_zero, List.replicate_succ, List.length_cons, List.length_nil, List.cons_append, List.nil_append, Nat.reduceSub, Nat.reduceAdd, List.getElem?_cons_zero, List.getElem?_cons_succ, Option.some.injEq, exists_eq_left', ixD_i, setIx_ri, appD_r, isC_r, items_tup, items_lst, items_fro, items_ref, tru_b, tru_i, b_add, b_sub, b_mul, b_div, b_mod, b_pow, b_band, addD_ii, subD_ii, mulD_ii, modD_ii, divD_ii, powD_ii, bandD_ii, addD_tt, addD_ll, c_eq, c_ne, c_lt, c_le, c_gt, c_ge, c_is, c_isn, isD_bb, eqD_ii, eqD_ss, eqD_bb, ltD_ii, leD_ii, bi_len, bi_max, bi_min, bi_tup, bi_lst, bi_repr, bi_all, maxB_ii, minB_ii, lenB_1, tupB_1, lstB_1, reprB_1, allB_1, slD_t, slD_l, slD_f, slD_r, ints2_ii, popD_ri, AG.wipeD, asg_n, asg_t, asg_p, AG.setAll, atI_0, atI_1, atI_2, atI_3, ixN_30, ixN_31, ixN_32, List.set_cons_zero, List.set_cons_succ, List.getElem?_set_self, List.length_set, Bool.and_eq_true, decide_eq_true_eq, decide_eq_false_iff_not, bne_iff_ne, bne_eq_false_iff_eq, Int.toNat_natCast]
    rw [hm]
    generalize (bn + al) / A = m at *
    have bigm : big (m : Nat) = true := big_of (by omega) (by omega)
    refine ⟨⟨by omega, big_nat (by omega)⟩, ⟨bigm, big_nat (by omega)⟩, by decide, ?_⟩
    obtain ⟨mA, hmA⟩ : ∃ mA, m * A = mA := ⟨_, rfl⟩
    have emA : (m : Int) * (A : Nat) = (mA : Nat) := by rw [← hmA, Int.natCast_mul]
    rw [emA]
    rw [hmA] at hm1 hm2
    refine ok_wh (fun n ρ S' => ∃ j x6, ρ = [some (.obj "Ways" k), some (.ref R), some (.int (i : Nat)), some (.int ((bn : Nat) - (mA : Nat) - (sumA w (C.take j) : Nat))), some (.int 0), some (.lst (C.map dRow)), some (.lst ((C.map fun q => ((agR w q : Nat) : Int)).map D.int)), x6, some (.int (A : Nat)), some (.int (m : Nat)), some (.ref S.length)] ∧ j + n = C.length ∧ 1 ≤ n ∧ S' = S ++ [some ((C.take j).map dRow)] ∧ (∀ j', j' < j → ((sumA w (C.take j') : Nat) : Int) ≤ (bn : Nat) - (mA : Nat))) fu C.length _ _ (by omega) ⟨0, none, by simp [sumA], by omega, by omega, rfl, fun j' h => absurd h (Nat.not_lt_zero _)⟩ ?_
    rintro n ρ S' ⟨j, x6, rfl, hj, hn, rfl, hfit⟩
    have gL : (S ++ [some ((C.take j).map dRow)])[S.length]? = some (some ((C.take j).map dRow)) := by rw [List.getElem?_append_right (Nat.le_refl _), Nat.sub_self]; rfl
    have hjl : (C.take j).length = j := by rw [List.length_take]; omega
    try simp only [runF, exs, ex, ev, evs, evt, evo, evi, evc, ok_bnd, ok_ret', ok_getV, ok_getC, ok_setC, ok_opt, ok_need, ok_ite, ok_mkLf, ok_mkLt, ok_notB, List.map_cons, List.map_nil, List.replicate_zero, List.replicate_succ, List.length_cons, List.length_nil, List.cons_append, List.nil_append, Nat.reduceSub, Nat.reduceAdd, List.getElem?_cons_zero, List.getElem?_cons_succ, Option.some.injEq, exists_eq_left', ixD_i, setIx_ri, appD_r, isC_r, items_tup, items_lst, items_fro, items_ref, tru_b, tru_i, b_add, b_sub, b_mul, b_div, b_mod, b_pow, b_band, addD_ii, subD_ii, mulD_ii, modD_ii, divD_ii, powD_ii, bandD_ii, addD_tt, addD_ll, c_eq, c_ne, c_lt, c_le, c_gt, c_ge, c_is, c_isn, isD_bb, eqD_ii, eqD_ss, eqD_bb, ltD_ii, leD_ii, bi_len, bi_max, bi_min, bi_tup, bi_lst, bi_repr, bi_all, maxB_ii, minB_ii, lenB_1, tupB_1, lstB_1, reprB_1, allB_1, slD_t, slD_l, slD_f, slD_r, ints2_ii, popD_ri, AG.wipeD, asg_n, asg_t, asg_p, AG.setAll, atI_0, atI_1, atI_2, atI_3, ixN_30, ixN_31, ixN_32, List.set_cons_zero, List.set_cons_succ, List.getElem?_set_self, List.length_set, Bool.and_eq_true, decide_eq_true_eq, decide_eq_false_iff_not, bne_iff_ne, bne_eq_false_iff_eq, Int.toNat_natCast]
    by_cases h0 : (0 : Int) ≤ (bn : Nat) - (mA : Nat) - (sumA w (C.take j) : Nat)
    · rw [if_pos h0]
      have hj2 : j < C.length - 1 := by
        rcases Nat.lt_or_ge j (C.length - 1) with z | z
        · exact z
        · exfalso
          have : j = C.length - 1 := by omega
          rw [this, hA'] at h0
          omega
      have hjC : j < C.length := by omega
      refine ⟨_, gL, ?_⟩
      rw [List.length_map, hjl, atI_of, List.getElem?_map, List.getElem?_map, List.getElem?_eq_getElem hjC]
      refine ⟨_, rfl, ?_⟩
      try simp only [runF, exs, ex, ev, evs, evt, evo, evi, evc, ok_bnd, ok_ret', ok_getV, ok_getC, ok_setC, ok_opt, ok_need, ok_ite, ok_mkLf, ok_mkLt, ok_notB, List.map_cons, List.map_nil, List.replicate_zero, List.replicate_succ, List.length_cons, List.length_nil, List.cons_append, List.nil_append, Nat.reduceSub, Nat.reduceAdd, List.getElem?_cons_zero, List.getElem?_cons_succ, Option.some.injEq, exists_eq_left', ixD_i, setIx_ri, appD_r, isC_r, items_tup, items_lst, items_fro, items_ref, tru_b, tru_i, b_add, b_sub, b_mul, b_div, b_mod, b_pow, b_band, addD_ii, subD_ii, mulD_ii, modD_ii, divD_ii, powD_ii, bandD_ii, addD_tt, addD_ll, c_eq, c_ne, c_lt, c_le, c_gt, c_ge, c_is, c_isn, isD_bb, eqD_ii, eqD_ss, eqD_bb, ltD_ii, leD_ii, bi_len, bi_max, bi_min, bi_tup, bi_lst, bi_repr, bi_all, maxB_ii, minB_ii, lenB_1, tupB_1, lstB_1, reprB_1, allB_1, slD_t, slD_l, slD_f, slD_r, ints2_ii, popD_ri, AG.wipeD, asg_n, asg_t, asg_p, AG.setAll, atI_0, atI_1, atI_2, atI_3, ixN_30, ixN_31, ixN_32, List.set_cons_zero, List.set_cons_succ, List.getElem?_set_self, List.length_set, Bool.and_eq_true, decide_eq_true_eq, decide_eq_false_iff_not, bne_iff_ne, bne_eq_false_iff_eq, Int.toNat_natCast]
      refine ⟨_, gL, ?_⟩
      refine ⟨_, gL, ?_⟩
      rw [List.length_map, hjl, atI_of, List.getElem?_map, List.getElem?_eq_getElem hjC]
      refine ⟨_, rfl, _, gL, by unfold small; exact decide_eq_true (by rw [List.length_map]; omega), _, gL, ?_⟩
      have et : C.take (j + 1) = C.take j ++ [C[j]] := by rw [List.take_add_one, List.getElem?_eq_getElem hjC]; rfl
      refine ⟨n - 1, by omega, j + 1, x6, ?_, by omega, by omega, ?_, ?_⟩
      · rw [et, sumA_app, sumA_cons, show sumA w [] = 0 from rfl]
        congr 6
        omega
      · rw [List.set_append_right _ _ (Nat.le_refl _), Nat.sub_self, et, List.map_append]
        rfl
      · intro j' hj'
        rcases Nat.lt_or_ge j' j with z | z
        · exact hfit j' z
        · have : j' = j := by omega
          subst this
          omega
    · rw [if_neg h0]
      have hjC : j < C.length := by omega
      have hset : setlD [some (.obj "Ways" k), some (.ref R), some (.int (i : Nat)), some (.int ((bn : Nat) - (mA : Nat) - (sumA w (C.take j) : Nat))), some (.int 0), some (.lst (C.map dRow)), some (.lst ((C.map fun q => ((agR w q : Nat) : Int)).map D.int)), x6, some (.int (A : Nat)), some (.int (m : Nat)), some (.ref S.length)] 10 (S ++ [some ((C.take j).map dRow)]) = .ok [some (.obj "Ways" k), some (.ref R), some (.int (i : Nat)), some (.int ((bn : Nat) - (mA : Nat) - (sumA w (C.take j) : Nat))), some (.int 0), some (.lst (C.map dRow)), some (.lst ((C.map fun q => ((agR w q : Nat) : Int)).map D.int)), x6, some (.int (A : Nat)), some (.int (m : Nat)), some (.lst ((C.take j).map dRow))] (S ++ [none]) := by
        unfold setlD
        simp only [List.getElem?_cons_succ, List.getElem?_cons_zero, gL]
        rw [List.set_append_right _ _ (Nat.le_refl _), Nat.sub_self]
        rfl
      try simp only [runF, exs, ex, ev, evs, evt, evo, evi, evc, ok_bnd, ok_ret', ok_getV, ok_getC, ok_setC, ok_opt, ok_need, ok_ite, ok_mkLf, ok_mkLt, ok_notB, List.map_cons, List.map_nil, List.replicate_zero, List.replicate_succ, List.length_cons, List.length_nil, List.cons_append, List.nil_append, Nat.reduceSub, Nat.reduceAdd, List.getElem?_cons_zero, List.getElem?_cons_succ, Option.some.injEq, exists_eq_left', ixD_i, setIx_ri, appD_r, isC_r, items_tup, items_lst, items_fro, items_ref, tru_b, tru_i, b_add, b_sub, b_mul, b_div, b_mod, b_pow, b_band, addD_ii, subD_ii, mulD_ii, modD_ii, divD_ii, powD_ii, bandD_ii, addD_tt, addD_ll, c_eq, c_ne, c_lt, c_le, c_gt, c_ge, c_is, c_isn, isD_bb, eqD_ii, eqD_ss, eqD_bb, ltD_ii, leD_ii, bi_len, bi_max, bi_min, bi_tup, bi_lst, bi_repr, bi_all, maxB_ii, minB_ii, lenB_1, tupB_1, lstB_1, reprB_1, allB_1, slD_t, slD_l, slD_f, slD_r, ints2_ii, popD_ri, AG.wipeD, asg_n, asg_t, asg_p, AG.setAll, atI_0, atI_1, atI_2, atI_3, ixN_30, ixN_31, ixN_32, List.set_cons_zero, List.set_cons_succ, List.getElem?_set_self, List.length_set, Bool.and_eq_true, decide_eq_true_eq, decide_eq_false_iff_not, bne_iff_ne, bne_eq_false_iff_eq, Int.toNat_natCast]
      refine ⟨_, _, hset, ?_⟩
      try simp only [runF, exs, ex, ev, evs, evt, evo, evi, evc, ok_bnd, ok_ret', ok_getV, ok_getC, ok_setC, ok_opt, ok_need, ok_ite, ok_mkLf, ok_mkLt, ok_notB, List.map_cons, List.map_nil, List.replicate_zero, List.replicate_succ, List.length_cons, List.length_nil, List.cons_append, List.nil_append, Nat.reduceSub, Nat.reduceAdd, List.getElem?_cons_zero, List.getElem?_cons_succ, Option.some.injEq, exists_eq_left', ixD_i, setIx_ri, appD_r, isC_r, items_tup, items_lst, items_fro, items_ref, tru_b, tru_i, b_add, b_sub, b_mul, b_div, b_mod, b_pow, b_band, addD_ii, subD_ii, mulD_ii, modD_ii, divD_ii, powD_ii, bandD_ii, addD_tt, addD_ll, c_eq, c_ne, c_lt, c_le, c_gt, c_ge, c_is, c_isn, isD_bb, eqD_ii, eqD_ss, eqD_bb, ltD_ii, leD_ii, bi_len, bi_max, bi_min, bi_tup, bi_lst, bi_repr, bi_all, maxB_ii, minB_ii, lenB_1, tupB_1, lstB_1, reprB_1, allB_1, slD_t, slD_l, slD_f, slD_r, ints2_ii, popD_ri, AG.wipeD, asg_n, asg_t, asg_p, AG.setAll, atI_0, atI_1, atI_2, atI_3, ixN_30, ixN_31, ixN_32, List.set_cons_zero, List.set_cons_succ, List.getElem?_set_self, List.length_set, Bool.and_eq_true, decide_eq_true_eq, decide_eq_false_iff_not, bne_iff_ne, bne_eq_false_iff_eq, Int.toNat_natCast]
      have hR2 : (S ++ [none])[R]? = some (some (rows.map dRow)) := by rw [List.getElem?_append_left hRl]; exact hR
      refine ⟨_, hR2, ?_⟩
      try simp only [runF, exs, ex, ev, evs, evt, evo, evi, evc, ok_bnd, ok_ret', ok_getV, ok_getC, ok_setC, ok_opt, ok_need, ok_ite, ok_mkLf, ok_mkLt, ok_notB, List.map_cons, List.map_nil, List.replicate_zero, List.replicate_succ, List.length_cons, List.length_nil, List.cons_append, List.nil_append, Nat.reduceSub, Nat.reduceAdd, List.getElem?_cons_zero, List.getElem?_cons_succ, Option.some.injEq, exists_eq_left', ixD_i, setIx_ri, appD_r, isC_r, items_tup, items_lst, items_fro, items_ref, tru_b, tru_i, b_add, b_sub, b_mul, b_div, b_mod, b_pow, b_band, addD_ii, subD_ii, mulD_ii, modD_ii, divD_ii, powD_ii, bandD_ii, addD_tt, addD_ll, c_eq, c_ne, c_lt, c_le, c_gt, c_ge, c_is, c_isn, isD_bb, eqD_ii, eqD_ss, eqD_bb, ltD_ii, leD_ii, bi_len, bi_max, bi_min, bi_tup, bi_lst, bi_repr, bi_all, maxB_ii, minB_ii, lenB_1, tupB_1, lstB_1, reprB_1, allB_1, slD_t, slD_l, slD_f, slD_r, ints2_ii, popD_ri, AG.wipeD, asg_n, asg_t, asg_p, AG.setAll, atI_0, atI_1, atI_2, atI_3, ixN_30, ixN_31, ixN_32, List.set_cons_zero, List.set_cons_succ, List.getElem?_set_self, List.length_set, Bool.and_eq_true, decide_eq_true_eq, decide_eq_false_iff_not, bne_iff_ne, bne_eq_false_iff_eq, Int.toNat_natCast]
      refine ⟨by decide, by decide, by decide, by decide, dRow C[j], by rw [List.length_map, hjl, atI_of, List.getElem?_map, List.getElem?_eq_getElem hjC]; rfl, ?_⟩
      simp only [dRow, runF, exs, ex, ev, evs, evt, evo, evi, evc, ok_bnd, ok_ret', ok_getV, ok_getC, ok_setC, ok_opt, ok_need, ok_ite, ok_mkLf, ok_mkLt, ok_notB, List.map_cons, List.map_nil, List.replicate_zero, List.replicate_succ, List.length_cons, List.length_nil, List.cons_append, List.nil_append, Nat.reduceSub, Nat.reduceAdd, List.getElem?_cons_zero, List.getElem?_cons_succ, Option.some.injEq, exists_eq_left', ixD_i, setIx_ri, appD_r, isC_r, items_tup, items_lst, items_fro, items_ref, tru_b, tru_i, b_add, b_sub, b_mul, b_div, b_mod, b_pow, b_band, addD_ii, subD_ii, mulD_ii, modD_ii, divD_ii, powD_ii, bandD_ii, addD_tt, addD_ll, c_eq, c_ne, c_lt, c_le, c_gt, c_ge, c_is, c_isn, isD_bb, eqD_ii, eqD_ss, eqD_bb, ltD_ii, leD_ii, bi_len, bi_max, bi_min, bi_tup, bi_lst, bi_repr, bi_all, maxB_ii, minB_ii, lenB_1, tupB_1, lstB_1, reprB_1, allB_1, slD_t, slD_l, slD_f, slD_r, ints2_ii, popD_ri, AG.wipeD, asg_n, asg_t, asg_p, AG.setAll, atI_0, atI_1, atI_2, atI_3, ixN_30, ixN_31, ixN_32, List.set_cons_zero, List.set_cons_succ, List.getElem?_set_self, List.length_set, Bool.and_eq_true, decide_eq_true_eq, decide_eq_false_iff_not, bne_iff_ne, bne_eq_false_iff_eq, Int.toNat_natCast]
      refine ⟨by decide, m, C.take j, C[j].1, (bn : Nat) - (mA : Nat) - (sumA w (C.take j) : Nat), ?_, ?_, by omega, by rw [hjl]; omega, fun q hq => hCo q (List.mem_of_mem_take hq), by omega, H.app _, Fr.app _ _ _⟩
      · rw [cut_take, ← List.map_take, show (1 : Int) + (m : Nat) = ((1 + m : Nat) : Int) by omega]
        rfl
      · have hCne : C ≠ [] := by intro e; rw [e] at hC1; simp at hC1
        have c1 := Go.circ H.wok g hh he hCne m (by rw [hA, hA', emA]; omega) (by rw [hA, hA']; omega)
        rw [hA, emA] at c1
        refine c1.app ?_
        obtain ⟨hj', bj, g1, g2⟩ := Go.split (xs := C.take j) (ys := C.drop j) (by rw [List.take_append_drop]; exact g)
        have e1 : hj' = C[j].1 := by
          rw [List.drop_eq_getElem_cons hjC] at g2
          generalize C[j] = q at g2
          cases g2
          rfl
        rw [← e1]
        refine g1.shift H.wok hh _ ?_ (Fits.of _ _ fun n' hn' => ?_)
        · obtain ⟨q, hq⟩ := he
          have hs := g.sum
          rw [hA] at hs
          refine ⟨q + m * q, ?_⟩
          have e2 : (ck w : Int) * q = -((A : Nat) : Int) := by omega
          rw [Int.mul_add, Int.mul_comm (m : Int) q, ← Int.mul_assoc, e2, Int.neg_mul, Int.mul_comm ((A : Nat) : Int) (m : Nat), emA]
          omega
        · rw [hjl] at hn'
          rw [List.take_take, Nat.min_eq_left (by omega)]
          exact hfit n' hn'
end
end AGL
namespace AGL
open PySem AG
theorem Fr.weak {S S' : Sto} (f : Fr S.length S S') (k : Nat) : Fr k S S' := ⟨f.len, fun j h _ => f.at_ j h (Nat.ne_of_lt h)⟩
structure BackOk (w : We) (h : Nat) (b : Int) (ps : List (List Row × Nat)) (h' : Nat) (b' : Int) : Prop where
  go : Go w h b (flat ps) h' b'
  stop : Stop w h' b'
  ps : PsOk w ps
def BackW (F : List D → M D) : Prop := ∀ (S : Sto) (k r : Nat) (w : We) (h : Nat) (b : Int), WA S k r w → h < w.hands.length → b ≤ 10 ^ 20 → Ok (F [.obj "Ways" k, .int (h : Nat), .int b]) S fun d S' => ∃ ps h' b', d = .tup [dParts ps, .int (h' : Nat), .int b'] ∧ BackOk w h b ps h' b' ∧ WA S' k r w ∧ Fr r S S'
theorem flat_1 (rows : List Row) : flat [(rows, 1)] = rows := by simp [flat]
theorem flat_3 (xs C left : List Row) (m : Nat) : flat [(xs, 1), (C, 1 + m), (left, 1)] = (xs ++ C) ++ ((List.replicate m C).flatten ++ left) := by
  rw [Nat.add_comm 1 m]
  simp [flat, List.replicate_succ]
theorem mod_eq_q {a b c : Int} (h : a % c = b % c) : ∃ q : Int, a = b + c * q := ⟨a / c - b / c, by
  have h1 := Int.mul_ediv_add_emod a c
  have h2 := Int.mul_ediv_add_emod b c
  rw [Int.mul_sub]
  omega⟩
theorem noAt_rest {w : We} {h : Nat} (hh : h < w.hands.length) (b : Nat) : noAt w h ((b % ck w : Nat) : Int) = noAt w h (b : Nat) := noAt_mod hh (mod_eq_q (by rw [Int.natCast_emod, Int.emod_emod_of_dvd _ (Int.dvd_refl _)]))
theorem rng_at {n i : Nat} (h : i < n) : (rngL 0 n)[i]? = some (.int (i : Nat)) := by
  rw [rngL_0, List.getElem?_map, List.getElem?_range h]
  rfl
theorem rng_snoc (n : Nat) : rngL 0 n ++ [.int (n : Nat)] = rngL 0 (n + 1) := by
  rw [rngL_0, rngL_0, List.range_succ, List.map_append]
  rfl
structure Met (w : We) (h : Nat) (b : Int) (rows : List Row) (hc : Nat) (bc : Int) (ks : List Ky) : Prop where
  go : Go w h b rows hc bc
  hcl : hc < w.hands.length
  le : bc ≤ b
  len : ks.length = rows.length
  nd : ks.Nodup
  dom : ∀ q ∈ ks, ∃ h b : Nat, q = .t [(h : Int), (b : Int)] ∧ h < w.hands.length ∧ b < ck w
  at_ : ∀ i, i < rows.length → ∃ (hi bi : Nat), ks[i]? = some (.t [(hi : Int), ((bi % ck w : Nat) : Int)]) ∧ Go w h b (rows.take i) hi (bi : Nat) ∧ Go w hi (bi : Nat) (rows.drop i) hc bc
theorem Met.snoc {w : We} (hw : WeOk w) {h : Nat} {b : Int} {rows : List Row} {hc bn : Nat} {ks : List Ky} (m : Met w h b rows hc (bn : Nat) ks) {h2 a : Nat} {t : List Nat} (e : (ruA w hc (noAt w hc (bn : Nat))).wh = .cop h2 a t) (hn : Ky.t [(hc : Int), ((bn % ck w : Nat) : Int)] ∉ ks) :
    Met w h b (rows ++ [(hc, noAt w hc (bn : Nat))]) h2 ((bn : Nat) - (a : Nat)) (ks ++ [.t [(hc : Int), ((bn % ck w : Nat) : Int)]]) := by
  have g1 : Go w hc (bn : Nat) [(hc, noAt w hc (bn : Nat))] h2 ((bn : Nat) - (a : Nat)) := .cons hc _ h2 a t _ _ _ (by omega) e (.nil _ _)
  have ho := (ruA_ok hw m.hcl (noAt_lt hw m.hcl (bn : Nat))).wh
  rw [e] at ho
  have hl := m.len
  have hle := m.le
  refine ⟨m.go.app g1, ho.1, by omega, by rw [List.length_append, List.length_append, hl]; rfl, ?_, ?_, ?_⟩
  · rw [List.nodup_append]
    refine ⟨m.nd, by simp, ?_⟩
    intro x hx y hy e
    rw [List.mem_singleton.mp hy] at e
    exact hn (e ▸ hx)
  · intro q hq
    rcases List.mem_append.mp hq with z | z
    · exact m.dom q z
    · rw [List.mem_singleton.mp z]
      exact ⟨hc, bn % ck w, rfl, m.hcl, Nat.mod_lt _ (ck_pos hw)⟩
  · intro i hi
    rw [List.length_append, List.length_singleton] at hi
    rcases Nat.lt_or_ge i rows.length with z | z
    · obtain ⟨hi', bi, e1, e2, e3⟩ := m.at_ i z
      refine ⟨hi', bi, by rw [List.getElem?_append_left (by omega)]; exact e1, by rw [List.take_append_of_le_length (by omega)]; exact e2, by rw [List.drop_append_of_le_length (by omega)]; exact e3.app g1⟩
    · have : i = rows.length := by omega
      subst this
      refine ⟨hc, bn, by rw [← hl, List.getElem?_append_right (Nat.le_refl _), Nat.sub_self]; rfl, ?_, ?_⟩
      · rw [List.take_append_of_le_length (Nat.le_refl _), List.take_of_length_le (Nat.le_refl _)]
        exact m.go
      · rw [List.drop_append_of_le_length (Nat.le_refl _), List.drop_of_length_le (Nat.le_refl _)]
        exact g1
section
variable {Φ : String → List D → M D} {fu : Nat}
theorem back_run (hr : WRuleW (Φ "Ways.rule")) (ho : RoundW (Φ "Ways._round")) (hfu : 1500 ≤ fu) : BackW (fun ds => runF Φ fu 9 b_Ways_back (ds ++ [.int 0])) := by
  intro S k r w h b H hh hb
  simp only [b_Ways_back, ok_newT, runF, exs, ex, ev, evs, evt, evo, evi, evc, ok_bnd, ok_ret', ok_getV, ok_getC, ok_setC, ok_opt, ok_need, ok_ite, ok_mkLf, ok_mkLt, ok_notB, List.map_cons, List.map_nil, List.replicate_zero, List.replicate_succ, List.length_cons, List.length_nil, List.cons_append, List.nil_append, Nat.reduceSub, Nat.reduceAdd, List.getElem?_cons_zero, List.getElem?_cons_succ, Option.some.injEq, exists_eq_left', ixD_i, setIx_ri, appD_r, isC_r, items_tup, items_lst, items_fro, items_ref, tru_b, tru_i, b_add, b_sub, b_mul, b_div, b_mod, b_pow, b_band, addD_ii, subD_ii, mulD_ii, modD_ii, divD_ii, powD_ii, bandD_ii, addD_tt, addD_ll, c_eq, c_ne, c_lt, c_le, c_gt, c_ge, c_is, c_isn, isD_bb, eqD_ii, eqD_ss, eqD_bb, ltD_ii, leD_ii, bi_len, bi_max, bi_min, bi_tup, bi_lst, bi_repr, bi_all, maxB_ii, minB_ii, lenB_1, tupB_1, lstB_1, reprB_1, allB_1, slD_t, slD_l, slD_f, slD_r, ints2_ii, popD_ri, AG.wipeD, asg_n, asg_t, asg_p, AG.setAll, atI_0, atI_1, atI_2, atI_3, ixN_30, ixN_31, ixN_32, List.set_cons_zero, List.set_cons_succ, List.getElem?_set_self, List.length_set, Bool.and_eq_true, decide_eq_true_eq, decide_eq_false_iff_not, bne_iff_ne, bne_eq_false_iff_eq, Int.toNat_natCast]
  refine ⟨by decide, ?_⟩
  rw [List.append_assoc, List.length_append, List.length_singleton]
  have kl := H.lk
  have rl := H.lr
  have H0 : WA (S ++ ([some []] ++ [some [.dic true [] []]])) k r w := by rw [← List.append_assoc]; exact (H.app _).app _
  have F0 : Fr r S (S ++ ([some []] ++ [some [.dic true [] []]])) := by rw [← List.append_assoc]; exact (Fr.app r S _).trans (Fr.app r _ _)
  have fin : ∀ (S1 : Sto) (rows : List Row) (hc : Nat) (bc : Int) (x4 x5 x6 x7 : Option D), S1[S.length]? = some (some (rows.map dRow)) → Go w h b rows hc bc → Stop w hc bc → rows.length ≤ 1440 → WA S1 k r w → Fr r S S1 → Ok (setlD [some (.obj "Ways" k), some (.int (hc : Nat)), some (.int bc), some (.int 0), some (.ref S.length), x4, x5, x6, x7] 4) S1 fun a S' => ∃ d, a[4]? = some (some d) ∧ small 2 = true ∧ small 1 = true ∧ ∃ d_1, a[1]? = some (some d_1) ∧ ∃ d_2, a[2]? = some (some d_2) ∧ small 3 = true ∧ ∃ ps h' b', D.tup [.lst [.tup [d, .int 1]], d_1, d_2] = .tup [dParts ps, .int (h' : Nat), .int b'] ∧ BackOk w h b ps h' b' ∧ WA S' k r w ∧ Fr r S S' := by
    intro S1 rows hc bc x4 x5 x6 x7 hR g st hl H1 F1
    have hset : setlD [some (.obj "Ways" k), some (.int (hc : Nat)), some (.int bc), some (.int 0), some (.ref S.length), x4, x5, x6, x7] 4 S1 = .ok [some (.obj "Ways" k), some (.int (hc : Nat)), some (.int bc), some (.int 0), some (.lst (rows.map dRow)), x4, x5, x6, x7] (S1.set S.length none) := by
      unfold setlD
      simp only [List.getElem?_cons_succ, List.getElem?_cons_zero, hR]
      rfl
    rw [ok_of_run hset]
    refine ⟨_, rfl, by decide, by decide, _, rfl, _, rfl, by decide, [(rows, 1)], hc, bc, rfl, ⟨by rw [flat_1]; exact g, st, ⟨by simp, ?_, ?_, ?_, ?_⟩⟩, H1.set none (by omega) (by omega), fr_set F1 (Nat.le_refl _)⟩
    · intro p hp; rw [List.mem_singleton.mp hp]; exact hl
    · intro p hp; rw [List.mem_singleton.mp hp]; exact Nat.le_refl _
    · intro p hp; rw [List.mem_singleton.mp hp]; show 1 < 2 ^ 81; decide
    · intro p hp; rw [List.mem_singleton.mp hp]; exact (g.ok H.wok hh).2
  refine ok_wh (fun n ρ S' => ∃ rows hc bc x5 x6 x7 ks, ρ = [some (.obj "Ways" k), some (.int (hc : Nat)), some (.int bc), some (.int 0), some (.ref S.length), some (.dct true (S.length + 1)), x5, x6, x7] ∧ Met w h b rows hc bc ks ∧ S'[S.length]? = some (some (rows.map dRow)) ∧ S'[S.length + 1]? = some (some [.dic true ks (rngL 0 rows.length)]) ∧ WA S' k r w ∧ Fr r S S' ∧ n + rows.length = 1441) fu 1441 _ _ (by omega) ⟨[], h, b, none, none, none, [], rfl, ⟨.nil h b, hh, Int.le_refl _, rfl, List.nodup_nil, fun q hq => (nomatch hq), fun i hi => absurd hi (Nat.not_lt_zero _)⟩, by rw [List.getElem?_append_right (Nat.le_refl _), Nat.sub_self]; rfl, by rw [List.getElem?_append_right (by omega), Nat.add_sub_cancel_left]; rfl, H0, F0, rfl⟩ ?_
  rintro n ρ S1 ⟨rows, hc, bc, x5, x6, x7, ks, rfl, m, hR, hM, H1, F1, hn⟩
  have hlen := keys_len H.wok m.nd m.dom
  rw [m.len] at hlen
  have hro := (m.go.ok H.wok hh).2
  have hle := m.le
  simp only [runF, exs, ex, ev, evs, evt, evo, evi, evc, ok_bnd, ok_ret', ok_getV, ok_getC, ok_setC, ok_opt, ok_need, ok_ite, ok_mkLf, ok_mkLt, ok_notB, List.map_cons, List.map_nil, List.replicate_zero, List.replicate_succ, List.length_cons, List.length_nil, List.cons_append, List.nil_append, Nat.reduceSub, Nat.reduceAdd, List.getElem?_cons_zero, List.getElem?_cons_succ, Option.some.injEq, exists_eq_left', ixD_i, setIx_ri, appD_r, isC_r, items_tup, items_lst, items_fro, items_ref, tru_b, tru_i, b_add, b_sub, b_mul, b_div, b_mod, b_pow, b_band, addD_ii, subD_ii, mulD_ii, modD_ii, divD_ii, powD_ii, bandD_ii, addD_tt, addD_ll, c_eq, c_ne, c_lt, c_le, c_gt, c_ge, c_is, c_isn, isD_bb, eqD_ii, eqD_ss, eqD_bb, ltD_ii, leD_ii, bi_len, bi_max, bi_min, bi_tup, bi_lst, bi_repr, bi_all, maxB_ii, minB_ii, lenB_1, tupB_1, lstB_1, reprB_1, allB_1, slD_t, slD_l, slD_f, slD_r, ints2_ii, popD_ri, AG.wipeD, asg_n, asg_t, asg_p, AG.setAll, atI_0, atI_1, atI_2, atI_3, ixN_30, ixN_31, ixN_32, List.set_cons_zero, List.set_cons_succ, List.getElem?_set_self, List.length_set, Bool.and_eq_true, decide_eq_true_eq, decide_eq_false_iff_not, bne_iff_ne, bne_eq_false_iff_eq, Int.toNat_natCast]
  by_cases h0 : (0 : Int) ≤ bc
  · rw [if_pos h0]
    obtain ⟨bn, rfl⟩ : ∃ bn : Nat, bc = (bn : Nat) := ⟨bc.toNat, by omega⟩
    rw [f_beats H1]
    have hck := ck_pos H.wok
    try simp only [runF, exs, ex, ev, evs, evt, evo, evi, evc, ok_bnd, ok_ret', ok_getV, ok_getC, ok_setC, ok_opt, ok_need, ok_ite, ok_mkLf, ok_mkLt, ok_notB, List.map_cons, List.map_nil, List.replicate_zero, List.replicate_succ, List.length_cons, List.length_nil, List.cons_append, List.nil_append, Nat.reduceSub, Nat.reduceAdd, List.getElem?_cons_zero, List.getElem?_cons_succ, Option.some.injEq, exists_eq_left', ixD_i, setIx_ri, appD_r, isC_r, items_tup, items_lst, items_fro, items_ref, tru_b, tru_i, b_add, b_sub, b_mul, b_div, b_mod, b_pow, b_band, addD_ii, subD_ii, mulD_ii, modD_ii, divD_ii, powD_ii, bandD_ii, addD_tt, addD_ll, c_eq, c_ne, c_lt, c_le, c_gt, c_ge, c_is, c_isn, isD_bb, eqD_ii, eqD_ss, eqD_bb, ltD_ii, leD_ii, bi_len, bi_max, bi_min, bi_tup, bi_lst, bi_repr, bi_all, maxB_ii, minB_ii, lenB_1, tupB_1, lstB_1, reprB_1, allB_1, slD_t, slD_l, slD_f, slD_r, ints2_ii, popD_ri, AG.wipeD, asg_n, asg_t, asg_p, AG.setAll, atI_0, atI_1, atI_2, atI_3, ixN_30, ixN_31, ixN_32, List.set_cons_zero, List.set_cons_succ, List.getElem?_set_self, List.length_set, Bool.and_eq_true, decide_eq_true_eq, decide_eq_false_iff_not, bne_iff_ne, bne_eq_false_iff_eq, Int.toNat_natCast]
    rw [← Int.natCast_emod]
    refine ⟨by omega, by decide, ?_⟩
    rw [ok_din hM, lookY_isSome (by rw [m.len, rng_len])]
    try simp only [runF, exs, ex, ev, evs, evt, evo, evi, evc, ok_bnd, ok_ret', ok_getV, ok_getC, ok_setC, ok_opt, ok_need, ok_ite, ok_mkLf, ok_mkLt, ok_notB, List.map_cons, List.map_nil, List.replicate_zero, List.replicate_succ, List.length_cons, List.length_nil, List.cons_append, List.nil_append, Nat.reduceSub, Nat.reduceAdd, List.getElem?_cons_zero, List.getElem?_cons_succ, Option.some.injEq, exists_eq_left', ixD_i, setIx_ri, appD_r, isC_r, items_tup, items_lst, items_fro, items_ref, tru_b, tru_i, b_add, b_sub, b_mul, b_div, b_mod, b_pow, b_band, addD_ii, subD_ii, mulD_ii, modD_ii, divD_ii, powD_ii, bandD_ii, addD_tt, addD_ll, c_eq, c_ne, c_lt, c_le, c_gt, c_ge, c_is, c_isn, isD_bb, eqD_ii, eqD_ss, eqD_bb, ltD_ii, leD_ii, bi_len, bi_max, bi_min, bi_tup, bi_lst, bi_repr, bi_all, maxB_ii, minB_ii, lenB_1, tupB_1, lstB_1, reprB_1, allB_1, slD_t, slD_l, slD_f, slD_r, ints2_ii, popD_ri, AG.wipeD, asg_n, asg_t, asg_p, AG.setAll, atI_0, atI_1, atI_2, atI_3, ixN_30, ixN_31, ixN_32, List.set_cons_zero, List.set_cons_succ, List.getElem?_set_self, List.length_set, Bool.and_eq_true, decide_eq_true_eq, decide_eq_false_iff_not, bne_iff_ne, bne_eq_false_iff_eq, Int.toNat_natCast]
    by_cases hq : Ky.t [(hc : Int), ((bn % ck w : Nat) : Int)] ∈ ks
    · rw [decide_eq_true hq]
      refine ⟨fun _ => ?_, fun z => by first | exact absurd z (by decide) | exact absurd hq z | exact absurd z hq | simp_all⟩
      try simp only [runF, exs, ex, ev, evs, evt, evo, evi, evc, ok_bnd, ok_ret', ok_getV, ok_getC, ok_setC, ok_opt, ok_need, ok_ite, ok_mkLf, ok_mkLt, ok_notB, List.map_cons, List.map_nil, List.replicate_zero, List.replicate_succ, List.length_cons, List.length_nil, List.cons_append, List.nil_append, Nat.reduceSub, Nat.reduceAdd, List.getElem?_cons_zero, List.getElem?_cons_succ, Option.some.injEq, exists_eq_left', ixD_i, setIx_ri, appD_r, isC_r, items_tup, items_lst, items_fro, items_ref, tru_b, tru_i, b_add, b_sub, b_mul, b_div, b_mod, b_pow, b_band, addD_ii, subD_ii, mulD_ii, modD_ii, divD_ii, powD_ii, bandD_ii, addD_tt, addD_ll, c_eq, c_ne, c_lt, c_le, c_gt, c_ge, c_is, c_isn, isD_bb, eqD_ii, eqD_ss, eqD_bb, ltD_ii, leD_ii, bi_len, bi_max, bi_min, bi_tup, bi_lst, bi_repr, bi_all, maxB_ii, minB_ii, lenB_1, tupB_1, lstB_1, reprB_1, allB_1, slD_t, slD_l, slD_f, slD_r, ints2_ii, popD_ri, AG.wipeD, asg_n, asg_t, asg_p, AG.setAll, atI_0, atI_1, atI_2, atI_3, ixN_30, ixN_31, ixN_32, List.set_cons_zero, List.set_cons_succ, List.getElem?_set_self, List.length_set, Bool.and_eq_true, decide_eq_true_eq, decide_eq_false_iff_not, bne_iff_ne, bne_eq_false_iff_eq, Int.toNat_natCast]
      rw [i_round H1]
      try simp only [runF, exs, ex, ev, evs, evt, evo, evi, evc, ok_bnd, ok_ret', ok_getV, ok_getC, ok_setC, ok_opt, ok_need, ok_ite, ok_mkLf, ok_mkLt, ok_notB, List.map_cons, List.map_nil, List.replicate_zero, List.replicate_succ, List.length_cons, List.length_nil, List.cons_append, List.nil_append, Nat.reduceSub, Nat.reduceAdd, List.getElem?_cons_zero, List.getElem?_cons_succ, Option.some.injEq, exists_eq_left', ixD_i, setIx_ri, appD_r, isC_r, items_tup, items_lst, items_fro, items_ref, tru_b, tru_i, b_add, b_sub, b_mul, b_div, b_mod, b_pow, b_band, addD_ii, subD_ii, mulD_ii, modD_ii, divD_ii, powD_ii, bandD_ii, addD_tt, addD_ll, c_eq, c_ne, c_lt, c_le, c_gt, c_ge, c_is, c_isn, isD_bb, eqD_ii, eqD_ss, eqD_bb, ltD_ii, leD_ii, bi_len, bi_max, bi_min, bi_tup, bi_lst, bi_repr, bi_all, maxB_ii, minB_ii, lenB_1, tupB_1, lstB_1, reprB_1, allB_1, slD_t, slD_l, slD_f, slD_r, ints2_ii, popD_ri, AG.wipeD, asg_n, asg_t, asg_p, AG.setAll, atI_0, atI_1, atI_2, atI_3, ixN_30, ixN_31, ixN_32, List.set_cons_zero, List.set_cons_succ, List.getElem?_set_self, List.length_set, Bool.and_eq_true, decide_eq_true_eq, decide_eq_false_iff_not, bne_iff_ne, bne_eq_false_iff_eq, Int.toNat_natCast]
      obtain ⟨v, hv⟩ := lookY_mem ks (rngL 0 rows.length) _ (by rw [m.len, rng_len]) hq
      obtain ⟨i, hi1, hi2⟩ := lookY_in _ _ _ _ hv
      have hil : i < rows.length := by
        rw [← m.len]
        exact (List.getElem?_eq_some_iff.mp hi1).1
      rw [rng_at hil] at hi2
      cases hi2
      rw [ok_dget hM hv]
      try simp only [runF, exs, ex, ev, evs, evt, evo, evi, evc, ok_bnd, ok_ret', ok_getV, ok_getC, ok_setC, ok_opt, ok_need, ok_ite, ok_mkLf, ok_mkLt, ok_notB, List.map_cons, List.map_nil, List.replicate_zero, List.replicate_succ, List.length_cons, List.length_nil, List.cons_append, List.nil_append, Nat.reduceSub, Nat.reduceAdd, List.getElem?_cons_zero, List.getElem?_cons_succ, Option.some.injEq, exists_eq_left', ixD_i, setIx_ri, appD_r, isC_r, items_tup, items_lst, items_fro, items_ref, tru_b, tru_i, b_add, b_sub, b_mul, b_div, b_mod, b_pow, b_band, addD_ii, subD_ii, mulD_ii, modD_ii, divD_ii, powD_ii, bandD_ii, addD_tt, addD_ll, c_eq, c_ne, c_lt, c_le, c_gt, c_ge, c_is, c_isn, isD_bb, eqD_ii, eqD_ss, eqD_bb, ltD_ii, leD_ii, bi_len, bi_max, bi_min, bi_tup, bi_lst, bi_repr, bi_all, maxB_ii, minB_ii, lenB_1, tupB_1, lstB_1, reprB_1, allB_1, slD_t, slD_l, slD_f, slD_r, ints2_ii, popD_ri, AG.wipeD, asg_n, asg_t, asg_p, AG.setAll, atI_0, atI_1, atI_2, atI_3, ixN_30, ixN_31, ixN_32, List.set_cons_zero, List.set_cons_succ, List.getElem?_set_self, List.length_set, Bool.and_eq_true, decide_eq_true_eq, decide_eq_false_iff_not, bne_iff_ne, bne_eq_false_iff_eq, Int.toNat_natCast]
      obtain ⟨h1, b1, e1, e2, e3⟩ := m.at_ i hil
      rw [hi1] at e1
      have e4 : ((hc : Int) = h1) ∧ (((bn % ck w : Nat) : Int) = ((b1 % ck w : Nat) : Int)) := by
        injection e1 with e1
        injection e1 with e1
        injection e1 with e3 e4
        injection e4 with e4 _
        exact ⟨e3, e4⟩
      have e5 : h1 = hc := by omega
      subst e5
      refine (ho S1 k r w S.length rows i h1 (b1 : Nat) (bn : Nat) H1 hR hil hlen hro m.hcl e3 (mod_eq_q (by rw [← Int.natCast_emod, ← Int.natCast_emod]; exact e4.2)) h0 (by omega)).mono fun d S2 ⟨more, left, h', b', q1, q2, q3, q4, q5, q6, q7, q8⟩ => ?_
      subst q1
      refine ⟨_, h', b', rfl, ⟨?_, .inl q3, ⟨by simp, ?_, ?_, ?_, ?_⟩⟩, q7, F1.trans (q8.weak r)⟩
      · rw [flat_3, List.take_append_drop]
        exact m.go.app q2
      · intro p hp
        have : p = (rows.take i, 1) ∨ p = (rows.drop i, 1 + more) ∨ p = (left, 1) := by simpa using hp
        rcases this with e | e | e <;> subst e
        · show (rows.take i).length ≤ 1440; rw [List.length_take]; omega
        · show (rows.drop i).length ≤ 1440; rw [List.length_drop]; omega
        · exact q4
      · intro p hp
        have : p = (rows.take i, 1) ∨ p = (rows.drop i, 1 + more) ∨ p = (left, 1) := by simpa using hp
        rcases this with e | e | e <;> subst e
        · exact Nat.le_refl _
        · show 1 ≤ 1 + more; omega
        · exact Nat.le_refl _
      · intro p hp
        have : p = (rows.take i, 1) ∨ p = (rows.drop i, 1 + more) ∨ p = (left, 1) := by simpa using hp
        rcases this with e | e | e <;> subst e
        · show 1 < 2 ^ 81; decide
        · show 1 + more < 2 ^ 81; omega
        · show 1 < 2 ^ 81; decide
      · intro p hp q hq
        have : p = (rows.take i, 1) ∨ p = (rows.drop i, 1 + more) ∨ p = (left, 1) := by simpa using hp
        rcases this with e | e | e <;> subst e
        · exact hro q (List.mem_of_mem_take hq)
        · exact hro q (List.mem_of_mem_drop hq)
        · exact q5 q hq
    · rw [decide_eq_false hq]
      refine ⟨fun z => by first | exact absurd z (by decide) | exact absurd hq z | exact absurd z hq | simp_all, fun _ => ?_⟩
      try simp only [runF, exs, ex, ev, evs, evt, evo, evi, evc, ok_bnd, ok_ret', ok_getV, ok_getC, ok_setC, ok_opt, ok_need, ok_ite, ok_mkLf, ok_mkLt, ok_notB, List.map_cons, List.map_nil, List.replicate_zero, List.replicate_succ, List.length_cons, List.length_nil, List.cons_append, List.nil_append, Nat.reduceSub, Nat.reduceAdd, List.getElem?_cons_zero, List.getElem?_cons_succ, Option.some.injEq, exists_eq_left', ixD_i, setIx_ri, appD_r, isC_r, items_tup, items_lst, items_fro, items_ref, tru_b, tru_i, b_add, b_sub, b_mul, b_div, b_mod, b_pow, b_band, addD_ii, subD_ii, mulD_ii, modD_ii, divD_ii, powD_ii, bandD_ii, addD_tt, addD_ll, c_eq, c_ne, c_lt, c_le, c_gt, c_ge, c_is, c_isn, isD_bb, eqD_ii, eqD_ss, eqD_bb, ltD_ii, leD_ii, bi_len, bi_max, bi_min, bi_tup, bi_lst, bi_repr, bi_all, maxB_ii, minB_ii, lenB_1, tupB_1, lstB_1, reprB_1, allB_1, slD_t, slD_l, slD_f, slD_r, ints2_ii, popD_ri, AG.wipeD, asg_n, asg_t, asg_p, AG.setAll, atI_0, atI_1, atI_2, atI_3, ixN_30, ixN_31, ixN_32, List.set_cons_zero, List.set_cons_succ, List.getElem?_set_self, List.length_set, Bool.and_eq_true, decide_eq_true_eq, decide_eq_false_iff_not, bne_iff_ne, bne_eq_false_iff_eq, Int.toNat_natCast]
      rw [i_rule H1]
      try simp only [runF, exs, ex, ev, evs, evt, evo, evi, evc, ok_bnd, ok_ret', ok_getV, ok_getC, ok_setC, ok_opt, ok_need, ok_ite, ok_mkLf, ok_mkLt, ok_notB, List.map_cons, List.map_nil, List.replicate_zero, List.replicate_succ, List.length_cons, List.length_nil, List.cons_append, List.nil_append, Nat.reduceSub, Nat.reduceAdd, List.getElem?_cons_zero, List.getElem?_cons_succ, Option.some.injEq, exists_eq_left', ixD_i, setIx_ri, appD_r, isC_r, items_tup, items_lst, items_fro, items_ref, tru_b, tru_i, b_add, b_sub, b_mul, b_div, b_mod, b_pow, b_band, addD_ii, subD_ii, mulD_ii, modD_ii, divD_ii, powD_ii, bandD_ii, addD_tt, addD_ll, c_eq, c_ne, c_lt, c_le, c_gt, c_ge, c_is, c_isn, isD_bb, eqD_ii, eqD_ss, eqD_bb, ltD_ii, leD_ii, bi_len, bi_max, bi_min, bi_tup, bi_lst, bi_repr, bi_all, maxB_ii, minB_ii, lenB_1, tupB_1, lstB_1, reprB_1, allB_1, slD_t, slD_l, slD_f, slD_r, ints2_ii, popD_ri, AG.wipeD, asg_n, asg_t, asg_p, AG.setAll, atI_0, atI_1, atI_2, atI_3, ixN_30, ixN_31, ixN_32, List.set_cons_zero, List.set_cons_succ, List.getElem?_set_self, List.length_set, Bool.and_eq_true, decide_eq_true_eq, decide_eq_false_iff_not, bne_iff_ne, bne_eq_false_iff_eq, Int.toNat_natCast]
      refine (hr S1 k r w hc (bn % ck w) H1 m.hcl (Nat.mod_lt _ hck)).mono fun d S2 ⟨e1, H2, l2, F2⟩ => ?_
      subst e1
      rw [noAt_rest m.hcl]
      try simp only [runF, exs, ex, ev, evs, evt, evo, evi, evc, ok_bnd, ok_ret', ok_getV, ok_getC, ok_setC, ok_opt, ok_need, ok_ite, ok_mkLf, ok_mkLt, ok_notB, List.map_cons, List.map_nil, List.replicate_zero, List.replicate_succ, List.length_cons, List.length_nil, List.cons_append, List.nil_append, Nat.reduceSub, Nat.reduceAdd, List.getElem?_cons_zero, List.getElem?_cons_succ, Option.some.injEq, exists_eq_left', ixD_i, setIx_ri, appD_r, isC_r, items_tup, items_lst, items_fro, items_ref, tru_b, tru_i, b_add, b_sub, b_mul, b_div, b_mod, b_pow, b_band, addD_ii, subD_ii, mulD_ii, modD_ii, divD_ii, powD_ii, bandD_ii, addD_tt, addD_ll, c_eq, c_ne, c_lt, c_le, c_gt, c_ge, c_is, c_isn, isD_bb, eqD_ii, eqD_ss, eqD_bb, ltD_ii, leD_ii, bi_len, bi_max, bi_min, bi_tup, bi_lst, bi_repr, bi_all, maxB_ii, minB_ii, lenB_1, tupB_1, lstB_1, reprB_1, allB_1, slD_t, slD_l, slD_f, slD_r, ints2_ii, popD_ri, AG.wipeD, asg_n, asg_t, asg_p, AG.setAll, atI_0, atI_1, atI_2, atI_3, ixN_30, ixN_31, ixN_32, List.set_cons_zero, List.set_cons_succ, List.getElem?_set_self, List.length_set, Bool.and_eq_true, decide_eq_true_eq, decide_eq_false_iff_not, bne_iff_ne, bne_eq_false_iff_eq, Int.toNat_natCast]
      rw [f_web H2]
      try simp only [dWe, runF, exs, ex, ev, evs, evt, evo, evi, evc, ok_bnd, ok_ret', ok_getV, ok_getC, ok_setC, ok_opt, ok_need, ok_ite, ok_mkLf, ok_mkLt, ok_notB, List.map_cons, List.map_nil, List.replicate_zero, List.replicate_succ, List.length_cons, List.length_nil, List.cons_append, List.nil_append, Nat.reduceSub, Nat.reduceAdd, List.getElem?_cons_zero, List.getElem?_cons_succ, Option.some.injEq, exists_eq_left', ixD_i, setIx_ri, appD_r, isC_r, items_tup, items_lst, items_fro, items_ref, tru_b, tru_i, b_add, b_sub, b_mul, b_div, b_mod, b_pow, b_band, addD_ii, subD_ii, mulD_ii, modD_ii, divD_ii, powD_ii, bandD_ii, addD_tt, addD_ll, c_eq, c_ne, c_lt, c_le, c_gt, c_ge, c_is, c_isn, isD_bb, eqD_ii, eqD_ss, eqD_bb, ltD_ii, leD_ii, bi_len, bi_max, bi_min, bi_tup, bi_lst, bi_repr, bi_all, maxB_ii, minB_ii, lenB_1, tupB_1, lstB_1, reprB_1, allB_1, slD_t, slD_l, slD_f, slD_r, ints2_ii, popD_ri, AG.wipeD, asg_n, asg_t, asg_p, AG.setAll, atI_0, atI_1, atI_2, atI_3, ixN_30, ixN_31, ixN_32, List.set_cons_zero, List.set_cons_succ, List.getElem?_set_self, List.length_set, Bool.and_eq_true, decide_eq_true_eq, decide_eq_false_iff_not, bne_iff_ne, bne_eq_false_iff_eq, Int.toNat_natCast]
      rw [hands_at m.hcl]
      refine ⟨_, rfl, ?_⟩
      try simp only [runF, exs, ex, ev, evs, evt, evo, evi, evc, ok_bnd, ok_ret', ok_getV, ok_getC, ok_setC, ok_opt, ok_need, ok_ite, ok_mkLf, ok_mkLt, ok_notB, List.map_cons, List.map_nil, List.replicate_zero, List.replicate_succ, List.length_cons, List.length_nil, List.cons_append, List.nil_append, Nat.reduceSub, Nat.reduceAdd, List.getElem?_cons_zero, List.getElem?_cons_succ, Option.some.injEq, exists_eq_left', ixD_i, setIx_ri, appD_r, isC_r, items_tup, items_lst, items_fro, items_ref, tru_b, tru_i, b_add, b_sub, b_mul, b_div, b_mod, b_pow, b_band, addD_ii, subD_ii, mulD_ii, modD_ii, divD_ii, powD_ii, bandD_ii, addD_tt, addD_ll, c_eq, c_ne, c_lt, c_le, c_gt, c_ge, c_is, c_isn, isD_bb, eqD_ii, eqD_ss, eqD_bb, ltD_ii, leD_ii, bi_len, bi_max, bi_min, bi_tup, bi_lst, bi_repr, bi_all, maxB_ii, minB_ii, lenB_1, tupB_1, lstB_1, reprB_1, allB_1, slD_t, slD_l, slD_f, slD_r, ints2_ii, popD_ri, AG.wipeD, asg_n, asg_t, asg_p, AG.setAll, atI_0, atI_1, atI_2, atI_3, ixN_30, ixN_31, ixN_32, List.set_cons_zero, List.set_cons_succ, List.getElem?_set_self, List.length_set, Bool.and_eq_true, decide_eq_true_eq, decide_eq_false_iff_not, bne_iff_ne, bne_eq_false_iff_eq, Int.toNat_natCast]
      have hno := noAt_lt H.wok m.hcl (bn : Nat)
      rw [rules_at hno]
      refine ⟨_, rfl, ?_⟩
      try simp only [dR, runF, exs, ex, ev, evs, evt, evo, evi, evc, ok_bnd, ok_ret', ok_getV, ok_getC, ok_setC, ok_opt, ok_need, ok_ite, ok_mkLf, ok_mkLt, ok_notB, List.map_cons, List.map_nil, List.replicate_zero, List.replicate_succ, List.length_cons, List.length_nil, List.cons_append, List.nil_append, Nat.reduceSub, Nat.reduceAdd, List.getElem?_cons_zero, List.getElem?_cons_succ, Option.some.injEq, exists_eq_left', ixD_i, setIx_ri, appD_r, isC_r, items_tup, items_lst, items_fro, items_ref, tru_b, tru_i, b_add, b_sub, b_mul, b_div, b_mod, b_pow, b_band, addD_ii, subD_ii, mulD_ii, modD_ii, divD_ii, powD_ii, bandD_ii, addD_tt, addD_ll, c_eq, c_ne, c_lt, c_le, c_gt, c_ge, c_is, c_isn, isD_bb, eqD_ii, eqD_ss, eqD_bb, ltD_ii, leD_ii, bi_len, bi_max, bi_min, bi_tup, bi_lst, bi_repr, bi_all, maxB_ii, minB_ii, lenB_1, tupB_1, lstB_1, reprB_1, allB_1, slD_t, slD_l, slD_f, slD_r, ints2_ii, popD_ri, AG.wipeD, asg_n, asg_t, asg_p, AG.setAll, atI_0, atI_1, atI_2, atI_3, ixN_30, ixN_31, ixN_32, List.set_cons_zero, List.set_cons_succ, List.getElem?_set_self, List.length_set, Bool.and_eq_true, decide_eq_true_eq, decide_eq_false_iff_not, bne_iff_ne, bne_eq_false_iff_eq, Int.toNat_natCast]
      have hx := (ruA_ok H.wok m.hcl hno).wh
      have sl : S.length < S1.length := (List.getElem?_eq_some_iff.mp hR).1
      have sl2 : S.length + 1 < S1.length := (List.getElem?_eq_some_iff.mp hM).1
      have hR2 : S2[S.length]? = some (some (rows.map dRow)) := by rw [F2.at_ _ sl (by omega)]; exact hR
      have hM2 : S2[S.length + 1]? = some (some [.dic true ks (rngL 0 rows.length)]) := by rw [F2.at_ _ sl2 (by omega)]; exact hM
      have F12 := F1.trans F2
      cases ew : (ruA w hc (noAt w hc (bn : Nat))).wh with
      | own row =>
        try simp only [dW, runF, exs, ex, ev, evs, evt, evo, evi, evc, ok_bnd, ok_ret', ok_getV, ok_getC, ok_setC, ok_opt, ok_need, ok_ite, ok_mkLf, ok_mkLt, ok_notB, List.map_cons, List.map_nil, List.replicate_zero, List.replicate_succ, List.length_cons, List.length_nil, List.cons_append, List.nil_append, Nat.reduceSub, Nat.reduceAdd, List.getElem?_cons_zero, List.getElem?_cons_succ, Option.some.injEq, exists_eq_left', ixD_i, setIx_ri, appD_r, isC_r, items_tup, items_lst, items_fro, items_ref, tru_b, tru_i, b_add, b_sub, b_mul, b_div, b_mod, b_pow, b_band, addD_ii, subD_ii, mulD_ii, modD_ii, divD_ii, powD_ii, bandD_ii, addD_tt, addD_ll, c_eq, c_ne, c_lt, c_le, c_gt, c_ge, c_is, c_isn, isD_bb, eqD_ii, eqD_ss, eqD_bb, ltD_ii, leD_ii, bi_len, bi_max, bi_min, bi_tup, bi_lst, bi_repr, bi_all, maxB_ii, minB_ii, lenB_1, tupB_1, lstB_1, reprB_1, allB_1, slD_t, slD_l, slD_f, slD_r, ints2_ii, popD_ri, AG.wipeD, asg_n, asg_t, asg_p, AG.setAll, atI_0, atI_1, atI_2, atI_3, ixN_30, ixN_31, ixN_32, List.set_cons_zero, List.set_cons_succ, List.getElem?_set_self, List.length_set, Bool.and_eq_true, decide_eq_true_eq, decide_eq_false_iff_not, bne_iff_ne, bne_eq_false_iff_eq, Int.toNat_natCast]
        refine ⟨fun _ => fin S2 rows hc (bn : Nat) _ _ _ _ hR2 m.go (.inr ⟨row, ew⟩) hlen H2 F12, fun z => absurd z (by decide)⟩
      | cop h2 a t =>
        try simp only [dW, runF, exs, ex, ev, evs, evt, evo, evi, evc, ok_bnd, ok_ret', ok_getV, ok_getC, ok_setC, ok_opt, ok_need, ok_ite, ok_mkLf, ok_mkLt, ok_notB, List.map_cons, List.map_nil, List.replicate_zero, List.replicate_succ, List.length_cons, List.length_nil, List.cons_append, List.nil_append, Nat.reduceSub, Nat.reduceAdd, List.getElem?_cons_zero, List.getElem?_cons_succ, Option.some.injEq, exists_eq_left', ixD_i, setIx_ri, appD_r, isC_r, items_tup, items_lst, items_fro, items_ref, tru_b, tru_i, b_add, b_sub, b_mul, b_div, b_mod, b_pow, b_band, addD_ii, subD_ii, mulD_ii, modD_ii, divD_ii, powD_ii, bandD_ii, addD_tt, addD_ll, c_eq, c_ne, c_lt, c_le, c_gt, c_ge, c_is, c_isn, isD_bb, eqD_ii, eqD_ss, eqD_bb, ltD_ii, leD_ii, bi_len, bi_max, bi_min, bi_tup, bi_lst, bi_repr, bi_all, maxB_ii, minB_ii, lenB_1, tupB_1, lstB_1, reprB_1, allB_1, slD_t, slD_l, slD_f, slD_r, ints2_ii, popD_ri, AG.wipeD, asg_n, asg_t, asg_p, AG.setAll, atI_0, atI_1, atI_2, atI_3, ixN_30, ixN_31, ixN_32, List.set_cons_zero, List.set_cons_succ, List.getElem?_set_self, List.length_set, Bool.and_eq_true, decide_eq_true_eq, decide_eq_false_iff_not, bne_iff_ne, bne_eq_false_iff_eq, Int.toNat_natCast]
        refine ⟨fun z => absurd z (by decide +kernel), fun _ => ?_⟩
        refine ⟨_, hR2, ?_⟩
        rw [ok_dput hM2 (by rw [m.len]; omega) hq]
        try simp only [runF, exs, ex, ev, evs, evt, evo, evi, evc, ok_bnd, ok_ret', ok_getV, ok_getC, ok_setC, ok_opt, ok_need, ok_ite, ok_mkLf, ok_mkLt, ok_notB, List.map_cons, List.map_nil, List.replicate_zero, List.replicate_succ, List.length_cons, List.length_nil, List.cons_append, List.nil_append, Nat.reduceSub, Nat.reduceAdd, List.getElem?_cons_zero, List.getElem?_cons_succ, Option.some.injEq, exists_eq_left', ixD_i, setIx_ri, appD_r, isC_r, items_tup, items_lst, items_fro, items_ref, tru_b, tru_i, b_add, b_sub, b_mul, b_div, b_mod, b_pow, b_band, addD_ii, subD_ii, mulD_ii, modD_ii, divD_ii, powD_ii, bandD_ii, addD_tt, addD_ll, c_eq, c_ne, c_lt, c_le, c_gt, c_ge, c_is, c_isn, isD_bb, eqD_ii, eqD_ss, eqD_bb, ltD_ii, leD_ii, bi_len, bi_max, bi_min, bi_tup, bi_lst, bi_repr, bi_all, maxB_ii, minB_ii, lenB_1, tupB_1, lstB_1, reprB_1, allB_1, slD_t, slD_l, slD_f, slD_r, ints2_ii, popD_ri, AG.wipeD, asg_n, asg_t, asg_p, AG.setAll, atI_0, atI_1, atI_2, atI_3, ixN_30, ixN_31, ixN_32, List.set_cons_zero, List.set_cons_succ, List.getElem?_set_self, List.length_set, Bool.and_eq_true, decide_eq_true_eq, decide_eq_false_iff_not, bne_iff_ne, bne_eq_false_iff_eq, Int.toNat_natCast]
        have hR3 : (S2.set (S.length + 1) (some [.dic true (ks ++ [.t [(hc : Int), ((bn % ck w : Nat) : Int)]]) (rngL 0 rows.length ++ [.int (rows.map dRow).length])]))[S.length]? = some (some (rows.map dRow)) := by rw [List.getElem?_set_ne (by omega)]; exact hR2
        refine ⟨_, hR3, by decide, _, hR3, by unfold small; rw [List.length_map]; exact decide_eq_true (by omega), _, hR3, ?_⟩
        have hMl := set_at hM2 (some [.dic true (ks ++ [.t [(hc : Int), ((bn % ck w : Nat) : Int)]]) (rngL 0 rows.length ++ [.int (rows.map dRow).length])])
        refine ⟨n - 1, by omega, rows ++ [(hc, noAt w hc (bn : Nat))], h2, (bn : Nat) - (a : Nat), _, _, _, _, rfl, m.snoc H.wok ew hq, ?_, ?_, (H2.set _ (by omega) (by omega)).set _ (by omega) (by omega), fr_set (fr_set F12 (by omega)) (by omega), by rw [List.length_append]; simp; omega⟩
        · rw [set_at hR3, List.map_append]
          rfl
        · rw [List.getElem?_set_ne (by omega), hMl, List.length_map, rng_snoc, List.length_append]
          rfl
  · rw [if_neg h0]
    try simp only [runF, exs, ex, ev, evs, evt, evo, evi, evc, ok_bnd, ok_ret', ok_getV, ok_getC, ok_setC, ok_opt, ok_need, ok_ite, ok_mkLf, ok_mkLt, ok_notB, List.map_cons, List.map_nil, List.replicate_zero, List.replicate_succ, List.length_cons, List.length_nil, List.cons_append, List.nil_append, Nat.reduceSub, Nat.reduceAdd, List.getElem?_cons_zero, List.getElem?_cons_succ, Option.some.injEq, exists_eq_left', ixD_i, setIx_ri, appD_r, isC_r, items_tup, items_lst, items_fro, items_ref, tru_b, tru_i, b_add, b_sub, b_mul, b_div, b_mod, b_pow, b_band, addD_ii, subD_ii, mulD_ii, modD_ii, divD_ii, powD_ii, bandD_ii, addD_tt, addD_ll, c_eq, c_ne, c_lt, c_le, c_gt, c_ge, c_is, c_isn, isD_bb, eqD_ii, eqD_ss, eqD_bb, ltD_ii, leD_ii, bi_len, bi_max, bi_min, bi_tup, bi_lst, bi_repr, bi_all, maxB_ii, minB_ii, lenB_1, tupB_1, lstB_1, reprB_1, allB_1, slD_t, slD_l, slD_f, slD_r, ints2_ii, popD_ri, AG.wipeD, asg_n, asg_t, asg_p, AG.setAll, atI_0, atI_1, atI_2, atI_3, ixN_30, ixN_31, ixN_32, List.set_cons_zero, List.set_cons_succ, List.getElem?_set_self, List.length_set, Bool.and_eq_true, decide_eq_true_eq, decide_eq_false_iff_not, bne_iff_ne, bne_eq_false_iff_eq, Int.toNat_natCast]
    exact fin S1 rows hc bc _ _ _ _ hR m.go (.inl (by omega)) hlen H1 F1
end
end AGL
namespace AGL
open PySem AG
/-! ### numbers in a list -/
def nN (l : List Nat) : List D := l.map fun t => D.int (t : Nat)
def nP (l : List Nat) : List PyData := l.map fun t => PyData.int (t : Nat)
theorem toPys_nN : ∀ l : List Nat, toPys (nN l) = some (nP l)
  | [] => rfl
  | x :: xs => by
    have := toPys_nN xs
    unfold nN nP at *
    simp only [List.map_cons, toPys, toPy, this]
theorem lay_nP : ∀ l : List Nat, PyData.canLayAll0 (nP l) = true ∧ PyData.depthAll (nP l) ≤ 4
  | [] => by simp [nP, PyData.canLayAll0, PyData.depthAll]
  | x :: xs => by
    obtain ⟨h1, h2⟩ := lay_nP xs
    unfold nP at *
    simp only [List.map_cons, PyData.canLayAll0, PyData.canLay0, PyData.depthAll, PyData.depth, h1, Bool.and_self, true_and]
    omega
theorem shaped_nP (l : List Nat) : SeqAt.shaped (.list (nP l)) = true := by
  obtain ⟨h1, h2⟩ := lay_nP l
  unfold SeqAt.shaped
  rw [Bool.and_eq_true]
  refine ⟨by simp only [PyData.canLay0]; exact h1, decide_eq_true ?_⟩
  simp only [PyData.depth]
  omega
theorem shaped_int (i : Int) : SeqAt.shaped (.int i) = true := by
  unfold SeqAt.shaped
  rw [Bool.and_eq_true]
  refine ⟨by simp only [PyData.canLay0], decide_eq_true ?_⟩
  simp only [PyData.depth]
  omega
theorem eqv_nat (a b : Nat) : PyData.eqv (.int (a : Nat)) (.int (b : Nat)) = decide (a = b) := by
  simp only [PyData.eqv]
  rw [Bool.eq_iff_iff]
  simp only [beq_iff_eq, decide_eq_true_eq]
  omega
theorem has_nN {a : Nat} {k : Nat} {l : List Nat} {S : Sto} {P : Bool → Sto → Prop} (h : S[k]? = some (some (nN l))) : Ok (hasD (.int (a : Nat)) (.ref k)) S P = P (decide (a ∈ l)) S := by
  apply ok_of_run
  unfold hasD bnd
  show ((getC k S).then _) = _
  rw [getC_at h]
  show (match toPy (.int (a : Nat)), toPys (nN l) with
      | some p, some ps => need (SeqAt.shaped p && SeqAt.shaped (.list ps)) (ret (ps.any fun z => PyData.eqv z p))
      | _, _ => bad) S = _
  rw [toPys_nN]
  show need (SeqAt.shaped (.int (a : Nat)) && SeqAt.shaped (.list (nP l))) (AG.ret ((nP l).any fun z => PyData.eqv z (.int (a : Nat)))) S = _
  rw [shaped_int, shaped_nP]
  have e : (nP l).any (fun z => PyData.eqv z (.int (a : Nat))) = decide (a ∈ l) := by
    rw [Bool.eq_iff_iff, List.any_eq_true, decide_eq_true_eq]
    constructor
    · rintro ⟨x, h1, h2⟩
      obtain ⟨y, h3, rfl⟩ := List.mem_map.mp h1
      rw [eqv_nat, decide_eq_true_eq] at h2
      rw [← h2]
      exact h3
    · intro h1
      exact ⟨.int (a : Nat), List.mem_map.mpr ⟨a, h1, rfl⟩, by rw [eqv_nat]; simp⟩
  rw [e]
  rfl
theorem idx_nN {a : Nat} {k : Nat} {l : List Nat} {S : Sto} {P : D → Sto → Prop} {j : Nat} (h : S[k]? = some (some (nN l))) (hj : l[j]? = some a) (hn : ∀ i b, i < j → l[i]? = some b → b ≠ a) : Ok (idxD (.ref k) (.int (a : Nat))) S P = P (.int j) S := by
  apply ok_of_run
  show ((getC k S).then _) = _
  rw [getC_at h]
  show (match toPy (.int (a : Nat)), toPys (nN l) with
    | some p, some ps => need (SeqAt.shaped p && SeqAt.shaped (.list ps)) (opt ((ps.findIdx? fun z => PyData.eqv z p).map fun j => D.int (j : Nat)))
    | _, _ => bad) S = _
  rw [toPys_nN]
  show need (SeqAt.shaped (.int (a : Nat)) && SeqAt.shaped (.list (nP l))) (opt (((nP l).findIdx? fun z => PyData.eqv z (.int (a : Nat))).map fun j => D.int (j : Nat))) S = _
  rw [shaped_int, shaped_nP]
  have e : (nP l).findIdx? (fun z => PyData.eqv z (.int (a : Nat))) = some j := by
    rw [List.findIdx?_eq_some_iff_getElem]
    obtain ⟨h1, h2⟩ := List.getElem?_eq_some_iff.mp hj
    refine ⟨by unfold nP; rw [List.length_map]; exact h1, ?_, fun i hi => ?_⟩
    · unfold nP
      rw [List.getElem_map, eqv_nat, h2]
      simp
    · unfold nP
      rw [List.getElem_map, eqv_nat]
      have := hn i _ hi (List.getElem?_eq_getElem (by omega))
      simpa using this
  rw [e]
  rfl
theorem c_nin (a b : D) : cmpD .NotIn a b = notB (hasD a b) := rfl
theorem c_in (a b : D) : cmpD .In a b = hasD a b := rfl
/-! ### a doing gone on by a turn, often -/
theorem itN_add (ts : List Nat) (a : Nat) (d : Nat) : ∀ b, itN ts (a + b) d = itN ts b (itN ts a d)
  | 0 => rfl
  | b + 1 => by
    show ts.getD (itN ts (a + b) d) 0 = ts.getD (itN ts b (itN ts a d)) 0
    rw [itN_add ts a d b]
theorem itN_per {ts : List Nat} {d i p : Nat} (h : itN ts (i + p) d = itN ts i d) : ∀ q, itN ts (i + q * p) d = itN ts i d
  | 0 => by rw [Nat.zero_mul]; rfl
  | q + 1 => by
    rw [show i + (q + 1) * p = i + q * p + p by rw [Nat.succ_mul]; omega, itN_add, itN_per h q, ← itN_add, h]
theorem itN_mod {ts : List Nat} {d i p k : Nat} (h : itN ts (i + p) d = itN ts i d) (hk : i ≤ k) : itN ts k d = itN ts (i + (k - i) % p) d := by
  have e : k = i + ((k - i) / p) * p + (k - i) % p := by
    have := Nat.div_add_mod (k - i) p
    rw [Nat.mul_comm] at this
    omega
  conv => lhs; rw [e]
  rw [itN_add, itN_per h, ← itN_add]
def OftenW (F : List D → M D) : Prop := ∀ (S : Sto) (m k d : Nat) (ts : List Nat), m ≤ 9 → Tn m ts → d < m → k < 2 ^ 90 → Ok (F [tN ts, .int (d : Nat), .int (k : Nat)]) S fun x S' => x = .int (itN ts k d : Nat) ∧ Fr S.length S S'
section
variable {Φ : String → List D → M D} {fu : Nat}
theorem often_run (hfu : 20 ≤ fu) : OftenW (runF Φ fu 5 b_often) := by
  intro S m k d ts hm ht hd hk
  simp only [b_often, c_nin, ok_notB, runF, exs, ex, ev, evs, evt, evo, evi, evc, ok_bnd, ok_ret', ok_getV, ok_getC, ok_setC, ok_opt, ok_need, ok_ite, ok_mkLf, ok_mkLt, ok_notB, List.map_cons, List.map_nil, List.replicate_zero, List.replicate_succ, List.length_cons, List.length_nil, List.cons_append, List.nil_append, Nat.reduceSub, Nat.reduceAdd, List.getElem?_cons_zero, List.getElem?_cons_succ, Option.some.injEq, exists_eq_left', ixD_i, setIx_ri, appD_r, isC_r, items_tup, items_lst, items_fro, items_ref, tru_b, tru_i, b_add, b_sub, b_mul, b_div, b_mod, b_pow, b_band, addD_ii, subD_ii, mulD_ii, modD_ii, divD_ii, powD_ii, bandD_ii, addD_tt, addD_ll, c_eq, c_ne, c_lt, c_le, c_gt, c_ge, c_is, c_isn, isD_bb, eqD_ii, eqD_ss, eqD_bb, ltD_ii, leD_ii, bi_len, bi_max, bi_min, bi_tup, bi_lst, bi_repr, bi_all, maxB_ii, minB_ii, lenB_1, tupB_1, lstB_1, reprB_1, allB_1, slD_t, slD_l, slD_f, slD_r, ints2_ii, popD_ri, AG.wipeD, asg_n, asg_t, asg_p, AG.setAll, atI_0, atI_1, atI_2, atI_3, ixN_30, ixN_31, ixN_32, List.set_cons_zero, List.set_cons_succ, List.getElem?_set_self, List.length_set, Bool.and_eq_true, decide_eq_true_eq, decide_eq_false_iff_not, bne_iff_ne, bne_eq_false_iff_eq, Int.toNat_natCast]
  refine ⟨by decide, ?_⟩
  refine ok_wh (fun n ρ S' => ∃ (j : Nat) (l : List Nat), ρ = [some (tN ts), some (.int (itN ts j d : Nat)), some (.int (k : Nat)), some (.ref S.length), none] ∧ l = (List.range j).map (fun i => itN ts i d) ∧ S' = S ++ [some (nN l)] ∧ l.Nodup ∧ n + j = 10 ∧ j ≤ k) fu 10 _ _ (by omega) ⟨0, [], rfl, rfl, rfl, List.nodup_nil, rfl, Nat.zero_le _⟩ ?_
  rintro n ρ S' ⟨j, l, rfl, hl, rfl, nd, hn, hjk⟩
  have gL : (S ++ [some (nN l)])[S.length]? = some (some (nN l)) := by rw [List.getElem?_append_right (Nat.le_refl _), Nat.sub_self]; rfl
  have ll : l.length = j := by rw [hl]; simp
  have hj9 : j ≤ 9 := by
    have h1 := nodup_len l (List.range m) nd fun x hx => by
      rw [hl] at hx
      obtain ⟨i, _, rfl⟩ := List.mem_map.mp hx
      exact List.mem_range.mpr (itN_lt ht hd i)
    rw [ll, List.length_range] at h1
    omega
  have lat : ∀ i, i < j → l[i]? = some (itN ts i d) := fun i hi => by rw [hl, List.getElem?_map, List.getElem?_range hi]; rfl
  try simp only [c_nin, ok_notB, runF, exs, ex, ev, evs, evt, evo, evi, evc, ok_bnd, ok_ret', ok_getV, ok_getC, ok_setC, ok_opt, ok_need, ok_ite, ok_mkLf, ok_mkLt, ok_notB, List.map_cons, List.map_nil, List.replicate_zero, List.replicate_succ, List.length_cons, List.length_nil, List.cons_append, List.nil_append, Nat.reduceSub, Nat.reduceAdd, List.getElem?_cons_zero, List.getElem?_cons_succ, Option.some.injEq, exists_eq_left', ixD_i, setIx_ri, appD_r, isC_r, items_tup, items_lst, items_fro, items_ref, tru_b, tru_i, b_add, b_sub, b_mul, b_div, b_mod, b_pow, b_band, addD_ii, subD_ii, mulD_ii, modD_ii, divD_ii, powD_ii, bandD_ii, addD_tt, addD_ll, c_eq, c_ne, c_lt, c_le, c_gt, c_ge, c_is, c_isn, isD_bb, eqD_ii, eqD_ss, eqD_bb, ltD_ii, leD_ii, bi_len, bi_max, bi_min, bi_tup, bi_lst, bi_repr, bi_all, maxB_ii, minB_ii, lenB_1, tupB_1, lstB_1, reprB_1, allB_1, slD_t, slD_l, slD_f, slD_r, ints2_ii, popD_ri, AG.wipeD, asg_n, asg_t, asg_p, AG.setAll, atI_0, atI_1, atI_2, atI_3, ixN_30, ixN_31, ixN_32, List.set_cons_zero, List.set_cons_succ, List.getElem?_set_self, List.length_set, Bool.and_eq_true, decide_eq_true_eq, decide_eq_false_iff_not, bne_iff_ne, bne_eq_false_iff_eq, Int.toNat_natCast]
  rw [has_nN gL]
  by_cases hin : itN ts j d ∈ l
  · rw [decide_eq_true hin]
    simp only [Bool.not_true, Bool.false_eq_true, if_false]
    try simp only [runF, exs, ex, ev, evs, evt, evo, evi, evc, ok_bnd, ok_ret', ok_getV, ok_getC, ok_setC, ok_opt, ok_need, ok_ite, ok_mkLf, ok_mkLt, ok_notB, List.map_cons, List.map_nil, List.replicate_zero, List.replicate_succ, List.length_cons, List.length_nil, List.cons_append, List.nil_append, Nat.reduceSub, Nat.reduceAdd, List.getElem?_cons_zero, List.getElem?_cons_succ, Option.some.injEq, exists_eq_left', ixD_i, setIx_ri, appD_r, isC_r, items_tup, items_lst, items_fro, items_ref, tru_b, tru_i, b_add, b_sub, b_mul, b_div, b_mod, b_pow, b_band, addD_ii, subD_ii, mulD_ii, modD_ii, divD_ii, powD_ii, bandD_ii, addD_tt, addD_ll, c_eq, c_ne, c_lt, c_le, c_gt, c_ge, c_is, c_isn, isD_bb, eqD_ii, eqD_ss, eqD_bb, ltD_ii, leD_ii, bi_len, bi_max, bi_min, bi_tup, bi_lst, bi_repr, bi_all, maxB_ii, minB_ii, lenB_1, tupB_1, lstB_1, reprB_1, allB_1, slD_t, slD_l, slD_f, slD_r, ints2_ii, popD_ri, AG.wipeD, asg_n, asg_t, asg_p, AG.setAll, atI_0, atI_1, atI_2, atI_3, ixN_30, ixN_31, ixN_32, List.set_cons_zero, List.set_cons_succ, List.getElem?_set_self, List.length_set, Bool.and_eq_true, decide_eq_true_eq, decide_eq_false_iff_not, bne_iff_ne, bne_eq_false_iff_eq, Int.toNat_natCast]
    refine ⟨_, gL, ?_⟩
    obtain ⟨i, hi⟩ := List.getElem?_of_mem hin
    have hij : i < j := by rw [← ll]; exact (List.getElem?_eq_some_iff.mp hi).1
    rw [lat i hij] at hi
    have hi' : itN ts i d = itN ts j d := Option.some.inj hi
    have uniq : ∀ i' b, i' < i → l[i']? = some b → b ≠ itN ts j d := by
      intro i' b h1 h2 h3
      rw [lat i' (by omega)] at h2
      have h4 : itN ts i' d = itN ts i d := by rw [hi', ← h3]; exact Option.some.inj h2
      have e1 := lat i' (by omega)
      have e2 := lat i hij
      rw [← h4, ← e1] at e2
      have := (List.getElem?_inj (by rw [ll]; omega) nd).mp e2
      omega
    rw [idx_nN gL (by rw [lat i hij, hi']) uniq]
    try simp only [runF, exs, ex, ev, evs, evt, evo, evi, evc, ok_bnd, ok_ret', ok_getV, ok_getC, ok_setC, ok_opt, ok_need, ok_ite, ok_mkLf, ok_mkLt, ok_notB, List.map_cons, List.map_nil, List.replicate_zero, List.replicate_succ, List.length_cons, List.length_nil, List.cons_append, List.nil_append, Nat.reduceSub, Nat.reduceAdd, List.getElem?_cons_zero, List.getElem?_cons_succ, Option.some.injEq, exists_eq_left', ixD_i, setIx_ri, appD_r, isC_r, items_tup, items_lst, items_fro, items_ref, tru_b, tru_i, b_add, b_sub, b_mul, b_div, b_mod, b_pow, b_band, addD_ii, subD_ii, mulD_ii, modD_ii, divD_ii, powD_ii, bandD_ii, addD_tt, addD_ll, c_eq, c_ne, c_lt, c_le, c_gt, c_ge, c_is, c_isn, isD_bb, eqD_ii, eqD_ss, eqD_bb, ltD_ii, leD_ii, bi_len, bi_max, bi_min, bi_tup, bi_lst, bi_repr, bi_all, maxB_ii, minB_ii, lenB_1, tupB_1, lstB_1, reprB_1, allB_1, slD_t, slD_l, slD_f, slD_r, ints2_ii, popD_ri, AG.wipeD, asg_n, asg_t, asg_p, AG.setAll, atI_0, atI_1, atI_2, atI_3, ixN_30, ixN_31, ixN_32, List.set_cons_zero, List.set_cons_succ, List.getElem?_set_self, List.length_set, Bool.and_eq_true, decide_eq_true_eq, decide_eq_false_iff_not, bne_iff_ne, bne_eq_false_iff_eq, Int.toNat_natCast]
    refine ⟨_, gL, ?_⟩
    have lnn : (nN l).length = j := by unfold nN; rw [List.length_map, ll]
    rw [lnn]
    have ex : ((i : Int) + ((k : Nat) - (i : Nat)) % ((j : Nat) - (i : Nat))) = ((i + (k - i) % (j - i) : Nat) : Int) := by
      rw [Int.natCast_add, Int.natCast_emod, Int.natCast_sub (by omega), Int.natCast_sub (by omega)]
    have hlt : (k - i) % (j - i) < j - i := Nat.mod_lt _ (by omega)
    refine ⟨by omega, _, gL, ?_⟩
    rw [ex, atI_of]
    unfold nN
    rw [List.getElem?_map, lat _ (by omega)]
    refine ⟨_, rfl, ?_, Fr.app _ _ _⟩
    rw [itN_mod (i := i) (p := j - i) (k := k) (by rw [show i + (j - i) = j by omega]; exact hi'.symm) (by omega)]
  · rw [decide_eq_false hin]
    simp only [Bool.not_false, if_true]
    try simp only [runF, exs, ex, ev, evs, evt, evo, evi, evc, ok_bnd, ok_ret', ok_getV, ok_getC, ok_setC, ok_opt, ok_need, ok_ite, ok_mkLf, ok_mkLt, ok_notB, List.map_cons, List.map_nil, List.replicate_zero, List.replicate_succ, List.length_cons, List.length_nil, List.cons_append, List.nil_append, Nat.reduceSub, Nat.reduceAdd, List.getElem?_cons_zero, List.getElem?_cons_succ, Option.some.injEq, exists_eq_left', ixD_i, setIx_ri, appD_r, isC_r, items_tup, items_lst, items_fro, items_ref, tru_b, tru_i, b_add, b_sub, b_mul, b_div, b_mod, b_pow, b_band, addD_ii, subD_ii, mulD_ii, modD_ii, divD_ii, powD_ii, bandD_ii, addD_tt, addD_ll, c_eq, c_ne, c_lt, c_le, c_gt, c_ge, c_is, c_isn, isD_bb, eqD_ii, eqD_ss, eqD_bb, ltD_ii, leD_ii, bi_len, bi_max, bi_min, bi_tup, bi_lst, bi_repr, bi_all, maxB_ii, minB_ii, lenB_1, tupB_1, lstB_1, reprB_1, allB_1, slD_t, slD_l, slD_f, slD_r, ints2_ii, popD_ri, AG.wipeD, asg_n, asg_t, asg_p, AG.setAll, atI_0, atI_1, atI_2, atI_3, ixN_30, ixN_31, ixN_32, List.set_cons_zero, List.set_cons_succ, List.getElem?_set_self, List.length_set, Bool.and_eq_true, decide_eq_true_eq, decide_eq_false_iff_not, bne_iff_ne, bne_eq_false_iff_eq, Int.toNat_natCast]
    refine ⟨_, gL, ?_⟩
    have lnn : (nN l).length = j := by unfold nN; rw [List.length_map, ll]
    rw [lnn]
    refine ⟨fun e => ⟨by rw [show j = k by omega], Fr.app _ _ _⟩, fun e => ⟨_, gL, _, gL, by unfold small; exact decide_eq_true (by omega), _, gL, ?_⟩⟩
    simp only [tN, runF, exs, ex, ev, evs, evt, evo, evi, evc, ok_bnd, ok_ret', ok_getV, ok_getC, ok_setC, ok_opt, ok_need, ok_ite, ok_mkLf, ok_mkLt, ok_notB, List.map_cons, List.map_nil, List.replicate_zero, List.replicate_succ, List.length_cons, List.length_nil, List.cons_append, List.nil_append, Nat.reduceSub, Nat.reduceAdd, List.getElem?_cons_zero, List.getElem?_cons_succ, Option.some.injEq, exists_eq_left', ixD_i, setIx_ri, appD_r, isC_r, items_tup, items_lst, items_fro, items_ref, tru_b, tru_i, b_add, b_sub, b_mul, b_div, b_mod, b_pow, b_band, addD_ii, subD_ii, mulD_ii, modD_ii, divD_ii, powD_ii, bandD_ii, addD_tt, addD_ll, c_eq, c_ne, c_lt, c_le, c_gt, c_ge, c_is, c_isn, isD_bb, eqD_ii, eqD_ss, eqD_bb, ltD_ii, leD_ii, bi_len, bi_max, bi_min, bi_tup, bi_lst, bi_repr, bi_all, maxB_ii, minB_ii, lenB_1, tupB_1, lstB_1, reprB_1, allB_1, slD_t, slD_l, slD_f, slD_r, ints2_ii, popD_ri, AG.wipeD, asg_n, asg_t, asg_p, AG.setAll, atI_0, atI_1, atI_2, atI_3, ixN_30, ixN_31, ixN_32, List.set_cons_zero, List.set_cons_succ, List.getElem?_set_self, List.length_set, Bool.and_eq_true, decide_eq_true_eq, decide_eq_false_iff_not, bne_iff_ne, bne_eq_false_iff_eq, Int.toNat_natCast]
    rw [at_tN ht (itN_lt ht hd j)]
    refine ⟨_, rfl, n - 1, by omega, j + 1, l ++ [itN ts j d], rfl, by rw [hl, List.range_succ, List.map_append]; rfl, ?_, ?_, by omega, by omega⟩
    · rw [List.set_append_right _ _ (Nat.le_refl _), Nat.sub_self]
      unfold nN
      rw [List.map_append]
      rfl
    · rw [List.nodup_append]
      refine ⟨nd, by simp, ?_⟩
      intro x hx y hy e
      rw [List.mem_singleton.mp hy] at e
      exact hin (e ▸ hx)
/-! ### what is told of a way -/
end
def turnOf (w : We) (rows : List Row) : List Nat := rows.foldl (fun t q => comp (tuR w q) t) (List.range w.many)
theorem turnOf_tn {w : We} : ∀ (rows : List Row) (T : List Nat), Tn w.many T → (∀ q ∈ rows, RowOk w q) → Tn w.many (rows.foldl (fun t q => comp (tuR w q) t) T)
  | [], T, h, _ => h
  | q :: rows, T, h, ho => turnOf_tn rows _ (comp_tn (tuR_tn (ho q (List.mem_cons_self ..))) h) fun x hx => ho x (List.mem_cons_of_mem _ hx)
theorem turnOf_ok {w : We} {rows : List Row} (ho : ∀ q ∈ rows, RowOk w q) : Tn w.many (turnOf w rows) := turnOf_tn rows _ (range_tn _) ho
theorem turnOf_from {w : We} : ∀ (rows : List Row) (T : List Nat), Tn w.many T → (∀ q ∈ rows, RowOk w q) → rows.foldl (fun t q => comp (tuR w q) t) T = comp (turnOf w rows) T := by
  intro rows
  induction rows with
  | nil => intro T h _; exact (comp_idl h).symm
  | cons q rs ih =>
    intro T h ho
    have hr : ∀ p ∈ rs, RowOk w p := fun p hp => ho p (List.mem_cons_of_mem _ hp)
    have hq := tuR_tn (ho q (List.mem_cons_self ..))
    unfold turnOf
    rw [List.foldl_cons, List.foldl_cons, ih _ (comp_tn hq h) hr, ih _ (comp_tn hq (range_tn _)) hr, comp_idr hq, comp_assoc (turnOf_ok hr) hq]
theorem turnOf_cons {w : We} {q : Row} {rs : List Row} (hq : RowOk w q) (hr : ∀ p ∈ rs, RowOk w p) : turnOf w (q :: rs) = comp (turnOf w rs) (tuR w q) := by
  unfold turnOf
  rw [List.foldl_cons, turnOf_from rs _ (comp_tn (tuR_tn hq) (range_tn _)) hr, comp_idr (tuR_tn hq)]
  rfl
theorem turnOf_app {w : We} {xs ys : List Row} (hx : ∀ q ∈ xs, RowOk w q) (hy : ∀ q ∈ ys, RowOk w q) : turnOf w (xs ++ ys) = comp (turnOf w ys) (turnOf w xs) := by
  unfold turnOf
  rw [List.foldl_append]
  exact turnOf_from ys _ (turnOf_ok hx) hy
theorem rep_ok {w : We} {xs : List Row} (hx : ∀ q ∈ xs, RowOk w q) (n : Nat) : ∀ q ∈ (List.replicate n xs).flatten, RowOk w q := by
  intro q hq
  obtain ⟨l, h1, h2⟩ := List.mem_flatten.mp hq
  rw [List.eq_of_mem_replicate h1] at h2
  exact hx q h2
theorem turnOf_rep {w : We} {xs : List Row} (hx : ∀ q ∈ xs, RowOk w q) : ∀ n, turnOf w (List.replicate n xs).flatten = pw (turnOf w xs) n
  | 0 => by
    show List.range w.many = List.range (turnOf w xs).length
    rw [(turnOf_ok hx).len]
  | n + 1 => by
    rw [List.replicate_succ, List.flatten_cons, turnOf_app hx (rep_ok hx n), turnOf_rep hx n]
    rfl
theorem flat_ok {w : We} {ps : List (List Row × Nat)} (h : ∀ p ∈ ps, ∀ q ∈ p.1, RowOk w q) : ∀ q ∈ flat ps, RowOk w q := by
  intro q hq
  obtain ⟨p, hp, h2⟩ := List.mem_flatMap.mp hq
  exact rep_ok (h p hp) _ q h2
/-- what is done at the way's end -/
def endV (w : We) (h : Nat) (b : Int) : Nat := if b < 0 then w.before.getD h 0 else match (ruA w h (noAt w h b)).wh with
  | .own row => row.getD ((b / ((ruA w h (noAt w h b)).every : Nat)).toNat % row.length) 0
  | .cop _ _ _ => 0
def TurW (F : List D → M D) : Prop := ∀ (S : Sto) (k r : Nat) (w : We) (rows : List Row), WA S k r w → rows.length ≤ 1440 → (∀ q ∈ rows, RowOk w q) → Ok (F [.obj "Ways" k, dRows rows]) S fun d S' => d = tN (turnOf w rows) ∧ S' = S
def AllW (F : List D → M D) : Prop := ∀ (S : Sto) (k r : Nat) (w : We) (ps : List (List Row × Nat)), WA S k r w → PsOk w ps → Ok (F [.obj "Ways" k, dParts ps]) S fun d S' => d = tN (turnOf w (flat ps)) ∧ S' = S
def ChgW (F : List D → M D) : Prop := ∀ (S : Sto) (k r : Nat) (w : We) (rows : List Row) (n v : Nat), WA S k r w → rows.length ≤ 1440 → (∀ q ∈ rows, RowOk w q) → 1 ≤ n → n < 2 ^ 81 → v < w.many → Ok (F [.obj "Ways" k, dRows rows, .int (n : Nat), .int (v : Nat)]) S fun d S' => d = .int ((turnOf w (List.replicate n rows).flatten).getD v 0 : Nat) ∧ Fr S.length S S'
def OwnW (F : List D → M D) : Prop := ∀ (S : Sto) (m c : Nat) (q : Ru) (row : List Nat) (b : Nat), RuOk m c q → q.wh = .own row → b ≤ 10 ^ 20 → Ok (F [dR q, .int (b : Nat)]) S fun d S' => d = .int (row.getD (b / q.every % row.length) 0 : Nat) ∧ S' = S
section
variable {Φ : String → List D → M D} {fu : Nat}
theorem wturn_run (hs : StayW (Φ "staying")) (ha : AfterW (Φ "after")) (hw : WhatW (Φ "Ways._what")) : TurW (runF Φ fu 4 b_Ways_turn) := by
  intro S k r w rows H hl ho
  have hm9 := H.wok.m9
  simp only [b_Ways_turn, runF, exs, ex, ev, evs, evt, evo, evi, evc, ok_bnd, ok_ret', ok_getV, ok_getC, ok_setC, ok_opt, ok_need, ok_ite, ok_mkLf, ok_mkLt, ok_notB, List.map_cons, List.map_nil, List.replicate_zero, List.replicate_succ, List.length_cons, List.length_nil, List.cons_append, List.nil_append, Nat.reduceSub, Nat.reduceAdd, List.getElem?_cons_zero, List.getElem?_cons_succ, Option.some.injEq, exists_eq_left', ixD_i, setIx_ri, appD_r, isC_r, items_tup, items_lst, items_fro, items_ref, tru_b, tru_i, b_add, b_sub, b_mul, b_div, b_mod, b_pow, b_band, addD_ii, subD_ii, mulD_ii, modD_ii, divD_ii, powD_ii, bandD_ii, addD_tt, addD_ll, c_eq, c_ne, c_lt, c_le, c_gt, c_ge, c_is, c_isn, isD_bb, eqD_ii, eqD_ss, eqD_bb, ltD_ii, leD_ii, bi_len, bi_max, bi_min, bi_tup, bi_lst, bi_repr, bi_all, maxB_ii, minB_ii, lenB_1, tupB_1, lstB_1, reprB_1, allB_1, slD_t, slD_l, slD_f, slD_r, ints2_ii, popD_ri, AG.wipeD, asg_n, asg_t, asg_p, AG.setAll, atI_0, atI_1, atI_2, atI_3, ixN_30, ixN_31, ixN_32, List.set_cons_zero, List.set_cons_succ, List.getElem?_set_self, List.length_set, Bool.and_eq_true, decide_eq_true_eq, decide_eq_false_iff_not, bne_iff_ne, bne_eq_false_iff_eq, Int.toNat_natCast]
  rw [f_web H]
  try simp only [dWe, runF, exs, ex, ev, evs, evt, evo, evi, evc, ok_bnd, ok_ret', ok_getV, ok_getC, ok_setC, ok_opt, ok_need, ok_ite, ok_mkLf, ok_mkLt, ok_notB, List.map_cons, List.map_nil, List.replicate_zero, List.replicate_succ, List.length_cons, List.length_nil, List.cons_append, List.nil_append, Nat.reduceSub, Nat.reduceAdd, List.getElem?_cons_zero, List.getElem?_cons_succ, Option.some.injEq, exists_eq_left', ixD_i, setIx_ri, appD_r, isC_r, items_tup, items_lst, items_fro, items_ref, tru_b, tru_i, b_add, b_sub, b_mul, b_div, b_mod, b_pow, b_band, addD_ii, subD_ii, mulD_ii, modD_ii, divD_ii, powD_ii, bandD_ii, addD_tt, addD_ll, c_eq, c_ne, c_lt, c_le, c_gt, c_ge, c_is, c_isn, isD_bb, eqD_ii, eqD_ss, eqD_bb, ltD_ii, leD_ii, bi_len, bi_max, bi_min, bi_tup, bi_lst, bi_repr, bi_all, maxB_ii, minB_ii, lenB_1, tupB_1, lstB_1, reprB_1, allB_1, slD_t, slD_l, slD_f, slD_r, ints2_ii, popD_ri, AG.wipeD, asg_n, asg_t, asg_p, AG.setAll, atI_0, atI_1, atI_2, atI_3, ixN_30, ixN_31, ixN_32, List.set_cons_zero, List.set_cons_succ, List.getElem?_set_self, List.length_set, Bool.and_eq_true, decide_eq_true_eq, decide_eq_false_iff_not, bne_iff_ne, bne_eq_false_iff_eq, Int.toNat_natCast]
  refine (hs S w.many hm9).mono fun d S2 ⟨e1, e2⟩ => ?_
  subst e1 e2
  try simp only [dRows, runF, exs, ex, ev, evs, evt, evo, evi, evc, ok_bnd, ok_ret', ok_getV, ok_getC, ok_setC, ok_opt, ok_need, ok_ite, ok_mkLf, ok_mkLt, ok_notB, List.map_cons, List.map_nil, List.replicate_zero, List.replicate_succ, List.length_cons, List.length_nil, List.cons_append, List.nil_append, Nat.reduceSub, Nat.reduceAdd, List.getElem?_cons_zero, List.getElem?_cons_succ, Option.some.injEq, exists_eq_left', ixD_i, setIx_ri, appD_r, isC_r, items_tup, items_lst, items_fro, items_ref, tru_b, tru_i, b_add, b_sub, b_mul, b_div, b_mod, b_pow, b_band, addD_ii, subD_ii, mulD_ii, modD_ii, divD_ii, powD_ii, bandD_ii, addD_tt, addD_ll, c_eq, c_ne, c_lt, c_le, c_gt, c_ge, c_is, c_isn, isD_bb, eqD_ii, eqD_ss, eqD_bb, ltD_ii, leD_ii, bi_len, bi_max, bi_min, bi_tup, bi_lst, bi_repr, bi_all, maxB_ii, minB_ii, lenB_1, tupB_1, lstB_1, reprB_1, allB_1, slD_t, slD_l, slD_f, slD_r, ints2_ii, popD_ri, AG.wipeD, asg_n, asg_t, asg_p, AG.setAll, atI_0, atI_1, atI_2, atI_3, ixN_30, ixN_31, ixN_32, List.set_cons_zero, List.set_cons_succ, List.getElem?_set_self, List.length_set, Bool.and_eq_true, decide_eq_true_eq, decide_eq_false_iff_not, bne_iff_ne, bne_eq_false_iff_eq, Int.toNat_natCast]
  refine ok_for (fun j ρ S' => S' = S2 ∧ ∃ x3, ρ = [some (.obj "Ways" k), some (dRows rows), some (tN (turnOf w (rows.take j))), x3]) ⟨rfl, none, rfl⟩ ?_ ?_
  · rintro j x ρ S' hx ⟨rfl, x3, rfl⟩
    rw [List.getElem?_map] at hx
    obtain ⟨q, hq, rfl⟩ := Option.map_eq_some_iff.mp hx
    have hqo := ho q (List.mem_of_getElem? hq)
    refine ⟨_, rfl, ?_⟩
    try simp only [runF, exs, ex, ev, evs, evt, evo, evi, evc, ok_bnd, ok_ret', ok_getV, ok_getC, ok_setC, ok_opt, ok_need, ok_ite, ok_mkLf, ok_mkLt, ok_notB, List.map_cons, List.map_nil, List.replicate_zero, List.replicate_succ, List.length_cons, List.length_nil, List.cons_append, List.nil_append, Nat.reduceSub, Nat.reduceAdd, List.getElem?_cons_zero, List.getElem?_cons_succ, Option.some.injEq, exists_eq_left', ixD_i, setIx_ri, appD_r, isC_r, items_tup, items_lst, items_fro, items_ref, tru_b, tru_i, b_add, b_sub, b_mul, b_div, b_mod, b_pow, b_band, addD_ii, subD_ii, mulD_ii, modD_ii, divD_ii, powD_ii, bandD_ii, addD_tt, addD_ll, c_eq, c_ne, c_lt, c_le, c_gt, c_ge, c_is, c_isn, isD_bb, eqD_ii, eqD_ss, eqD_bb, ltD_ii, leD_ii, bi_len, bi_max, bi_min, bi_tup, bi_lst, bi_repr, bi_all, maxB_ii, minB_ii, lenB_1, tupB_1, lstB_1, reprB_1, allB_1, slD_t, slD_l, slD_f, slD_r, ints2_ii, popD_ri, AG.wipeD, asg_n, asg_t, asg_p, AG.setAll, atI_0, atI_1, atI_2, atI_3, ixN_30, ixN_31, ixN_32, List.set_cons_zero, List.set_cons_succ, List.getElem?_set_self, List.length_set, Bool.and_eq_true, decide_eq_true_eq, decide_eq_false_iff_not, bne_iff_ne, bne_eq_false_iff_eq, Int.toNat_natCast]
    rw [i_what H]
    try simp only [runF, exs, ex, ev, evs, evt, evo, evi, evc, ok_bnd, ok_ret', ok_getV, ok_getC, ok_setC, ok_opt, ok_need, ok_ite, ok_mkLf, ok_mkLt, ok_notB, List.map_cons, List.map_nil, List.replicate_zero, List.replicate_succ, List.length_cons, List.length_nil, List.cons_append, List.nil_append, Nat.reduceSub, Nat.reduceAdd, List.getElem?_cons_zero, List.getElem?_cons_succ, Option.some.injEq, exists_eq_left', ixD_i, setIx_ri, appD_r, isC_r, items_tup, items_lst, items_fro, items_ref, tru_b, tru_i, b_add, b_sub, b_mul, b_div, b_mod, b_pow, b_band, addD_ii, subD_ii, mulD_ii, modD_ii, divD_ii, powD_ii, bandD_ii, addD_tt, addD_ll, c_eq, c_ne, c_lt, c_le, c_gt, c_ge, c_is, c_isn, isD_bb, eqD_ii, eqD_ss, eqD_bb, ltD_ii, leD_ii, bi_len, bi_max, bi_min, bi_tup, bi_lst, bi_repr, bi_all, maxB_ii, minB_ii, lenB_1, tupB_1, lstB_1, reprB_1, allB_1, slD_t, slD_l, slD_f, slD_r, ints2_ii, popD_ri, AG.wipeD, asg_n, asg_t, asg_p, AG.setAll, atI_0, atI_1, atI_2, atI_3, ixN_30, ixN_31, ixN_32, List.set_cons_zero, List.set_cons_succ, List.getElem?_set_self, List.length_set, Bool.and_eq_true, decide_eq_true_eq, decide_eq_false_iff_not, bne_iff_ne, bne_eq_false_iff_eq, Int.toNat_natCast]
    refine (hw S' k r w q H hqo).mono fun d S3 ⟨e1, e2⟩ => ?_
    subst e1 e2
    obtain ⟨h2, a, t, ew, _, _, _, ht⟩ := hqo.cop
    rw [ew]
    try simp only [dW, runF, exs, ex, ev, evs, evt, evo, evi, evc, ok_bnd, ok_ret', ok_getV, ok_getC, ok_setC, ok_opt, ok_need, ok_ite, ok_mkLf, ok_mkLt, ok_notB, List.map_cons, List.map_nil, List.replicate_zero, List.replicate_succ, List.length_cons, List.length_nil, List.cons_append, List.nil_append, Nat.reduceSub, Nat.reduceAdd, List.getElem?_cons_zero, List.getElem?_cons_succ, Option.some.injEq, exists_eq_left', ixD_i, setIx_ri, appD_r, isC_r, items_tup, items_lst, items_fro, items_ref, tru_b, tru_i, b_add, b_sub, b_mul, b_div, b_mod, b_pow, b_band, addD_ii, subD_ii, mulD_ii, modD_ii, divD_ii, powD_ii, bandD_ii, addD_tt, addD_ll, c_eq, c_ne, c_lt, c_le, c_gt, c_ge, c_is, c_isn, isD_bb, eqD_ii, eqD_ss, eqD_bb, ltD_ii, leD_ii, bi_len, bi_max, bi_min, bi_tup, bi_lst, bi_repr, bi_all, maxB_ii, minB_ii, lenB_1, tupB_1, lstB_1, reprB_1, allB_1, slD_t, slD_l, slD_f, slD_r, ints2_ii, popD_ri, AG.wipeD, asg_n, asg_t, asg_p, AG.setAll, atI_0, atI_1, atI_2, atI_3, ixN_30, ixN_31, ixN_32, List.set_cons_zero, List.set_cons_succ, List.getElem?_set_self, List.length_set, Bool.and_eq_true, decide_eq_true_eq, decide_eq_false_iff_not, bne_iff_ne, bne_eq_false_iff_eq, Int.toNat_natCast]
    have hT : Tn w.many (turnOf w (rows.take j)) := turnOf_ok fun p hp => ho p (List.mem_of_mem_take hp)
    refine (ha S3 w.many t _ hm9 ht hT).mono fun d S4 ⟨e1, e2⟩ => ?_
    subst e1 e2
    refine ⟨rfl, some (dRow q), ?_⟩
    rw [List.take_add_one, hq]
    have : turnOf w (rows.take j ++ [q]) = comp t (turnOf w (rows.take j)) := by
      unfold turnOf
      rw [List.foldl_append]
      show comp (tuR w q) _ = _
      unfold tuR
      rw [ew]
    show _ = [some (D.obj "Ways" k), some (dRows rows), some (tN (turnOf w (rows.take j ++ [q]))), some (dRow q)]
    rw [this]
    try rfl
  · rintro ρ S' ⟨rfl, x3, rfl⟩
    try simp only [runF, exs, ex, ev, evs, evt, evo, evi, evc, ok_bnd, ok_ret', ok_getV, ok_getC, ok_setC, ok_opt, ok_need, ok_ite, ok_mkLf, ok_mkLt, ok_notB, List.map_cons, List.map_nil, List.replicate_zero, List.replicate_succ, List.length_cons, List.length_nil, List.cons_append, List.nil_append, Nat.reduceSub, Nat.reduceAdd, List.getElem?_cons_zero, List.getElem?_cons_succ, Option.some.injEq, exists_eq_left', ixD_i, setIx_ri, appD_r, isC_r, items_tup, items_lst, items_fro, items_ref, tru_b, tru_i, b_add, b_sub, b_mul, b_div, b_mod, b_pow, b_band, addD_ii, subD_ii, mulD_ii, modD_ii, divD_ii, powD_ii, bandD_ii, addD_tt, addD_ll, c_eq, c_ne, c_lt, c_le, c_gt, c_ge, c_is, c_isn, isD_bb, eqD_ii, eqD_ss, eqD_bb, ltD_ii, leD_ii, bi_len, bi_max, bi_min, bi_tup, bi_lst, bi_repr, bi_all, maxB_ii, minB_ii, lenB_1, tupB_1, lstB_1, reprB_1, allB_1, slD_t, slD_l, slD_f, slD_r, ints2_ii, popD_ri, AG.wipeD, asg_n, asg_t, asg_p, AG.setAll, atI_0, atI_1, atI_2, atI_3, ixN_30, ixN_31, ixN_32, List.set_cons_zero, List.set_cons_succ, List.getElem?_set_self, List.length_set, Bool.and_eq_true, decide_eq_true_eq, decide_eq_false_iff_not, bne_iff_ne, bne_eq_false_iff_eq, Int.toNat_natCast]
    rw [List.length_map, List.take_of_length_le (Nat.le_refl _)]
    exact ⟨by trivial, by trivial⟩
theorem all_run (hs : StayW (Φ "staying")) (ha : AfterW (Φ "after")) (hp : PowW (Φ "power")) (ht : TurW (Φ "Ways.turn")) : AllW (runF Φ fu 5 b_Ways_turn_of_all) := by
  intro S k r w ps H hps
  have hm9 := H.wok.m9
  simp only [b_Ways_turn_of_all, runF, exs, ex, ev, evs, evt, evo, evi, evc, ok_bnd, ok_ret', ok_getV, ok_getC, ok_setC, ok_opt, ok_need, ok_ite, ok_mkLf, ok_mkLt, ok_notB, List.map_cons, List.map_nil, List.replicate_zero, List.replicate_succ, List.length_cons, List.length_nil, List.cons_append, List.nil_append, Nat.reduceSub, Nat.reduceAdd, List.getElem?_cons_zero, List.getElem?_cons_succ, Option.some.injEq, exists_eq_left', ixD_i, setIx_ri, appD_r, isC_r, items_tup, items_lst, items_fro, items_ref, tru_b, tru_i, b_add, b_sub, b_mul, b_div, b_mod, b_pow, b_band, addD_ii, subD_ii, mulD_ii, modD_ii, divD_ii, powD_ii, bandD_ii, addD_tt, addD_ll, c_eq, c_ne, c_lt, c_le, c_gt, c_ge, c_is, c_isn, isD_bb, eqD_ii, eqD_ss, eqD_bb, ltD_ii, leD_ii, bi_len, bi_max, bi_min, bi_tup, bi_lst, bi_repr, bi_all, maxB_ii, minB_ii, lenB_1, tupB_1, lstB_1, reprB_1, allB_1, slD_t, slD_l, slD_f, slD_r, ints2_ii, popD_ri, AG.wipeD, asg_n, asg_t, asg_p, AG.setAll, atI_0, atI_1, atI_2, atI_3, ixN_30, ixN_31, ixN_32, List.set_cons_zero, List.set_cons_succ, List.getElem?_set_self, List.length_set, Bool.and_eq_true, decide_eq_true_eq, decide_eq_false_iff_not, bne_iff_ne, bne_eq_false_iff_eq, Int.toNat_natCast]
  rw [f_web H]
  try simp only [dWe, runF, exs, ex, ev, evs, evt, evo, evi, evc, ok_bnd, ok_ret', ok_getV, ok_getC, ok_setC, ok_opt, ok_need, ok_ite, ok_mkLf, ok_mkLt, ok_notB, List.map_cons, List.map_nil, List.replicate_zero, List.replicate_succ, List.length_cons, List.length_nil, List.cons_append, List.nil_append, Nat.reduceSub, Nat.reduceAdd, List.getElem?_cons_zero, List.getElem?_cons_succ, Option.some.injEq, exists_eq_left', ixD_i, setIx_ri, appD_r, isC_r, items_tup, items_lst, items_fro, items_ref, tru_b, tru_i, b_add, b_sub, b_mul, b_div, b_mod, b_pow, b_band, addD_ii, subD_ii, mulD_ii, modD_ii, divD_ii, powD_ii, bandD_ii, addD_tt, addD_ll, c_eq, c_ne, c_lt, c_le, c_gt, c_ge, c_is, c_isn, isD_bb, eqD_ii, eqD_ss, eqD_bb, ltD_ii, leD_ii, bi_len, bi_max, bi_min, bi_tup, bi_lst, bi_repr, bi_all, maxB_ii, minB_ii, lenB_1, tupB_1, lstB_1, reprB_1, allB_1, slD_t, slD_l, slD_f, slD_r, ints2_ii, popD_ri, AG.wipeD, asg_n, asg_t, asg_p, AG.setAll, atI_0, atI_1, atI_2, atI_3, ixN_30, ixN_31, ixN_32, List.set_cons_zero, List.set_cons_succ, List.getElem?_set_self, List.length_set, Bool.and_eq_true, decide_eq_true_eq, decide_eq_false_iff_not, bne_iff_ne, bne_eq_false_iff_eq, Int.toNat_natCast]
  refine (hs S w.many hm9).mono fun d S2 ⟨e1, e2⟩ => ?_
  subst e1 e2
  try simp only [dParts, runF, exs, ex, ev, evs, evt, evo, evi, evc, ok_bnd, ok_ret', ok_getV, ok_getC, ok_setC, ok_opt, ok_need, ok_ite, ok_mkLf, ok_mkLt, ok_notB, List.map_cons, List.map_nil, List.replicate_zero, List.replicate_succ, List.length_cons, List.length_nil, List.cons_append, List.nil_append, Nat.reduceSub, Nat.reduceAdd, List.getElem?_cons_zero, List.getElem?_cons_succ, Option.some.injEq, exists_eq_left', ixD_i, setIx_ri, appD_r, isC_r, items_tup, items_lst, items_fro, items_ref, tru_b, tru_i, b_add, b_sub, b_mul, b_div, b_mod, b_pow, b_band, addD_ii, subD_ii, mulD_ii, modD_ii, divD_ii, powD_ii, bandD_ii, addD_tt, addD_ll, c_eq, c_ne, c_lt, c_le, c_gt, c_ge, c_is, c_isn, isD_bb, eqD_ii, eqD_ss, eqD_bb, ltD_ii, leD_ii, bi_len, bi_max, bi_min, bi_tup, bi_lst, bi_repr, bi_all, maxB_ii, minB_ii, lenB_1, tupB_1, lstB_1, reprB_1, allB_1, slD_t, slD_l, slD_f, slD_r, ints2_ii, popD_ri, AG.wipeD, asg_n, asg_t, asg_p, AG.setAll, atI_0, atI_1, atI_2, atI_3, ixN_30, ixN_31, ixN_32, List.set_cons_zero, List.set_cons_succ, List.getElem?_set_self, List.length_set, Bool.and_eq_true, decide_eq_true_eq, decide_eq_false_iff_not, bne_iff_ne, bne_eq_false_iff_eq, Int.toNat_natCast]
  refine ok_for (fun j ρ S' => S' = S2 ∧ ∃ x3 x4, ρ = [some (.obj "Ways" k), some (dParts ps), some (tN (turnOf w (flat (ps.take j)))), x3, x4]) ⟨rfl, none, none, rfl⟩ ?_ ?_
  · rintro j x ρ S' hx ⟨rfl, x3, x4, rfl⟩
    rw [List.getElem?_map] at hx
    obtain ⟨p, hp', rfl⟩ := Option.map_eq_some_iff.mp hx
    have hpm := List.mem_of_getElem? hp'
    have hro := hps.rows p hpm
    refine ⟨_, rfl, ?_⟩
    try simp only [runF, exs, ex, ev, evs, evt, evo, evi, evc, ok_bnd, ok_ret', ok_getV, ok_getC, ok_setC, ok_opt, ok_need, ok_ite, ok_mkLf, ok_mkLt, ok_notB, List.map_cons, List.map_nil, List.replicate_zero, List.replicate_succ, List.length_cons, List.length_nil, List.cons_append, List.nil_append, Nat.reduceSub, Nat.reduceAdd, List.getElem?_cons_zero, List.getElem?_cons_succ, Option.some.injEq, exists_eq_left', ixD_i, setIx_ri, appD_r, isC_r, items_tup, items_lst, items_fro, items_ref, tru_b, tru_i, b_add, b_sub, b_mul, b_div, b_mod, b_pow, b_band, addD_ii, subD_ii, mulD_ii, modD_ii, divD_ii, powD_ii, bandD_ii, addD_tt, addD_ll, c_eq, c_ne, c_lt, c_le, c_gt, c_ge, c_is, c_isn, isD_bb, eqD_ii, eqD_ss, eqD_bb, ltD_ii, leD_ii, bi_len, bi_max, bi_min, bi_tup, bi_lst, bi_repr, bi_all, maxB_ii, minB_ii, lenB_1, tupB_1, lstB_1, reprB_1, allB_1, slD_t, slD_l, slD_f, slD_r, ints2_ii, popD_ri, AG.wipeD, asg_n, asg_t, asg_p, AG.setAll, atI_0, atI_1, atI_2, atI_3, ixN_30, ixN_31, ixN_32, List.set_cons_zero, List.set_cons_succ, List.getElem?_set_self, List.length_set, Bool.and_eq_true, decide_eq_true_eq, decide_eq_false_iff_not, bne_iff_ne, bne_eq_false_iff_eq, Int.toNat_natCast]
    rw [i_turn H]
    try simp only [runF, exs, ex, ev, evs, evt, evo, evi, evc, ok_bnd, ok_ret', ok_getV, ok_getC, ok_setC, ok_opt, ok_need, ok_ite, ok_mkLf, ok_mkLt, ok_notB, List.map_cons, List.map_nil, List.replicate_zero, List.replicate_succ, List.length_cons, List.length_nil, List.cons_append, List.nil_append, Nat.reduceSub, Nat.reduceAdd, List.getElem?_cons_zero, List.getElem?_cons_succ, Option.some.injEq, exists_eq_left', ixD_i, setIx_ri, appD_r, isC_r, items_tup, items_lst, items_fro, items_ref, tru_b, tru_i, b_add, b_sub, b_mul, b_div, b_mod, b_pow, b_band, addD_ii, subD_ii, mulD_ii, modD_ii, divD_ii, powD_ii, bandD_ii, addD_tt, addD_ll, c_eq, c_ne, c_lt, c_le, c_gt, c_ge, c_is, c_isn, isD_bb, eqD_ii, eqD_ss, eqD_bb, ltD_ii, leD_ii, bi_len, bi_max, bi_min, bi_tup, bi_lst, bi_repr, bi_all, maxB_ii, minB_ii, lenB_1, tupB_1, lstB_1, reprB_1, allB_1, slD_t, slD_l, slD_f, slD_r, ints2_ii, popD_ri, AG.wipeD, asg_n, asg_t, asg_p, AG.setAll, atI_0, atI_1, atI_2, atI_3, ixN_30, ixN_31, ixN_32, List.set_cons_zero, List.set_cons_succ, List.getElem?_set_self, List.length_set, Bool.and_eq_true, decide_eq_true_eq, decide_eq_false_iff_not, bne_iff_ne, bne_eq_false_iff_eq, Int.toNat_natCast]
    refine (ht S' k r w p.1 H (hps.len p hpm) hro).mono fun d S3 ⟨e1, e2⟩ => ?_
    subst e1 e2
    try simp only [runF, exs, ex, ev, evs, evt, evo, evi, evc, ok_bnd, ok_ret', ok_getV, ok_getC, ok_setC, ok_opt, ok_need, ok_ite, ok_mkLf, ok_mkLt, ok_notB, List.map_cons, List.map_nil, List.replicate_zero, List.replicate_succ, List.length_cons, List.length_nil, List.cons_append, List.nil_append, Nat.reduceSub, Nat.reduceAdd, List.getElem?_cons_zero, List.getElem?_cons_succ, Option.some.injEq, exists_eq_left', ixD_i, setIx_ri, appD_r, isC_r, items_tup, items_lst, items_fro, items_ref, tru_b, tru_i, b_add, b_sub, b_mul, b_div, b_mod, b_pow, b_band, addD_ii, subD_ii, mulD_ii, modD_ii, divD_ii, powD_ii, bandD_ii, addD_tt, addD_ll, c_eq, c_ne, c_lt, c_le, c_gt, c_ge, c_is, c_isn, isD_bb, eqD_ii, eqD_ss, eqD_bb, ltD_ii, leD_ii, bi_len, bi_max, bi_min, bi_tup, bi_lst, bi_repr, bi_all, maxB_ii, minB_ii, lenB_1, tupB_1, lstB_1, reprB_1, allB_1, slD_t, slD_l, slD_f, slD_r, ints2_ii, popD_ri, AG.wipeD, asg_n, asg_t, asg_p, AG.setAll, atI_0, atI_1, atI_2, atI_3, ixN_30, ixN_31, ixN_32, List.set_cons_zero, List.set_cons_succ, List.getElem?_set_self, List.length_set, Bool.and_eq_true, decide_eq_true_eq, decide_eq_false_iff_not, bne_iff_ne, bne_eq_false_iff_eq, Int.toNat_natCast]
    have hb := hps.big p hpm
    refine (hp S3 w.many p.2 _ hm9 (turnOf_ok hro) (by omega)).mono fun d S4 ⟨e1, e2⟩ => ?_
    subst e1 e2
    try simp only [runF, exs, ex, ev, evs, evt, evo, evi, evc, ok_bnd, ok_ret', ok_getV, ok_getC, ok_setC, ok_opt, ok_need, ok_ite, ok_mkLf, ok_mkLt, ok_notB, List.map_cons, List.map_nil, List.replicate_zero, List.replicate_succ, List.length_cons, List.length_nil, List.cons_append, List.nil_append, Nat.reduceSub, Nat.reduceAdd, List.getElem?_cons_zero, List.getElem?_cons_succ, Option.some.injEq, exists_eq_left', ixD_i, setIx_ri, appD_r, isC_r, items_tup, items_lst, items_fro, items_ref, tru_b, tru_i, b_add, b_sub, b_mul, b_div, b_mod, b_pow, b_band, addD_ii, subD_ii, mulD_ii, modD_ii, divD_ii, powD_ii, bandD_ii, addD_tt, addD_ll, c_eq, c_ne, c_lt, c_le, c_gt, c_ge, c_is, c_isn, isD_bb, eqD_ii, eqD_ss, eqD_bb, ltD_ii, leD_ii, bi_len, bi_max, bi_min, bi_tup, bi_lst, bi_repr, bi_all, maxB_ii, minB_ii, lenB_1, tupB_1, lstB_1, reprB_1, allB_1, slD_t, slD_l, slD_f, slD_r, ints2_ii, popD_ri, AG.wipeD, asg_n, asg_t, asg_p, AG.setAll, atI_0, atI_1, atI_2, atI_3, ixN_30, ixN_31, ixN_32, List.set_cons_zero, List.set_cons_succ, List.getElem?_set_self, List.length_set, Bool.and_eq_true, decide_eq_true_eq, decide_eq_false_iff_not, bne_iff_ne, bne_eq_false_iff_eq, Int.toNat_natCast]
    have hfo : ∀ q ∈ flat (ps.take j), RowOk w q := flat_ok fun p hp => hps.rows p (List.mem_of_mem_take hp)
    refine (ha S4 w.many _ _ hm9 (pw_tn (turnOf_ok hro) p.2) (turnOf_ok hfo)).mono fun d S5 ⟨e1, e2⟩ => ?_
    subst e1 e2
    refine ⟨rfl, some (dRows p.1), some (.int (p.2 : Nat)), ?_⟩
    have : turnOf w (flat (ps.take (j + 1))) = comp (pw (turnOf w p.1) p.2) (turnOf w (flat (ps.take j))) := by
      rw [List.take_add_one, hp', ← turnOf_rep hro, ← turnOf_app hfo (rep_ok hro _)]
      congr 1
      unfold flat
      rw [List.flatMap_append]
      simp
    rw [this]
    try rfl
  · rintro ρ S' ⟨rfl, x3, x4, rfl⟩
    try simp only [runF, exs, ex, ev, evs, evt, evo, evi, evc, ok_bnd, ok_ret', ok_getV, ok_getC, ok_setC, ok_opt, ok_need, ok_ite, ok_mkLf, ok_mkLt, ok_notB, List.map_cons, List.map_nil, List.replicate_zero, List.replicate_succ, List.length_cons, List.length_nil, List.cons_append, List.nil_append, Nat.reduceSub, Nat.reduceAdd, List.getElem?_cons_zero, List.getElem?_cons_succ, Option.some.injEq, exists_eq_left', ixD_i, setIx_ri, appD_r, isC_r, items_tup, items_lst, items_fro, items_ref, tru_b, tru_i, b_add, b_sub, b_mul, b_div, b_mod, b_pow, b_band, addD_ii, subD_ii, mulD_ii, modD_ii, divD_ii, powD_ii, bandD_ii, addD_tt, addD_ll, c_eq, c_ne, c_lt, c_le, c_gt, c_ge, c_is, c_isn, isD_bb, eqD_ii, eqD_ss, eqD_bb, ltD_ii, leD_ii, bi_len, bi_max, bi_min, bi_tup, bi_lst, bi_repr, bi_all, maxB_ii, minB_ii, lenB_1, tupB_1, lstB_1, reprB_1, allB_1, slD_t, slD_l, slD_f, slD_r, ints2_ii, popD_ri, AG.wipeD, asg_n, asg_t, asg_p, AG.setAll, atI_0, atI_1, atI_2, atI_3, ixN_30, ixN_31, ixN_32, List.set_cons_zero, List.set_cons_succ, List.getElem?_set_self, List.length_set, Bool.and_eq_true, decide_eq_true_eq, decide_eq_false_iff_not, bne_iff_ne, bne_eq_false_iff_eq, Int.toNat_natCast]
    rw [List.length_map, List.take_of_length_le (Nat.le_refl _)]
    exact ⟨by trivial, by trivial⟩
theorem own_run : OwnW (runF Φ fu 6 b_own_doing) := by
  intro S m c q row b ho he hb
  obtain ⟨evn, at_, wh⟩ := q
  have he : wh = .own row := he
  subst he
  have h1 : 1 ≤ evn := ho.e1
  have h12 : evn ≤ 12 := ho.e12
  obtain ⟨w1, w6, _⟩ := ho.wh
  simp only [b_own_doing, dR, dW, tN, runF, exs, ex, ev, evs, evt, evo, evi, evc, ok_bnd, ok_ret', ok_getV, ok_getC, ok_setC, ok_opt, ok_need, ok_ite, ok_mkLf, ok_mkLt, ok_notB, List.map_cons, List.map_nil, List.replicate_zero, List.replicate_succ, List.length_cons, List.length_nil, List.cons_append, List.nil_append, Nat.reduceSub, Nat.reduceAdd, List.getElem?_cons_zero, List.getElem?_cons_succ, Option.some.injEq, exists_eq_left', ixD_i, setIx_ri, appD_r, isC_r, items_tup, items_lst, items_fro, items_ref, tru_b, tru_i, b_add, b_sub, b_mul, b_div, b_mod, b_pow, b_band, addD_ii, subD_ii, mulD_ii, modD_ii, divD_ii, powD_ii, bandD_ii, addD_tt, addD_ll, c_eq, c_ne, c_lt, c_le, c_gt, c_ge, c_is, c_isn, isD_bb, eqD_ii, eqD_ss, eqD_bb, ltD_ii, leD_ii, bi_len, bi_max, bi_min, bi_tup, bi_lst, bi_repr, bi_all, maxB_ii, minB_ii, lenB_1, tupB_1, lstB_1, reprB_1, allB_1, slD_t, slD_l, slD_f, slD_r, ints2_ii, popD_ri, AG.wipeD, asg_n, asg_t, asg_p, AG.setAll, atI_0, atI_1, atI_2, atI_3, ixN_30, ixN_31, ixN_32, List.set_cons_zero, List.set_cons_succ, List.getElem?_set_self, List.length_set, Bool.and_eq_true, decide_eq_true_eq, decide_eq_false_iff_not, bne_iff_ne, bne_eq_false_iff_eq, Int.toNat_natCast, List.length_map]
  refine ⟨⟨by omega, big_nat (by omega)⟩, by omega, ?_⟩
  have hlt : b / evn % row.length < row.length := Nat.mod_lt _ (by omega)
  rw [← Int.natCast_ediv, ← Int.natCast_emod, atI_of, List.getElem?_map, List.getElem?_eq_getElem hlt, getD_at hlt]
  exact ⟨_, rfl, rfl, by trivial⟩
theorem chg_run (ht : TurW (Φ "Ways.turn")) (hof : OftenW (Φ "often")) (hw : WhatW (Φ "Ways._what")) : ChgW (runF Φ fu 6 b_Ways__changed) := by
  intro S k r w rows n v H hl ho hn1 hn hv
  have hm9 := H.wok.m9
  simp only [b_Ways__changed, runF, exs, ex, ev, evs, evt, evo, evi, evc, ok_bnd, ok_ret', ok_getV, ok_getC, ok_setC, ok_opt, ok_need, ok_ite, ok_mkLf, ok_mkLt, ok_notB, List.map_cons, List.map_nil, List.replicate_zero, List.replicate_succ, List.length_cons, List.length_nil, List.cons_append, List.nil_append, Nat.reduceSub, Nat.reduceAdd, List.getElem?_cons_zero, List.getElem?_cons_succ, Option.some.injEq, exists_eq_left', ixD_i, setIx_ri, appD_r, isC_r, items_tup, items_lst, items_fro, items_ref, tru_b, tru_i, b_add, b_sub, b_mul, b_div, b_mod, b_pow, b_band, addD_ii, subD_ii, mulD_ii, modD_ii, divD_ii, powD_ii, bandD_ii, addD_tt, addD_ll, c_eq, c_ne, c_lt, c_le, c_gt, c_ge, c_is, c_isn, isD_bb, eqD_ii, eqD_ss, eqD_bb, ltD_ii, leD_ii, bi_len, bi_max, bi_min, bi_tup, bi_lst, bi_repr, bi_all, maxB_ii, minB_ii, lenB_1, tupB_1, lstB_1, reprB_1, allB_1, slD_t, slD_l, slD_f, slD_r, ints2_ii, popD_ri, AG.wipeD, asg_n, asg_t, asg_p, AG.setAll, atI_0, atI_1, atI_2, atI_3, ixN_30, ixN_31, ixN_32, List.set_cons_zero, List.set_cons_succ, List.getElem?_set_self, List.length_set, Bool.and_eq_true, decide_eq_true_eq, decide_eq_false_iff_not, bne_iff_ne, bne_eq_false_iff_eq, Int.toNat_natCast]
  constructor
  · intro h2
    rw [i_turn H]
    try simp only [runF, exs, ex, ev, evs, evt, evo, evi, evc, ok_bnd, ok_ret', ok_getV, ok_getC, ok_setC, ok_opt, ok_need, ok_ite, ok_mkLf, ok_mkLt, ok_notB, List.map_cons, List.map_nil, List.replicate_zero, List.replicate_succ, List.length_cons, List.length_nil, List.cons_append, List.nil_append, Nat.reduceSub, Nat.reduceAdd, List.getElem?_cons_zero, List.getElem?_cons_succ, Option.some.injEq, exists_eq_left', ixD_i, setIx_ri, appD_r, isC_r, items_tup, items_lst, items_fro, items_ref, tru_b, tru_i, b_add, b_sub, b_mul, b_div, b_mod, b_pow, b_band, addD_ii, subD_ii, mulD_ii, modD_ii, divD_ii, powD_ii, bandD_ii, addD_tt, addD_ll, c_eq, c_ne, c_lt, c_le, c_gt, c_ge, c_is, c_isn, isD_bb, eqD_ii, eqD_ss, eqD_bb, ltD_ii, leD_ii, bi_len, bi_max, bi_min, bi_tup, bi_lst, bi_repr, bi_all, maxB_ii, minB_ii, lenB_1, tupB_1, lstB_1, reprB_1, allB_1, slD_t, slD_l, slD_f, slD_r, ints2_ii, popD_ri, AG.wipeD, asg_n, asg_t, asg_p, AG.setAll, atI_0, atI_1, atI_2, atI_3, ixN_30, ixN_31, ixN_32, List.set_cons_zero, List.set_cons_succ, List.getElem?_set_self, List.length_set, Bool.and_eq_true, decide_eq_true_eq, decide_eq_false_iff_not, bne_iff_ne, bne_eq_false_iff_eq, Int.toNat_natCast]
    refine (ht S k r w rows H hl ho).mono fun d S2 ⟨e1, e2⟩ => ?_
    subst e1 e2
    try simp only [runF, exs, ex, ev, evs, evt, evo, evi, evc, ok_bnd, ok_ret', ok_getV, ok_getC, ok_setC, ok_opt, ok_need, ok_ite, ok_mkLf, ok_mkLt, ok_notB, List.map_cons, List.map_nil, List.replicate_zero, List.replicate_succ, List.length_cons, List.length_nil, List.cons_append, List.nil_append, Nat.reduceSub, Nat.reduceAdd, List.getElem?_cons_zero, List.getElem?_cons_succ, Option.some.injEq, exists_eq_left', ixD_i, setIx_ri, appD_r, isC_r, items_tup, items_lst, items_fro, items_ref, tru_b, tru_i, b_add, b_sub, b_mul, b_div, b_mod, b_pow, b_band, addD_ii, subD_ii, mulD_ii, modD_ii, divD_ii, powD_ii, bandD_ii, addD_tt, addD_ll, c_eq, c_ne, c_lt, c_le, c_gt, c_ge, c_is, c_isn, isD_bb, eqD_ii, eqD_ss, eqD_bb, ltD_ii, leD_ii, bi_len, bi_max, bi_min, bi_tup, bi_lst, bi_repr, bi_all, maxB_ii, minB_ii, lenB_1, tupB_1, lstB_1, reprB_1, allB_1, slD_t, slD_l, slD_f, slD_r, ints2_ii, popD_ri, AG.wipeD, asg_n, asg_t, asg_p, AG.setAll, atI_0, atI_1, atI_2, atI_3, ixN_30, ixN_31, ixN_32, List.set_cons_zero, List.set_cons_succ, List.getElem?_set_self, List.length_set, Bool.and_eq_true, decide_eq_true_eq, decide_eq_false_iff_not, bne_iff_ne, bne_eq_false_iff_eq, Int.toNat_natCast]
    refine (hof S2 w.many n v _ hm9 (turnOf_ok ho) hv (by omega)).mono fun d S3 ⟨e1, F3⟩ => ?_
    subst e1
    refine ⟨?_, F3⟩
    rw [turnOf_rep ho, pw_it (turnOf_ok ho), List.getD_eq_getElem?_getD, List.getElem?_map, List.getElem?_range hv]
    rfl
  · intro h2
    have : n = 1 := by omega
    subst this
    have er : (List.replicate 1 rows).flatten = rows := by simp
    rw [er]
    try simp only [dRows, runF, exs, ex, ev, evs, evt, evo, evi, evc, ok_bnd, ok_ret', ok_getV, ok_getC, ok_setC, ok_opt, ok_need, ok_ite, ok_mkLf, ok_mkLt, ok_notB, List.map_cons, List.map_nil, List.replicate_zero, List.replicate_succ, List.length_cons, List.length_nil, List.cons_append, List.nil_append, Nat.reduceSub, Nat.reduceAdd, List.getElem?_cons_zero, List.getElem?_cons_succ, Option.some.injEq, exists_eq_left', ixD_i, setIx_ri, appD_r, isC_r, items_tup, items_lst, items_fro, items_ref, tru_b, tru_i, b_add, b_sub, b_mul, b_div, b_mod, b_pow, b_band, addD_ii, subD_ii, mulD_ii, modD_ii, divD_ii, powD_ii, bandD_ii, addD_tt, addD_ll, c_eq, c_ne, c_lt, c_le, c_gt, c_ge, c_is, c_isn, isD_bb, eqD_ii, eqD_ss, eqD_bb, ltD_ii, leD_ii, bi_len, bi_max, bi_min, bi_tup, bi_lst, bi_repr, bi_all, maxB_ii, minB_ii, lenB_1, tupB_1, lstB_1, reprB_1, allB_1, slD_t, slD_l, slD_f, slD_r, ints2_ii, popD_ri, AG.wipeD, asg_n, asg_t, asg_p, AG.setAll, atI_0, atI_1, atI_2, atI_3, ixN_30, ixN_31, ixN_32, List.set_cons_zero, List.set_cons_succ, List.getElem?_set_self, List.length_set, Bool.and_eq_true, decide_eq_true_eq, decide_eq_false_iff_not, bne_iff_ne, bne_eq_false_iff_eq, Int.toNat_natCast]
    refine ok_for (fun j ρ S' => S' = S ∧ ∃ x4 x5, ρ = [some (.obj "Ways" k), some (dRows rows), some (.int ((1 : Nat) : Int)), some (.int ((turnOf w (rows.drop (rows.length - j))).getD v 0 : Nat)), x4, x5]) ⟨rfl, none, none, ?_⟩ ?_ ?_
    · rw [Nat.sub_zero, List.drop_of_length_le (Nat.le_refl _)]
      have : (turnOf w []).getD v 0 = v := by
        show (List.range w.many).getD v 0 = v
        rw [List.getD_eq_getElem?_getD, List.getElem?_range hv]
        rfl
      rw [this]
      rfl
    · rintro j x ρ S' hx ⟨rfl, x4, x5, rfl⟩
      have hj : j < rows.length := by
        have := (List.getElem?_eq_some_iff.mp hx).1
        rw [List.length_reverse, List.length_map] at this
        exact this
      rw [List.getElem?_reverse (by rw [List.length_map]; exact hj), List.length_map, List.getElem?_map] at hx
      obtain ⟨q, hq, rfl⟩ := Option.map_eq_some_iff.mp hx
      have hqo := ho q (List.mem_of_getElem? hq)
      refine ⟨_, rfl, ?_⟩
      try simp only [runF, exs, ex, ev, evs, evt, evo, evi, evc, ok_bnd, ok_ret', ok_getV, ok_getC, ok_setC, ok_opt, ok_need, ok_ite, ok_mkLf, ok_mkLt, ok_notB, List.map_cons, List.map_nil, List.replicate_zero, List.replicate_succ, List.length_cons, List.length_nil, List.cons_append, List.nil_append, Nat.reduceSub, Nat.reduceAdd, List.getElem?_cons_zero, List.getElem?_cons_succ, Option.some.injEq, exists_eq_left', ixD_i, setIx_ri, appD_r, isC_r, items_tup, items_lst, items_fro, items_ref, tru_b, tru_i, b_add, b_sub, b_mul, b_div, b_mod, b_pow, b_band, addD_ii, subD_ii, mulD_ii, modD_ii, divD_ii, powD_ii, bandD_ii, addD_tt, addD_ll, c_eq, c_ne, c_lt, c_le, c_gt, c_ge, c_is, c_isn, isD_bb, eqD_ii, eqD_ss, eqD_bb, ltD_ii, leD_ii, bi_len, bi_max, bi_min, bi_tup, bi_lst, bi_repr, bi_all, maxB_ii, minB_ii, lenB_1, tupB_1, lstB_1, reprB_1, allB_1, slD_t, slD_l, slD_f, slD_r, ints2_ii, popD_ri, AG.wipeD, asg_n, asg_t, asg_p, AG.setAll, atI_0, atI_1, atI_2, atI_3, ixN_30, ixN_31, ixN_32, List.set_cons_zero, List.set_cons_succ, List.getElem?_set_self, List.length_set, Bool.and_eq_true, decide_eq_true_eq, decide_eq_false_iff_not, bne_iff_ne, bne_eq_false_iff_eq, Int.toNat_natCast]
      rw [i_what H]
      try simp only [runF, exs, ex, ev, evs, evt, evo, evi, evc, ok_bnd, ok_ret', ok_getV, ok_getC, ok_setC, ok_opt, ok_need, ok_ite, ok_mkLf, ok_mkLt, ok_notB, List.map_cons, List.map_nil, List.replicate_zero, List.replicate_succ, List.length_cons, List.length_nil, List.cons_append, List.nil_append, Nat.reduceSub, Nat.reduceAdd, List.getElem?_cons_zero, List.getElem?_cons_succ, Option.some.injEq, exists_eq_left', ixD_i, setIx_ri, appD_r, isC_r, items_tup, items_lst, items_fro, items_ref, tru_b, tru_i, b_add, b_sub, b_mul, b_div, b_mod, b_pow, b_band, addD_ii, subD_ii, mulD_ii, modD_ii, divD_ii, powD_ii, bandD_ii, addD_tt, addD_ll, c_eq, c_ne, c_lt, c_le, c_gt, c_ge, c_is, c_isn, isD_bb, eqD_ii, eqD_ss, eqD_bb, ltD_ii, leD_ii, bi_len, bi_max, bi_min, bi_tup, bi_lst, bi_repr, bi_all, maxB_ii, minB_ii, lenB_1, tupB_1, lstB_1, reprB_1, allB_1, slD_t, slD_l, slD_f, slD_r, ints2_ii, popD_ri, AG.wipeD, asg_n, asg_t, asg_p, AG.setAll, atI_0, atI_1, atI_2, atI_3, ixN_30, ixN_31, ixN_32, List.set_cons_zero, List.set_cons_succ, List.getElem?_set_self, List.length_set, Bool.and_eq_true, decide_eq_true_eq, decide_eq_false_iff_not, bne_iff_ne, bne_eq_false_iff_eq, Int.toNat_natCast]
      refine (hw S' k r w q H hqo).mono fun d S3 ⟨e1, e2⟩ => ?_
      subst e1 e2
      obtain ⟨h3, a, t, ew, _, _, _, htn⟩ := hqo.cop
      rw [ew]
      have hro : ∀ p ∈ rows.drop (rows.length - j), RowOk w p := fun p hp => ho p (List.mem_of_mem_drop hp)
      have hT := turnOf_ok hro
      try simp only [dW, tN, runF, exs, ex, ev, evs, evt, evo, evi, evc, ok_bnd, ok_ret', ok_getV, ok_getC, ok_setC, ok_opt, ok_need, ok_ite, ok_mkLf, ok_mkLt, ok_notB, List.map_cons, List.map_nil, List.replicate_zero, List.replicate_succ, List.length_cons, List.length_nil, List.cons_append, List.nil_append, Nat.reduceSub, Nat.reduceAdd, List.getElem?_cons_zero, List.getElem?_cons_succ, Option.some.injEq, exists_eq_left', ixD_i, setIx_ri, appD_r, isC_r, items_tup, items_lst, items_fro, items_ref, tru_b, tru_i, b_add, b_sub, b_mul, b_div, b_mod, b_pow, b_band, addD_ii, subD_ii, mulD_ii, modD_ii, divD_ii, powD_ii, bandD_ii, addD_tt, addD_ll, c_eq, c_ne, c_lt, c_le, c_gt, c_ge, c_is, c_isn, isD_bb, eqD_ii, eqD_ss, eqD_bb, ltD_ii, leD_ii, bi_len, bi_max, bi_min, bi_tup, bi_lst, bi_repr, bi_all, maxB_ii, minB_ii, lenB_1, tupB_1, lstB_1, reprB_1, allB_1, slD_t, slD_l, slD_f, slD_r, ints2_ii, popD_ri, AG.wipeD, asg_n, asg_t, asg_p, AG.setAll, atI_0, atI_1, atI_2, atI_3, ixN_30, ixN_31, ixN_32, List.set_cons_zero, List.set_cons_succ, List.getElem?_set_self, List.length_set, Bool.and_eq_true, decide_eq_true_eq, decide_eq_false_iff_not, bne_iff_ne, bne_eq_false_iff_eq, Int.toNat_natCast]
      rw [at_tN htn (getD_lt hT hv)]
      refine ⟨_, rfl, by trivial, some (dRow q), some (tN t), ?_⟩
      have hl1 : rows.length - 1 - j < rows.length := by omega
      have ed : rows.drop (rows.length - (j + 1)) = q :: rows.drop (rows.length - j) := by
        rw [show rows.length - (j + 1) = rows.length - 1 - j by omega, List.drop_eq_getElem_cons hl1, show rows.length - 1 - j + 1 = rows.length - j by omega]
        congr 1
        rw [List.getElem?_eq_getElem hl1] at hq
        exact Option.some.inj hq
      have et : tuR w q = t := by unfold tuR; rw [ew]
      rw [ed, turnOf_cons hqo hro, comp_getD hT hv, et]
      rfl
    · rintro ρ S' ⟨rfl, x4, x5, rfl⟩
      try simp only [runF, exs, ex, ev, evs, evt, evo, evi, evc, ok_bnd, ok_ret', ok_getV, ok_getC, ok_setC, ok_opt, ok_need, ok_ite, ok_mkLf, ok_mkLt, ok_notB, List.map_cons, List.map_nil, List.replicate_zero, List.replicate_succ, List.length_cons, List.length_nil, List.cons_append, List.nil_append, Nat.reduceSub, Nat.reduceAdd, List.getElem?_cons_zero, List.getElem?_cons_succ, Option.some.injEq, exists_eq_left', ixD_i, setIx_ri, appD_r, isC_r, items_tup, items_lst, items_fro, items_ref, tru_b, tru_i, b_add, b_sub, b_mul, b_div, b_mod, b_pow, b_band, addD_ii, subD_ii, mulD_ii, modD_ii, divD_ii, powD_ii, bandD_ii, addD_tt, addD_ll, c_eq, c_ne, c_lt, c_le, c_gt, c_ge, c_is, c_isn, isD_bb, eqD_ii, eqD_ss, eqD_bb, ltD_ii, leD_ii, bi_len, bi_max, bi_min, bi_tup, bi_lst, bi_repr, bi_all, maxB_ii, minB_ii, lenB_1, tupB_1, lstB_1, reprB_1, allB_1, slD_t, slD_l, slD_f, slD_r, ints2_ii, popD_ri, AG.wipeD, asg_n, asg_t, asg_p, AG.setAll, atI_0, atI_1, atI_2, atI_3, ixN_30, ixN_31, ixN_32, List.set_cons_zero, List.set_cons_succ, List.getElem?_set_self, List.length_set, Bool.and_eq_true, decide_eq_true_eq, decide_eq_false_iff_not, bne_iff_ne, bne_eq_false_iff_eq, Int.toNat_natCast]
      rw [List.length_reverse, List.length_map, Nat.sub_self, List.drop_zero]
      exact ⟨by trivial, Fr.refl _ _⟩
end
end AGL
namespace AGL
open PySem AG
def DoW (F : List D → M D) : Prop := ∀ (S : Sto) (k r : Nat) (w : We) (h : Nat) (b : Int), WA S k r w → h < w.hands.length → b ≤ 10 ^ 20 → Ok (F [.obj "Ways" k, .int (h : Nat), .int b]) S fun d S' => ∃ rows h' b', Go w h b rows h' b' ∧ Stop w h' b' ∧ d = .int ((turnOf w rows).getD (endV w h' b') 0 : Nat) ∧ WA S' k r w ∧ Fr r S S'
def BegW (F : List D → M D) : Prop := ∀ (S : Sto) (k r : Nat) (w : We) (h : Nat) (b : Int), WA S k r w → h < w.hands.length → b ≤ 10 ^ 20 → Stop w h b → Ok (F [.obj "Ways" k, .int (h : Nat), .int b]) S fun d S' => d = .int (endV w h b : Nat) ∧ WA S' k r w ∧ Fr r S S'
def LedW (F : List D → M D) : Prop := ∀ (S : Sto) (k r : Nat) (w : We) (ps : List (List Row × Nat)) (e0 : Nat), WA S k r w → PsOk w ps → e0 < w.many → Ok (F [.obj "Ways" k, dParts ps, .int (e0 : Nat)]) S fun d S' => d = .int ((turnOf w (flat ps)).getD e0 0 : Nat) ∧ WA S' k r w ∧ Fr r S S'
def CopW (F : List D → M D) : Prop := ∀ (S : Sto) (ps : List (List Row × Nat)), (ps.length ≤ 1000 ∧ ∀ p ∈ ps, p.1.length ≤ 1440 ∧ p.2 < 2 ^ 81) → Ok (F [dParts ps]) S fun d S' => d = .int ((flat ps).length : Nat) ∧ S' = S
def SrcW (F : List D → M D) : Prop := ∀ (S : Sto) (w : We) (h : Nat) (b : Int), WeOk w → h < w.hands.length → b ≤ 10 ^ 20 → Ok (F [dWe w, .int (h : Nat), .int b]) S fun d S' => ∃ rows h' b', Go w h b rows h' b' ∧ Stop w h' b' ∧ d = .tup [.int (h' : Nat), .int (if b' < 0 then -1 else b'), tN (turnOf w rows), .int (rows.length : Nat)] ∧ Fr S.length S S'
def DatW (F : List D → M D) : Prop := ∀ (S : Sto) (w : We) (h : Nat) (b : Int), WeOk w → h < w.hands.length → b ≤ 10 ^ 20 → Ok (F [dWe w, .int (h : Nat), .int b]) S fun d S' => ∃ rows h' b', Go w h b rows h' b' ∧ Stop w h' b' ∧ d = .int ((turnOf w rows).getD (endV w h' b') 0 : Nat) ∧ Fr S.length S S'
theorem Go.le {w : We} {h : Nat} {b : Int} {xs : List Row} {h1 : Nat} {b1 : Int} (g : Go w h b xs h1 b1) : b1 ≤ b := by
  have := g.sum
  omega
theorem endV_lt {w : We} (hw : WeOk w) {h : Nat} {b : Int} (hh : h < w.hands.length) : endV w h b < w.many := by
  unfold endV
  split
  · have hl : h < w.before.length := by rw [hw.bl]; exact hh
    rw [getD_at hl]
    exact hw.bm _ (List.getElem_mem hl)
  · have ho := (ruA_ok hw hh (noAt_lt hw hh b)).wh
    cases e : (ruA w h (noAt w h b)).wh with
    | own row =>
      rw [e] at ho
      obtain ⟨w1, w6, wl⟩ := ho
      have hlt : (b / ((ruA w h (noAt w h b)).every : Nat)).toNat % row.length < row.length := Nat.mod_lt _ (by omega)
      show row.getD _ 0 < w.many
      rw [getD_at hlt]
      exact wl _ (List.getElem_mem hlt)
    | cop x y t =>
      show 0 < w.many
      have := hw.m1
      omega
theorem flat_app (ps qs : List (List Row × Nat)) : flat (ps ++ qs) = flat ps ++ flat qs := by
  unfold flat
  rw [List.flatMap_append]
theorem flat_cons (p : List Row × Nat) (ps : List (List Row × Nat)) : flat (p :: ps) = (List.replicate p.2 p.1).flatten ++ flat ps := by
  unfold flat
  rw [List.flatMap_cons]
theorem flat_len : ∀ ps : List (List Row × Nat), ((ps.map fun p => ((p.1.length : Nat) : Int) * (p.2 : Nat)).sum) = ((flat ps).length : Nat)
  | [] => rfl
  | p :: ps => by
    rw [List.map_cons, List.sum_cons, flat_len ps, flat_cons, List.length_append, List.length_flatten, List.map_replicate, List.sum_replicate_nat, Int.natCast_add, Int.natCast_mul, Int.mul_comm]
section
variable {Φ : String → List D → M D} {fu : Nat}
theorem begun_run (hr : WRuleW (Φ "Ways.rule")) (how : OwnW (Φ "own_doing")) : BegW (runF Φ fu 4 b_Ways_begun) := by
  intro S k r w h' b' H1 hh' hle hst
  have hm9 := H1.wok.m9
  simp only [b_Ways_begun, runF, exs, ex, ev, evs, evt, evo, evi, evc, ok_bnd, ok_ret', ok_getV, ok_getC, ok_setC, ok_opt, ok_need, ok_ite, ok_mkLf, ok_mkLt, ok_notB, List.map_cons, List.map_nil, List.replicate_zero, List.replicate_succ, List.length_cons, List.length_nil, List.cons_append, List.nil_append, Nat.reduceSub, Nat.reduceAdd, List.getElem?_cons_zero, List.getElem?_cons_succ, Option.some.injEq, exists_eq_left', ixD_i, setIx_ri, appD_r, isC_r, items_tup, items_lst, items_fro, items_ref, tru_b, tru_i, b_add, b_sub, b_mul, b_div, b_mod, b_pow, b_band, addD_ii, subD_ii, mulD_ii, modD_ii, divD_ii, powD_ii, bandD_ii, addD_tt, addD_ll, c_eq, c_ne, c_lt, c_le, c_gt, c_ge, c_is, c_isn, isD_bb, eqD_ii, eqD_ss, eqD_bb, ltD_ii, leD_ii, bi_len, bi_max, bi_min, bi_tup, bi_lst, bi_repr, bi_all, maxB_ii, minB_ii, lenB_1, tupB_1, lstB_1, reprB_1, allB_1, slD_t, slD_l, slD_f, slD_r, ints2_ii, popD_ri, AG.wipeD, asg_n, asg_t, asg_p, AG.setAll, atI_0, atI_1, atI_2, atI_3, ixN_30, ixN_31, ixN_32, List.set_cons_zero, List.set_cons_succ, List.getElem?_set_self, List.length_set, Bool.and_eq_true, decide_eq_true_eq, decide_eq_false_iff_not, bne_iff_ne, bne_eq_false_iff_eq, Int.toNat_natCast]
  refine ⟨fun h0 => ?A, fun h0 => ?B⟩
  case A =>
    rw [f_web H1]
    try simp only [dWe, tN, runF, exs, ex, ev, evs, evt, evo, evi, evc, ok_bnd, ok_ret', ok_getV, ok_getC, ok_setC, ok_opt, ok_need, ok_ite, ok_mkLf, ok_mkLt, ok_notB, List.map_cons, List.map_nil, List.replicate_zero, List.replicate_succ, List.length_cons, List.length_nil, List.cons_append, List.nil_append, Nat.reduceSub, Nat.reduceAdd, List.getElem?_cons_zero, List.getElem?_cons_succ, Option.some.injEq, exists_eq_left', ixD_i, setIx_ri, appD_r, isC_r, items_tup, items_lst, items_fro, items_ref, tru_b, tru_i, b_add, b_sub, b_mul, b_div, b_mod, b_pow, b_band, addD_ii, subD_ii, mulD_ii, modD_ii, divD_ii, powD_ii, bandD_ii, addD_tt, addD_ll, c_eq, c_ne, c_lt, c_le, c_gt, c_ge, c_is, c_isn, isD_bb, eqD_ii, eqD_ss, eqD_bb, ltD_ii, leD_ii, bi_len, bi_max, bi_min, bi_tup, bi_lst, bi_repr, bi_all, maxB_ii, minB_ii, lenB_1, tupB_1, lstB_1, reprB_1, allB_1, slD_t, slD_l, slD_f, slD_r, ints2_ii, popD_ri, AG.wipeD, asg_n, asg_t, asg_p, AG.setAll, atI_0, atI_1, atI_2, atI_3, ixN_30, ixN_31, ixN_32, List.set_cons_zero, List.set_cons_succ, List.getElem?_set_self, List.length_set, Bool.and_eq_true, decide_eq_true_eq, decide_eq_false_iff_not, bne_iff_ne, bne_eq_false_iff_eq, Int.toNat_natCast]
    have hl : h' < w.before.length := by rw [H1.wok.bl]; exact hh'
    rw [atI_of, List.getElem?_map, List.getElem?_eq_getElem hl]
    refine ⟨_, rfl, ?_⟩
    have hv : w.before[h'] = endV w h' b' := by
      unfold endV
      rw [if_pos h0, getD_at hl]
    rw [hv]
    exact ⟨rfl, H1, Fr.refl _ _⟩
  case B =>
    obtain ⟨bn, rfl⟩ : ∃ bn : Nat, b' = (bn : Nat) := ⟨b'.toNat, by omega⟩
    rw [i_rule H1]
    try simp only [runF, exs, ex, ev, evs, evt, evo, evi, evc, ok_bnd, ok_ret', ok_getV, ok_getC, ok_setC, ok_opt, ok_need, ok_ite, ok_mkLf, ok_mkLt, ok_notB, List.map_cons, List.map_nil, List.replicate_zero, List.replicate_succ, List.length_cons, List.length_nil, List.cons_append, List.nil_append, Nat.reduceSub, Nat.reduceAdd, List.getElem?_cons_zero, List.getElem?_cons_succ, Option.some.injEq, exists_eq_left', ixD_i, setIx_ri, appD_r, isC_r, items_tup, items_lst, items_fro, items_ref, tru_b, tru_i, b_add, b_sub, b_mul, b_div, b_mod, b_pow, b_band, addD_ii, subD_ii, mulD_ii, modD_ii, divD_ii, powD_ii, bandD_ii, addD_tt, addD_ll, c_eq, c_ne, c_lt, c_le, c_gt, c_ge, c_is, c_isn, isD_bb, eqD_ii, eqD_ss, eqD_bb, ltD_ii, leD_ii, bi_len, bi_max, bi_min, bi_tup, bi_lst, bi_repr, bi_all, maxB_ii, minB_ii, lenB_1, tupB_1, lstB_1, reprB_1, allB_1, slD_t, slD_l, slD_f, slD_r, ints2_ii, popD_ri, AG.wipeD, asg_n, asg_t, asg_p, AG.setAll, atI_0, atI_1, atI_2, atI_3, ixN_30, ixN_31, ixN_32, List.set_cons_zero, List.set_cons_succ, List.getElem?_set_self, List.length_set, Bool.and_eq_true, decide_eq_true_eq, decide_eq_false_iff_not, bne_iff_ne, bne_eq_false_iff_eq, Int.toNat_natCast]
    rw [f_beats H1]
    have hck := ck_pos H1.wok
    try simp only [runF, exs, ex, ev, evs, evt, evo, evi, evc, ok_bnd, ok_ret', ok_getV, ok_getC, ok_setC, ok_opt, ok_need, ok_ite, ok_mkLf, ok_mkLt, ok_notB, List.map_cons, List.map_nil, List.replicate_zero, List.replicate_succ, List.length_cons, List.length_nil, List.cons_append, List.nil_append, Nat.reduceSub, Nat.reduceAdd, List.getElem?_cons_zero, List.getElem?_cons_succ, Option.some.injEq, exists_eq_left', ixD_i, setIx_ri, appD_r, isC_r, items_tup, items_lst, items_fro, items_ref, tru_b, tru_i, b_add, b_sub, b_mul, b_div, b_mod, b_pow, b_band, addD_ii, subD_ii, mulD_ii, modD_ii, divD_ii, powD_ii, bandD_ii, addD_tt, addD_ll, c_eq, c_ne, c_lt, c_le, c_gt, c_ge, c_is, c_isn, isD_bb, eqD_ii, eqD_ss, eqD_bb, ltD_ii, leD_ii, bi_len, bi_max, bi_min, bi_tup, bi_lst, bi_repr, bi_all, maxB_ii, minB_ii, lenB_1, tupB_1, lstB_1, reprB_1, allB_1, slD_t, slD_l, slD_f, slD_r, ints2_ii, popD_ri, AG.wipeD, asg_n, asg_t, asg_p, AG.setAll, atI_0, atI_1, atI_2, atI_3, ixN_30, ixN_31, ixN_32, List.set_cons_zero, List.set_cons_succ, List.getElem?_set_self, List.length_set, Bool.and_eq_true, decide_eq_true_eq, decide_eq_false_iff_not, bne_iff_ne, bne_eq_false_iff_eq, Int.toNat_natCast]
    rw [← Int.natCast_emod]
    refine ⟨by omega, ?_⟩
    refine (hr S k r w h' (bn % ck w) H1 hh' (Nat.mod_lt _ hck)).mono fun d S2 ⟨e1, H2, l2, f2⟩ => ?_
    subst e1
    rw [noAt_rest hh']
    try simp only [runF, exs, ex, ev, evs, evt, evo, evi, evc, ok_bnd, ok_ret', ok_getV, ok_getC, ok_setC, ok_opt, ok_need, ok_ite, ok_mkLf, ok_mkLt, ok_notB, List.map_cons, List.map_nil, List.replicate_zero, List.replicate_succ, List.length_cons, List.length_nil, List.cons_append, List.nil_append, Nat.reduceSub, Nat.reduceAdd, List.getElem?_cons_zero, List.getElem?_cons_succ, Option.some.injEq, exists_eq_left', ixD_i, setIx_ri, appD_r, isC_r, items_tup, items_lst, items_fro, items_ref, tru_b, tru_i, b_add, b_sub, b_mul, b_div, b_mod, b_pow, b_band, addD_ii, subD_ii, mulD_ii, modD_ii, divD_ii, powD_ii, bandD_ii, addD_tt, addD_ll, c_eq, c_ne, c_lt, c_le, c_gt, c_ge, c_is, c_isn, isD_bb, eqD_ii, eqD_ss, eqD_bb, ltD_ii, leD_ii, bi_len, bi_max, bi_min, bi_tup, bi_lst, bi_repr, bi_all, maxB_ii, minB_ii, lenB_1, tupB_1, lstB_1, reprB_1, allB_1, slD_t, slD_l, slD_f, slD_r, ints2_ii, popD_ri, AG.wipeD, asg_n, asg_t, asg_p, AG.setAll, atI_0, atI_1, atI_2, atI_3, ixN_30, ixN_31, ixN_32, List.set_cons_zero, List.set_cons_succ, List.getElem?_set_self, List.length_set, Bool.and_eq_true, decide_eq_true_eq, decide_eq_false_iff_not, bne_iff_ne, bne_eq_false_iff_eq, Int.toNat_natCast]
    rw [f_web H2]
    try simp only [dWe, runF, exs, ex, ev, evs, evt, evo, evi, evc, ok_bnd, ok_ret', ok_getV, ok_getC, ok_setC, ok_opt, ok_need, ok_ite, ok_mkLf, ok_mkLt, ok_notB, List.map_cons, List.map_nil, List.replicate_zero, List.replicate_succ, List.length_cons, List.length_nil, List.cons_append, List.nil_append, Nat.reduceSub, Nat.reduceAdd, List.getElem?_cons_zero, List.getElem?_cons_succ, Option.some.injEq, exists_eq_left', ixD_i, setIx_ri, appD_r, isC_r, items_tup, items_lst, items_fro, items_ref, tru_b, tru_i, b_add, b_sub, b_mul, b_div, b_mod, b_pow, b_band, addD_ii, subD_ii, mulD_ii, modD_ii, divD_ii, powD_ii, bandD_ii, addD_tt, addD_ll, c_eq, c_ne, c_lt, c_le, c_gt, c_ge, c_is, c_isn, isD_bb, eqD_ii, eqD_ss, eqD_bb, ltD_ii, leD_ii, bi_len, bi_max, bi_min, bi_tup, bi_lst, bi_repr, bi_all, maxB_ii, minB_ii, lenB_1, tupB_1, lstB_1, reprB_1, allB_1, slD_t, slD_l, slD_f, slD_r, ints2_ii, popD_ri, AG.wipeD, asg_n, asg_t, asg_p, AG.setAll, atI_0, atI_1, atI_2, atI_3, ixN_30, ixN_31, ixN_32, List.set_cons_zero, List.set_cons_succ, List.getElem?_set_self, List.length_set, Bool.and_eq_true, decide_eq_true_eq, decide_eq_false_iff_not, bne_iff_ne, bne_eq_false_iff_eq, Int.toNat_natCast]
    rw [hands_at hh']
    refine ⟨_, rfl, ?_⟩
    try simp only [runF, exs, ex, ev, evs, evt, evo, evi, evc, ok_bnd, ok_ret', ok_getV, ok_getC, ok_setC, ok_opt, ok_need, ok_ite, ok_mkLf, ok_mkLt, ok_notB, List.map_cons, List.map_nil, List.replicate_zero, List.replicate_succ, List.length_cons, List.length_nil, List.cons_append, List.nil_append, Nat.reduceSub, Nat.reduceAdd, List.getElem?_cons_zero, List.getElem?_cons_succ, Option.some.injEq, exists_eq_left', ixD_i, setIx_ri, appD_r, isC_r, items_tup, items_lst, items_fro, items_ref, tru_b, tru_i, b_add, b_sub, b_mul, b_div, b_mod, b_pow, b_band, addD_ii, subD_ii, mulD_ii, modD_ii, divD_ii, powD_ii, bandD_ii, addD_tt, addD_ll, c_eq, c_ne, c_lt, c_le, c_gt, c_ge, c_is, c_isn, isD_bb, eqD_ii, eqD_ss, eqD_bb, ltD_ii, leD_ii, bi_len, bi_max, bi_min, bi_tup, bi_lst, bi_repr, bi_all, maxB_ii, minB_ii, lenB_1, tupB_1, lstB_1, reprB_1, allB_1, slD_t, slD_l, slD_f, slD_r, ints2_ii, popD_ri, AG.wipeD, asg_n, asg_t, asg_p, AG.setAll, atI_0, atI_1, atI_2, atI_3, ixN_30, ixN_31, ixN_32, List.set_cons_zero, List.set_cons_succ, List.getElem?_set_self, List.length_set, Bool.and_eq_true, decide_eq_true_eq, decide_eq_false_iff_not, bne_iff_ne, bne_eq_false_iff_eq, Int.toNat_natCast]
    have hno := noAt_lt H1.wok hh' (bn : Nat)
    rw [rules_at hno]
    refine ⟨_, rfl, ?_⟩
    obtain ⟨row, ew⟩ : ∃ row, (ruA w h' (noAt w h' (bn : Nat))).wh = .own row := by
      rcases hst with z | z
      · omega
      · exact z
    refine (how S2 _ _ _ row bn (ruA_ok H1.wok hh' hno) ew (by omega)).mono fun d S3 ⟨e1, e2⟩ => ?_
    subst e1 e2
    have hv : row.getD (bn / (ruA w h' (noAt w h' (bn : Nat))).every % row.length) 0 = endV w h' (bn : Nat) := by
      unfold endV
      rw [if_neg h0, ew, ← Int.natCast_ediv, Int.toNat_natCast]
    rw [hv]
    exact ⟨rfl, H2, f2⟩
theorem led_run (hc : ChgW (Φ "Ways._changed")) : LedW (runF Φ fu 5 b_Ways_led_on) := by
  intro S k r w ps e0 H1 hps hvl
  simp only [b_Ways_led_on, dParts, runF, exs, ex, ev, evs, evt, evo, evi, evc, ok_bnd, ok_ret', ok_getV, ok_getC, ok_setC, ok_opt, ok_need, ok_ite, ok_mkLf, ok_mkLt, ok_notB, List.map_cons, List.map_nil, List.replicate_zero, List.replicate_succ, List.length_cons, List.length_nil, List.cons_append, List.nil_append, Nat.reduceSub, Nat.reduceAdd, List.getElem?_cons_zero, List.getElem?_cons_succ, Option.some.injEq, exists_eq_left', ixD_i, setIx_ri, appD_r, isC_r, items_tup, items_lst, items_fro, items_ref, tru_b, tru_i, b_add, b_sub, b_mul, b_div, b_mod, b_pow, b_band, addD_ii, subD_ii, mulD_ii, modD_ii, divD_ii, powD_ii, bandD_ii, addD_tt, addD_ll, c_eq, c_ne, c_lt, c_le, c_gt, c_ge, c_is, c_isn, isD_bb, eqD_ii, eqD_ss, eqD_bb, ltD_ii, leD_ii, bi_len, bi_max, bi_min, bi_tup, bi_lst, bi_repr, bi_all, maxB_ii, minB_ii, lenB_1, tupB_1, lstB_1, reprB_1, allB_1, slD_t, slD_l, slD_f, slD_r, ints2_ii, popD_ri, AG.wipeD, asg_n, asg_t, asg_p, AG.setAll, atI_0, atI_1, atI_2, atI_3, ixN_30, ixN_31, ixN_32, List.set_cons_zero, List.set_cons_succ, List.getElem?_set_self, List.length_set, Bool.and_eq_true, decide_eq_true_eq, decide_eq_false_iff_not, bne_iff_ne, bne_eq_false_iff_eq, Int.toNat_natCast]
  refine ok_for (fun j ρ S' => WA S' k r w ∧ Fr r S S' ∧ ∃ v x1 x3 x4, ρ = [some (.obj "Ways" k), x1, some (.int (v : Nat)), x3, x4] ∧ v = (turnOf w (flat (ps.drop (ps.length - j)))).getD e0 0) ⟨H1, Fr.refl _ _, e0, _, _, _, rfl, ?_⟩ ?_ ?_
  · rw [Nat.sub_zero, List.drop_of_length_le (Nat.le_refl _)]
    show _ = (List.range w.many).getD e0 0
    rw [List.getD_eq_getElem?_getD, List.getElem?_range hvl]
    rfl
  · rintro j x ρ S4 hx ⟨H4, F4, v, x1, x3, x4, rfl, hv⟩
    have hj : j < ps.length := by
      have := (List.getElem?_eq_some_iff.mp hx).1
      rw [List.length_reverse, List.length_map] at this
      exact this
    rw [List.getElem?_reverse (by rw [List.length_map]; exact hj), List.length_map, List.getElem?_map] at hx
    obtain ⟨p, hp, rfl⟩ := Option.map_eq_some_iff.mp hx
    have hpm := List.mem_of_getElem? hp
    have hro : ∀ q ∈ flat (ps.drop (ps.length - j)), RowOk w q := flat_ok fun p hp => hps.rows p (List.mem_of_mem_drop hp)
    have hvm : v < w.many := by rw [hv]; exact getD_lt (turnOf_ok hro) hvl
    refine ⟨_, rfl, ?_⟩
    try simp only [runF, exs, ex, ev, evs, evt, evo, evi, evc, ok_bnd, ok_ret', ok_getV, ok_getC, ok_setC, ok_opt, ok_need, ok_ite, ok_mkLf, ok_mkLt, ok_notB, List.map_cons, List.map_nil, List.replicate_zero, List.replicate_succ, List.length_cons, List.length_nil, List.cons_append, List.nil_append, Nat.reduceSub, Nat.reduceAdd, List.getElem?_cons_zero, List.getElem?_cons_succ, Option.some.injEq, exists_eq_left', ixD_i, setIx_ri, appD_r, isC_r, items_tup, items_lst, items_fro, items_ref, tru_b, tru_i, b_add, b_sub, b_mul, b_div, b_mod, b_pow, b_band, addD_ii, subD_ii, mulD_ii, modD_ii, divD_ii, powD_ii, bandD_ii, addD_tt, addD_ll, c_eq, c_ne, c_lt, c_le, c_gt, c_ge, c_is, c_isn, isD_bb, eqD_ii, eqD_ss, eqD_bb, ltD_ii, leD_ii, bi_len, bi_max, bi_min, bi_tup, bi_lst, bi_repr, bi_all, maxB_ii, minB_ii, lenB_1, tupB_1, lstB_1, reprB_1, allB_1, slD_t, slD_l, slD_f, slD_r, ints2_ii, popD_ri, AG.wipeD, asg_n, asg_t, asg_p, AG.setAll, atI_0, atI_1, atI_2, atI_3, ixN_30, ixN_31, ixN_32, List.set_cons_zero, List.set_cons_succ, List.getElem?_set_self, List.length_set, Bool.and_eq_true, decide_eq_true_eq, decide_eq_false_iff_not, bne_iff_ne, bne_eq_false_iff_eq, Int.toNat_natCast]
    rw [i_changed H4]
    try simp only [runF, exs, ex, ev, evs, evt, evo, evi, evc, ok_bnd, ok_ret', ok_getV, ok_getC, ok_setC, ok_opt, ok_need, ok_ite, ok_mkLf, ok_mkLt, ok_notB, List.map_cons, List.map_nil, List.replicate_zero, List.replicate_succ, List.length_cons, List.length_nil, List.cons_append, List.nil_append, Nat.reduceSub, Nat.reduceAdd, List.getElem?_cons_zero, List.getElem?_cons_succ, Option.some.injEq, exists_eq_left', ixD_i, setIx_ri, appD_r, isC_r, items_tup, items_lst, items_fro, items_ref, tru_b, tru_i, b_add, b_sub, b_mul, b_div, b_mod, b_pow, b_band, addD_ii, subD_ii, mulD_ii, modD_ii, divD_ii, powD_ii, bandD_ii, addD_tt, addD_ll, c_eq, c_ne, c_lt, c_le, c_gt, c_ge, c_is, c_isn, isD_bb, eqD_ii, eqD_ss, eqD_bb, ltD_ii, leD_ii, bi_len, bi_max, bi_min, bi_tup, bi_lst, bi_repr, bi_all, maxB_ii, minB_ii, lenB_1, tupB_1, lstB_1, reprB_1, allB_1, slD_t, slD_l, slD_f, slD_r, ints2_ii, popD_ri, AG.wipeD, asg_n, asg_t, asg_p, AG.setAll, atI_0, atI_1, atI_2, atI_3, ixN_30, ixN_31, ixN_32, List.set_cons_zero, List.set_cons_succ, List.getElem?_set_self, List.length_set, Bool.and_eq_true, decide_eq_true_eq, decide_eq_false_iff_not, bne_iff_ne, bne_eq_false_iff_eq, Int.toNat_natCast]
    refine (hc S4 k r w p.1 p.2 v H4 (hps.len p hpm) (hps.rows p hpm) (hps.one p hpm) (hps.big p hpm) hvm).mono fun d S5 ⟨q1, q2⟩ => ?_
    subst q1
    have kl4 := H4.lk
    have rl4 := H4.lr
    refine ⟨H4.fr q2 (by omega) (by omega), F4.trans (q2.weak r), _, x1, some (dRows p.1), some (.int (p.2 : Nat)), rfl, ?_⟩
    have hl1 : ps.length - 1 - j < ps.length := by omega
    have ed : ps.drop (ps.length - (j + 1)) = p :: ps.drop (ps.length - j) := by
      rw [show ps.length - (j + 1) = ps.length - 1 - j by omega, List.drop_eq_getElem_cons hl1, show ps.length - 1 - j + 1 = ps.length - j by omega]
      congr 1
      rw [List.getElem?_eq_getElem hl1] at hp
      exact Option.some.inj hp
    rw [ed, flat_cons, turnOf_app (rep_ok (hps.rows p hpm) _) hro, comp_getD (turnOf_ok hro) hvl, ← hv]
  · rintro ρ S4 ⟨H4, F4, v, x1, x3, x4, rfl, hv⟩
    rw [List.length_reverse, List.length_map, Nat.sub_self, List.drop_zero] at hv
    try simp only [runF, exs, ex, ev, evs, evt, evo, evi, evc, ok_bnd, ok_ret', ok_getV, ok_getC, ok_setC, ok_opt, ok_need, ok_ite, ok_mkLf, ok_mkLt, ok_notB, List.map_cons, List.map_nil, List.replicate_zero, List.replicate_succ, List.length_cons, List.length_nil, List.cons_append, List.nil_append, Nat.reduceSub, Nat.reduceAdd, List.getElem?_cons_zero, List.getElem?_cons_succ, Option.some.injEq, exists_eq_left', ixD_i, setIx_ri, appD_r, isC_r, items_tup, items_lst, items_fro, items_ref, tru_b, tru_i, b_add, b_sub, b_mul, b_div, b_mod, b_pow, b_band, addD_ii, subD_ii, mulD_ii, modD_ii, divD_ii, powD_ii, bandD_ii, addD_tt, addD_ll, c_eq, c_ne, c_lt, c_le, c_gt, c_ge, c_is, c_isn, isD_bb, eqD_ii, eqD_ss, eqD_bb, ltD_ii, leD_ii, bi_len, bi_max, bi_min, bi_tup, bi_lst, bi_repr, bi_all, maxB_ii, minB_ii, lenB_1, tupB_1, lstB_1, reprB_1, allB_1, slD_t, slD_l, slD_f, slD_r, ints2_ii, popD_ri, AG.wipeD, asg_n, asg_t, asg_p, AG.setAll, atI_0, atI_1, atI_2, atI_3, ixN_30, ixN_31, ixN_32, List.set_cons_zero, List.set_cons_succ, List.getElem?_set_self, List.length_set, Bool.and_eq_true, decide_eq_true_eq, decide_eq_false_iff_not, bne_iff_ne, bne_eq_false_iff_eq, Int.toNat_natCast]
    exact ⟨by rw [hv], H4, F4⟩
theorem doing_run (hb : BackW (Φ "Ways.back/3")) (hg : BegW (Φ "Ways.begun")) (hl : LedW (Φ "Ways.led_on")) : DoW (runF Φ fu 6 b_Ways_doing) := by
  intro S k r w h b H hh hb20
  simp only [b_Ways_doing, runF, exs, ex, ev, evs, evt, evo, evi, evc, ok_bnd, ok_ret', ok_getV, ok_getC, ok_setC, ok_opt, ok_need, ok_ite, ok_mkLf, ok_mkLt, ok_notB, List.map_cons, List.map_nil, List.replicate_zero, List.replicate_succ, List.length_cons, List.length_nil, List.cons_append, List.nil_append, Nat.reduceSub, Nat.reduceAdd, List.getElem?_cons_zero, List.getElem?_cons_succ, Option.some.injEq, exists_eq_left', ixD_i, setIx_ri, appD_r, isC_r, items_tup, items_lst, items_fro, items_ref, tru_b, tru_i, b_add, b_sub, b_mul, b_div, b_mod, b_pow, b_band, addD_ii, subD_ii, mulD_ii, modD_ii, divD_ii, powD_ii, bandD_ii, addD_tt, addD_ll, c_eq, c_ne, c_lt, c_le, c_gt, c_ge, c_is, c_isn, isD_bb, eqD_ii, eqD_ss, eqD_bb, ltD_ii, leD_ii, bi_len, bi_max, bi_min, bi_tup, bi_lst, bi_repr, bi_all, maxB_ii, minB_ii, lenB_1, tupB_1, lstB_1, reprB_1, allB_1, slD_t, slD_l, slD_f, slD_r, ints2_ii, popD_ri, AG.wipeD, asg_n, asg_t, asg_p, AG.setAll, atI_0, atI_1, atI_2, atI_3, ixN_30, ixN_31, ixN_32, List.set_cons_zero, List.set_cons_succ, List.getElem?_set_self, List.length_set, Bool.and_eq_true, decide_eq_true_eq, decide_eq_false_iff_not, bne_iff_ne, bne_eq_false_iff_eq, Int.toNat_natCast]
  rw [i_back H]
  try simp only [runF, exs, ex, ev, evs, evt, evo, evi, evc, ok_bnd, ok_ret', ok_getV, ok_getC, ok_setC, ok_opt, ok_need, ok_ite, ok_mkLf, ok_mkLt, ok_notB, List.map_cons, List.map_nil, List.replicate_zero, List.replicate_succ, List.length_cons, List.length_nil, List.cons_append, List.nil_append, Nat.reduceSub, Nat.reduceAdd, List.getElem?_cons_zero, List.getElem?_cons_succ, Option.some.injEq, exists_eq_left', ixD_i, setIx_ri, appD_r, isC_r, items_tup, items_lst, items_fro, items_ref, tru_b, tru_i, b_add, b_sub, b_mul, b_div, b_mod, b_pow, b_band, addD_ii, subD_ii, mulD_ii, modD_ii, divD_ii, powD_ii, bandD_ii, addD_tt, addD_ll, c_eq, c_ne, c_lt, c_le, c_gt, c_ge, c_is, c_isn, isD_bb, eqD_ii, eqD_ss, eqD_bb, ltD_ii, leD_ii, bi_len, bi_max, bi_min, bi_tup, bi_lst, bi_repr, bi_all, maxB_ii, minB_ii, lenB_1, tupB_1, lstB_1, reprB_1, allB_1, slD_t, slD_l, slD_f, slD_r, ints2_ii, popD_ri, AG.wipeD, asg_n, asg_t, asg_p, AG.setAll, atI_0, atI_1, atI_2, atI_3, ixN_30, ixN_31, ixN_32, List.set_cons_zero, List.set_cons_succ, List.getElem?_set_self, List.length_set, Bool.and_eq_true, decide_eq_true_eq, decide_eq_false_iff_not, bne_iff_ne, bne_eq_false_iff_eq, Int.toNat_natCast]
  refine (hb S k r w h b H hh hb20).mono fun d S1 ⟨ps, h', b', e1, ok, H1, F1⟩ => ?_
  subst e1
  have hps := ok.ps
  have hh' := (ok.go.ok H.wok hh).1
  have hle := ok.go.le
  try simp only [runF, exs, ex, ev, evs, evt, evo, evi, evc, ok_bnd, ok_ret', ok_getV, ok_getC, ok_setC, ok_opt, ok_need, ok_ite, ok_mkLf, ok_mkLt, ok_notB, List.map_cons, List.map_nil, List.replicate_zero, List.replicate_succ, List.length_cons, List.length_nil, List.cons_append, List.nil_append, Nat.reduceSub, Nat.reduceAdd, List.getElem?_cons_zero, List.getElem?_cons_succ, Option.some.injEq, exists_eq_left', ixD_i, setIx_ri, appD_r, isC_r, items_tup, items_lst, items_fro, items_ref, tru_b, tru_i, b_add, b_sub, b_mul, b_div, b_mod, b_pow, b_band, addD_ii, subD_ii, mulD_ii, modD_ii, divD_ii, powD_ii, bandD_ii, addD_tt, addD_ll, c_eq, c_ne, c_lt, c_le, c_gt, c_ge, c_is, c_isn, isD_bb, eqD_ii, eqD_ss, eqD_bb, ltD_ii, leD_ii, bi_len, bi_max, bi_min, bi_tup, bi_lst, bi_repr, bi_all, maxB_ii, minB_ii, lenB_1, tupB_1, lstB_1, reprB_1, allB_1, slD_t, slD_l, slD_f, slD_r, ints2_ii, popD_ri, AG.wipeD, asg_n, asg_t, asg_p, AG.setAll, atI_0, atI_1, atI_2, atI_3, ixN_30, ixN_31, ixN_32, List.set_cons_zero, List.set_cons_succ, List.getElem?_set_self, List.length_set, Bool.and_eq_true, decide_eq_true_eq, decide_eq_false_iff_not, bne_iff_ne, bne_eq_false_iff_eq, Int.toNat_natCast]
  rw [i_led H1]
  try simp only [runF, exs, ex, ev, evs, evt, evo, evi, evc, ok_bnd, ok_ret', ok_getV, ok_getC, ok_setC, ok_opt, ok_need, ok_ite, ok_mkLf, ok_mkLt, ok_notB, List.map_cons, List.map_nil, List.replicate_zero, List.replicate_succ, List.length_cons, List.length_nil, List.cons_append, List.nil_append, Nat.reduceSub, Nat.reduceAdd, List.getElem?_cons_zero, List.getElem?_cons_succ, Option.some.injEq, exists_eq_left', ixD_i, setIx_ri, appD_r, isC_r, items_tup, items_lst, items_fro, items_ref, tru_b, tru_i, b_add, b_sub, b_mul, b_div, b_mod, b_pow, b_band, addD_ii, subD_ii, mulD_ii, modD_ii, divD_ii, powD_ii, bandD_ii, addD_tt, addD_ll, c_eq, c_ne, c_lt, c_le, c_gt, c_ge, c_is, c_isn, isD_bb, eqD_ii, eqD_ss, eqD_bb, ltD_ii, leD_ii, bi_len, bi_max, bi_min, bi_tup, bi_lst, bi_repr, bi_all, maxB_ii, minB_ii, lenB_1, tupB_1, lstB_1, reprB_1, allB_1, slD_t, slD_l, slD_f, slD_r, ints2_ii, popD_ri, AG.wipeD, asg_n, asg_t, asg_p, AG.setAll, atI_0, atI_1, atI_2, atI_3, ixN_30, ixN_31, ixN_32, List.set_cons_zero, List.set_cons_succ, List.getElem?_set_self, List.length_set, Bool.and_eq_true, decide_eq_true_eq, decide_eq_false_iff_not, bne_iff_ne, bne_eq_false_iff_eq, Int.toNat_natCast]
  rw [i_begun H1]
  try simp only [runF, exs, ex, ev, evs, evt, evo, evi, evc, ok_bnd, ok_ret', ok_getV, ok_getC, ok_setC, ok_opt, ok_need, ok_ite, ok_mkLf, ok_mkLt, ok_notB, List.map_cons, List.map_nil, List.replicate_zero, List.replicate_succ, List.length_cons, List.length_nil, List.cons_append, List.nil_append, Nat.reduceSub, Nat.reduceAdd, List.getElem?_cons_zero, List.getElem?_cons_succ, Option.some.injEq, exists_eq_left', ixD_i, setIx_ri, appD_r, isC_r, items_tup, items_lst, items_fro, items_ref, tru_b, tru_i, b_add, b_sub, b_mul, b_div, b_mod, b_pow, b_band, addD_ii, subD_ii, mulD_ii, modD_ii, divD_ii, powD_ii, bandD_ii, addD_tt, addD_ll, c_eq, c_ne, c_lt, c_le, c_gt, c_ge, c_is, c_isn, isD_bb, eqD_ii, eqD_ss, eqD_bb, ltD_ii, leD_ii, bi_len, bi_max, bi_min, bi_tup, bi_lst, bi_repr, bi_all, maxB_ii, minB_ii, lenB_1, tupB_1, lstB_1, reprB_1, allB_1, slD_t, slD_l, slD_f, slD_r, ints2_ii, popD_ri, AG.wipeD, asg_n, asg_t, asg_p, AG.setAll, atI_0, atI_1, atI_2, atI_3, ixN_30, ixN_31, ixN_32, List.set_cons_zero, List.set_cons_succ, List.getElem?_set_self, List.length_set, Bool.and_eq_true, decide_eq_true_eq, decide_eq_false_iff_not, bne_iff_ne, bne_eq_false_iff_eq, Int.toNat_natCast]
  refine (hg S1 k r w h' b' H1 hh' (by omega) ok.stop).mono fun d S2 ⟨e1, H2, F2⟩ => ?_
  subst e1
  try simp only [runF, exs, ex, ev, evs, evt, evo, evi, evc, ok_bnd, ok_ret', ok_getV, ok_getC, ok_setC, ok_opt, ok_need, ok_ite, ok_mkLf, ok_mkLt, ok_notB, List.map_cons, List.map_nil, List.replicate_zero, List.replicate_succ, List.length_cons, List.length_nil, List.cons_append, List.nil_append, Nat.reduceSub, Nat.reduceAdd, List.getElem?_cons_zero, List.getElem?_cons_succ, Option.some.injEq, exists_eq_left', ixD_i, setIx_ri, appD_r, isC_r, items_tup, items_lst, items_fro, items_ref, tru_b, tru_i, b_add, b_sub, b_mul, b_div, b_mod, b_pow, b_band, addD_ii, subD_ii, mulD_ii, modD_ii, divD_ii, powD_ii, bandD_ii, addD_tt, addD_ll, c_eq, c_ne, c_lt, c_le, c_gt, c_ge, c_is, c_isn, isD_bb, eqD_ii, eqD_ss, eqD_bb, ltD_ii, leD_ii, bi_len, bi_max, bi_min, bi_tup, bi_lst, bi_repr, bi_all, maxB_ii, minB_ii, lenB_1, tupB_1, lstB_1, reprB_1, allB_1, slD_t, slD_l, slD_f, slD_r, ints2_ii, popD_ri, AG.wipeD, asg_n, asg_t, asg_p, AG.setAll, atI_0, atI_1, atI_2, atI_3, ixN_30, ixN_31, ixN_32, List.set_cons_zero, List.set_cons_succ, List.getElem?_set_self, List.length_set, Bool.and_eq_true, decide_eq_true_eq, decide_eq_false_iff_not, bne_iff_ne, bne_eq_false_iff_eq, Int.toNat_natCast]
  refine (hl S2 k r w ps _ H2 hps (endV_lt H.wok hh')).mono fun d S3 ⟨e1, H3, F3⟩ => ?_
  exact ⟨flat ps, h', b', ok.go, ok.stop, e1, H3, (F1.trans F2).trans F3⟩
theorem copies_run : CopW (runF Φ fu 3 b_copies_in) := by
  intro S ps hps
  simp only [b_copies_in, dParts, runF, exs, ex, ev, evs, evt, evo, evi, evc, ok_bnd, ok_ret', ok_getV, ok_getC, ok_setC, ok_opt, ok_need, ok_ite, ok_mkLf, ok_mkLt, ok_notB, List.map_cons, List.map_nil, List.replicate_zero, List.replicate_succ, List.length_cons, List.length_nil, List.cons_append, List.nil_append, Nat.reduceSub, Nat.reduceAdd, List.getElem?_cons_zero, List.getElem?_cons_succ, Option.some.injEq, exists_eq_left', ixD_i, setIx_ri, appD_r, isC_r, items_tup, items_lst, items_fro, items_ref, tru_b, tru_i, b_add, b_sub, b_mul, b_div, b_mod, b_pow, b_band, addD_ii, subD_ii, mulD_ii, modD_ii, divD_ii, powD_ii, bandD_ii, addD_tt, addD_ll, c_eq, c_ne, c_lt, c_le, c_gt, c_ge, c_is, c_isn, isD_bb, eqD_ii, eqD_ss, eqD_bb, ltD_ii, leD_ii, bi_len, bi_max, bi_min, bi_tup, bi_lst, bi_repr, bi_all, maxB_ii, minB_ii, lenB_1, tupB_1, lstB_1, reprB_1, allB_1, slD_t, slD_l, slD_f, slD_r, ints2_ii, popD_ri, AG.wipeD, asg_n, asg_t, asg_p, AG.setAll, atI_0, atI_1, atI_2, atI_3, ixN_30, ixN_31, ixN_32, List.set_cons_zero, List.set_cons_succ, List.getElem?_set_self, List.length_set, Bool.and_eq_true, decide_eq_true_eq, decide_eq_false_iff_not, bne_iff_ne, bne_eq_false_iff_eq, Int.toNat_natCast]
  refine ok_lcmap (fun d => match d with
    | .tup [.lst xs, .int n] => .int ((xs.length : Nat) * n)
    | d => d) (by rw [List.length_map]; have := hps.1; omega) (fun x hx => ?_) ?_
  · obtain ⟨p, hp, rfl⟩ := List.mem_map.mp hx
    refine ⟨_, rfl, ?_⟩
    have := hps.2 p hp
    try simp only [dRows, runF, exs, ex, ev, evs, evt, evo, evi, evc, ok_bnd, ok_ret', ok_getV, ok_getC, ok_setC, ok_opt, ok_need, ok_ite, ok_mkLf, ok_mkLt, ok_notB, List.map_cons, List.map_nil, List.replicate_zero, List.replicate_succ, List.length_cons, List.length_nil, List.cons_append, List.nil_append, Nat.reduceSub, Nat.reduceAdd, List.getElem?_cons_zero, List.getElem?_cons_succ, Option.some.injEq, exists_eq_left', ixD_i, setIx_ri, appD_r, isC_r, items_tup, items_lst, items_fro, items_ref, tru_b, tru_i, b_add, b_sub, b_mul, b_div, b_mod, b_pow, b_band, addD_ii, subD_ii, mulD_ii, modD_ii, divD_ii, powD_ii, bandD_ii, addD_tt, addD_ll, c_eq, c_ne, c_lt, c_le, c_gt, c_ge, c_is, c_isn, isD_bb, eqD_ii, eqD_ss, eqD_bb, ltD_ii, leD_ii, bi_len, bi_max, bi_min, bi_tup, bi_lst, bi_repr, bi_all, maxB_ii, minB_ii, lenB_1, tupB_1, lstB_1, reprB_1, allB_1, slD_t, slD_l, slD_f, slD_r, ints2_ii, popD_ri, AG.wipeD, asg_n, asg_t, asg_p, AG.setAll, atI_0, atI_1, atI_2, atI_3, ixN_30, ixN_31, ixN_32, List.set_cons_zero, List.set_cons_succ, List.getElem?_set_self, List.length_set, Bool.and_eq_true, decide_eq_true_eq, decide_eq_false_iff_not, bne_iff_ne, bne_eq_false_iff_eq, Int.toNat_natCast]
    exact ⟨⟨big_nat (by rw [List.length_map]; omega), big_of (by omega) (by omega)⟩, rfl, by trivial⟩
  · rw [List.map_map, show (ps.map ((fun d : D => match d with
      | .tup [.lst xs, .int n] => .int ((xs.length : Nat) * n)
      | d => d) ∘ dPart)) = (ps.map fun p => ((p.1.length : Nat) : Int) * (p.2 : Nat)).map D.int from by
        rw [List.map_map]
        apply List.map_congr_left
        intro p _
        show D.int (((p.1.map dRow).length : Nat) * (p.2 : Nat)) = D.int (((p.1.length : Nat) : Int) * (p.2 : Nat))
        rw [List.length_map]]
    try simp only [runF, exs, ex, ev, evs, evt, evo, evi, evc, ok_bnd, ok_ret', ok_getV, ok_getC, ok_setC, ok_opt, ok_need, ok_ite, ok_mkLf, ok_mkLt, ok_notB, List.map_cons, List.map_nil, List.replicate_zero, List.replicate_succ, List.length_cons, List.length_nil, List.cons_append, List.nil_append, Nat.reduceSub, Nat.reduceAdd, List.getElem?_cons_zero, List.getElem?_cons_succ, Option.some.injEq, exists_eq_left', ixD_i, setIx_ri, appD_r, isC_r, items_tup, items_lst, items_fro, items_ref, tru_b, tru_i, b_add, b_sub, b_mul, b_div, b_mod, b_pow, b_band, addD_ii, subD_ii, mulD_ii, modD_ii, divD_ii, powD_ii, bandD_ii, addD_tt, addD_ll, c_eq, c_ne, c_lt, c_le, c_gt, c_ge, c_is, c_isn, isD_bb, eqD_ii, eqD_ss, eqD_bb, ltD_ii, leD_ii, bi_len, bi_max, bi_min, bi_tup, bi_lst, bi_repr, bi_all, maxB_ii, minB_ii, lenB_1, tupB_1, lstB_1, reprB_1, allB_1, slD_t, slD_l, slD_f, slD_r, ints2_ii, popD_ri, AG.wipeD, asg_n, asg_t, asg_p, AG.setAll, atI_0, atI_1, atI_2, atI_3, ixN_30, ixN_31, ixN_32, List.set_cons_zero, List.set_cons_succ, List.getElem?_set_self, List.length_set, Bool.and_eq_true, decide_eq_true_eq, decide_eq_false_iff_not, bne_iff_ne, bne_eq_false_iff_eq, Int.toNat_natCast]
    rw [ok_sum (by rw [List.length_map]; have := hps.1; omega) (by
      intro n hn
      obtain ⟨p, hp, rfl⟩ := List.mem_map.mp hn
      have ⟨h1, h2⟩ := hps.2 p hp
      rw [← Int.natCast_mul, Int.natAbs_natCast]
      calc p.1.length * p.2 ≤ 1440 * 2 ^ 81 := Nat.mul_le_mul h1 (by omega)
        _ < 2 ^ 100 := by decide), flat_len]
    exact ⟨rfl, rfl⟩
theorem Fr.up {S S1 S2 : Sto} {j : Nat} (f : Fr S.length S S1) (g : Fr j S1 S2) (h : S.length ≤ j) : Fr S.length S S2 := ⟨Nat.le_trans f.len g.len, fun i hi hn => (g.at_ i (Nat.lt_of_lt_of_le hi f.len) (by omega)).trans (f.at_ i hi hn)⟩
theorem doat_run (hi : InitW (Φ "Ways.__init__")) (hd : DoW (Φ "Ways.doing")) : DatW (runF Φ fu 3 b_doing_at) := by
  intro S w h b hw hh hb
  simp only [b_doing_at, ok_newO, runF, exs, ex, ev, evs, evt, evo, evi, evc, ok_bnd, ok_ret', ok_getV, ok_getC, ok_setC, ok_opt, ok_need, ok_ite, ok_mkLf, ok_mkLt, ok_notB, List.map_cons, List.map_nil, List.replicate_zero, List.replicate_succ, List.length_cons, List.length_nil, List.cons_append, List.nil_append, Nat.reduceSub, Nat.reduceAdd, List.getElem?_cons_zero, List.getElem?_cons_succ, Option.some.injEq, exists_eq_left', ixD_i, setIx_ri, appD_r, isC_r, items_tup, items_lst, items_fro, items_ref, tru_b, tru_i, b_add, b_sub, b_mul, b_div, b_mod, b_pow, b_band, addD_ii, subD_ii, mulD_ii, modD_ii, divD_ii, powD_ii, bandD_ii, addD_tt, addD_ll, c_eq, c_ne, c_lt, c_le, c_gt, c_ge, c_is, c_isn, isD_bb, eqD_ii, eqD_ss, eqD_bb, ltD_ii, leD_ii, bi_len, bi_max, bi_min, bi_tup, bi_lst, bi_repr, bi_all, maxB_ii, minB_ii, lenB_1, tupB_1, lstB_1, reprB_1, allB_1, slD_t, slD_l, slD_f, slD_r, ints2_ii, popD_ri, AG.wipeD, asg_n, asg_t, asg_p, AG.setAll, atI_0, atI_1, atI_2, atI_3, ixN_30, ixN_31, ixN_32, List.set_cons_zero, List.set_cons_succ, List.getElem?_set_self, List.length_set, Bool.and_eq_true, decide_eq_true_eq, decide_eq_false_iff_not, bne_iff_ne, bne_eq_false_iff_eq, Int.toNat_natCast]
  have e0 : (S ++ [some [D.dic false [] []]])[S.length]? = some (some [D.dic false [] []]) := by rw [List.getElem?_append_right (Nat.le_refl _), Nat.sub_self]; rfl
  refine (hi _ S.length w hw e0).mono fun d S1 ⟨e1, H1, l1, F1⟩ => ?_
  subst e1
  try simp only [ok_isNon, runF, exs, ex, ev, evs, evt, evo, evi, evc, ok_bnd, ok_ret', ok_getV, ok_getC, ok_setC, ok_opt, ok_need, ok_ite, ok_mkLf, ok_mkLt, ok_notB, List.map_cons, List.map_nil, List.replicate_zero, List.replicate_succ, List.length_cons, List.length_nil, List.cons_append, List.nil_append, Nat.reduceSub, Nat.reduceAdd, List.getElem?_cons_zero, List.getElem?_cons_succ, Option.some.injEq, exists_eq_left', ixD_i, setIx_ri, appD_r, isC_r, items_tup, items_lst, items_fro, items_ref, tru_b, tru_i, b_add, b_sub, b_mul, b_div, b_mod, b_pow, b_band, addD_ii, subD_ii, mulD_ii, modD_ii, divD_ii, powD_ii, bandD_ii, addD_tt, addD_ll, c_eq, c_ne, c_lt, c_le, c_gt, c_ge, c_is, c_isn, isD_bb, eqD_ii, eqD_ss, eqD_bb, ltD_ii, leD_ii, bi_len, bi_max, bi_min, bi_tup, bi_lst, bi_repr, bi_all, maxB_ii, minB_ii, lenB_1, tupB_1, lstB_1, reprB_1, allB_1, slD_t, slD_l, slD_f, slD_r, ints2_ii, popD_ri, AG.wipeD, asg_n, asg_t, asg_p, AG.setAll, atI_0, atI_1, atI_2, atI_3, ixN_30, ixN_31, ixN_32, List.set_cons_zero, List.set_cons_succ, List.getElem?_set_self, List.length_set, Bool.and_eq_true, decide_eq_true_eq, decide_eq_false_iff_not, bne_iff_ne, bne_eq_false_iff_eq, Int.toNat_natCast]
  rw [i_doing H1]
  try simp only [runF, exs, ex, ev, evs, evt, evo, evi, evc, ok_bnd, ok_ret', ok_getV, ok_getC, ok_setC, ok_opt, ok_need, ok_ite, ok_mkLf, ok_mkLt, ok_notB, List.map_cons, List.map_nil, List.replicate_zero, List.replicate_succ, List.length_cons, List.length_nil, List.cons_append, List.nil_append, Nat.reduceSub, Nat.reduceAdd, List.getElem?_cons_zero, List.getElem?_cons_succ, Option.some.injEq, exists_eq_left', ixD_i, setIx_ri, appD_r, isC_r, items_tup, items_lst, items_fro, items_ref, tru_b, tru_i, b_add, b_sub, b_mul, b_div, b_mod, b_pow, b_band, addD_ii, subD_ii, mulD_ii, modD_ii, divD_ii, powD_ii, bandD_ii, addD_tt, addD_ll, c_eq, c_ne, c_lt, c_le, c_gt, c_ge, c_is, c_isn, isD_bb, eqD_ii, eqD_ss, eqD_bb, ltD_ii, leD_ii, bi_len, bi_max, bi_min, bi_tup, bi_lst, bi_repr, bi_all, maxB_ii, minB_ii, lenB_1, tupB_1, lstB_1, reprB_1, allB_1, slD_t, slD_l, slD_f, slD_r, ints2_ii, popD_ri, AG.wipeD, asg_n, asg_t, asg_p, AG.setAll, atI_0, atI_1, atI_2, atI_3, ixN_30, ixN_31, ixN_32, List.set_cons_zero, List.set_cons_succ, List.getElem?_set_self, List.length_set, Bool.and_eq_true, decide_eq_true_eq, decide_eq_false_iff_not, bne_iff_ne, bne_eq_false_iff_eq, Int.toNat_natCast]
  refine (hd S1 _ _ w h b H1 hh hb).mono fun d S2 ⟨rows, h', b', g, st, e, H2, F2⟩ => ?_
  exact ⟨rows, h', b', g, st, e, ((Fr.app S.length S _).up F1 (Nat.le_refl _)).up F2 (by simp)⟩
theorem src_run (hi : InitW (Φ "Ways.__init__")) (hb : BackW (Φ "Ways.back/3")) (ha : AllW (Φ "Ways.turn_of_all")) (hc : CopW (Φ "copies_in")) : SrcW (runF Φ fu 7 b_source) := by
  intro S w h b hw hh hb20
  simp only [b_source, ok_newO, runF, exs, ex, ev, evs, evt, evo, evi, evc, ok_bnd, ok_ret', ok_getV, ok_getC, ok_setC, ok_opt, ok_need, ok_ite, ok_mkLf, ok_mkLt, ok_notB, List.map_cons, List.map_nil, List.replicate_zero, List.replicate_succ, List.length_cons, List.length_nil, List.cons_append, List.nil_append, Nat.reduceSub, Nat.reduceAdd, List.getElem?_cons_zero, List.getElem?_cons_succ, Option.some.injEq, exists_eq_left', ixD_i, setIx_ri, appD_r, isC_r, items_tup, items_lst, items_fro, items_ref, tru_b, tru_i, b_add, b_sub, b_mul, b_div, b_mod, b_pow, b_band, addD_ii, subD_ii, mulD_ii, modD_ii, divD_ii, powD_ii, bandD_ii, addD_tt, addD_ll, c_eq, c_ne, c_lt, c_le, c_gt, c_ge, c_is, c_isn, isD_bb, eqD_ii, eqD_ss, eqD_bb, ltD_ii, leD_ii, bi_len, bi_max, bi_min, bi_tup, bi_lst, bi_repr, bi_all, maxB_ii, minB_ii, lenB_1, tupB_1, lstB_1, reprB_1, allB_1, slD_t, slD_l, slD_f, slD_r, ints2_ii, popD_ri, AG.wipeD, asg_n, asg_t, asg_p, AG.setAll, atI_0, atI_1, atI_2, atI_3, ixN_30, ixN_31, ixN_32, List.set_cons_zero, List.set_cons_succ, List.getElem?_set_self, List.length_set, Bool.and_eq_true, decide_eq_true_eq, decide_eq_false_iff_not, bne_iff_ne, bne_eq_false_iff_eq, Int.toNat_natCast]
  have e0 : (S ++ [some [D.dic false [] []]])[S.length]? = some (some [D.dic false [] []]) := by rw [List.getElem?_append_right (Nat.le_refl _), Nat.sub_self]; rfl
  refine (hi _ S.length w hw e0).mono fun d S1 ⟨e1, H1, l1, F1⟩ => ?_
  subst e1
  try simp only [ok_isNon, runF, exs, ex, ev, evs, evt, evo, evi, evc, ok_bnd, ok_ret', ok_getV, ok_getC, ok_setC, ok_opt, ok_need, ok_ite, ok_mkLf, ok_mkLt, ok_notB, List.map_cons, List.map_nil, List.replicate_zero, List.replicate_succ, List.length_cons, List.length_nil, List.cons_append, List.nil_append, Nat.reduceSub, Nat.reduceAdd, List.getElem?_cons_zero, List.getElem?_cons_succ, Option.some.injEq, exists_eq_left', ixD_i, setIx_ri, appD_r, isC_r, items_tup, items_lst, items_fro, items_ref, tru_b, tru_i, b_add, b_sub, b_mul, b_div, b_mod, b_pow, b_band, addD_ii, subD_ii, mulD_ii, modD_ii, divD_ii, powD_ii, bandD_ii, addD_tt, addD_ll, c_eq, c_ne, c_lt, c_le, c_gt, c_ge, c_is, c_isn, isD_bb, eqD_ii, eqD_ss, eqD_bb, ltD_ii, leD_ii, bi_len, bi_max, bi_min, bi_tup, bi_lst, bi_repr, bi_all, maxB_ii, minB_ii, lenB_1, tupB_1, lstB_1, reprB_1, allB_1, slD_t, slD_l, slD_f, slD_r, ints2_ii, popD_ri, AG.wipeD, asg_n, asg_t, asg_p, AG.setAll, atI_0, atI_1, atI_2, atI_3, ixN_30, ixN_31, ixN_32, List.set_cons_zero, List.set_cons_succ, List.getElem?_set_self, List.length_set, Bool.and_eq_true, decide_eq_true_eq, decide_eq_false_iff_not, bne_iff_ne, bne_eq_false_iff_eq, Int.toNat_natCast]
  rw [i_back H1]
  try simp only [runF, exs, ex, ev, evs, evt, evo, evi, evc, ok_bnd, ok_ret', ok_getV, ok_getC, ok_setC, ok_opt, ok_need, ok_ite, ok_mkLf, ok_mkLt, ok_notB, List.map_cons, List.map_nil, List.replicate_zero, List.replicate_succ, List.length_cons, List.length_nil, List.cons_append, List.nil_append, Nat.reduceSub, Nat.reduceAdd, List.getElem?_cons_zero, List.getElem?_cons_succ, Option.some.injEq, exists_eq_left', ixD_i, setIx_ri, appD_r, isC_r, items_tup, items_lst, items_fro, items_ref, tru_b, tru_i, b_add, b_sub, b_mul, b_div, b_mod, b_pow, b_band, addD_ii, subD_ii, mulD_ii, modD_ii, divD_ii, powD_ii, bandD_ii, addD_tt, addD_ll, c_eq, c_ne, c_lt, c_le, c_gt, c_ge, c_is, c_isn, isD_bb, eqD_ii, eqD_ss, eqD_bb, ltD_ii, leD_ii, bi_len, bi_max, bi_min, bi_tup, bi_lst, bi_repr, bi_all, maxB_ii, minB_ii, lenB_1, tupB_1, lstB_1, reprB_1, allB_1, slD_t, slD_l, slD_f, slD_r, ints2_ii, popD_ri, AG.wipeD, asg_n, asg_t, asg_p, AG.setAll, atI_0, atI_1, atI_2, atI_3, ixN_30, ixN_31, ixN_32, List.set_cons_zero, List.set_cons_succ, List.getElem?_set_self, List.length_set, Bool.and_eq_true, decide_eq_true_eq, decide_eq_false_iff_not, bne_iff_ne, bne_eq_false_iff_eq, Int.toNat_natCast]
  refine (hb S1 _ _ w h b H1 hh hb20).mono fun d S2 ⟨ps, h', b', e1, ok, H2, F2⟩ => ?_
  subst e1
  have hps := ok.ps
  try simp only [runF, exs, ex, ev, evs, evt, evo, evi, evc, ok_bnd, ok_ret', ok_getV, ok_getC, ok_setC, ok_opt, ok_need, ok_ite, ok_mkLf, ok_mkLt, ok_notB, List.map_cons, List.map_nil, List.replicate_zero, List.replicate_succ, List.length_cons, List.length_nil, List.cons_append, List.nil_append, Nat.reduceSub, Nat.reduceAdd, List.getElem?_cons_zero, List.getElem?_cons_succ, Option.some.injEq, exists_eq_left', ixD_i, setIx_ri, appD_r, isC_r, items_tup, items_lst, items_fro, items_ref, tru_b, tru_i, b_add, b_sub, b_mul, b_div, b_mod, b_pow, b_band, addD_ii, subD_ii, mulD_ii, modD_ii, divD_ii, powD_ii, bandD_ii, addD_tt, addD_ll, c_eq, c_ne, c_lt, c_le, c_gt, c_ge, c_is, c_isn, isD_bb, eqD_ii, eqD_ss, eqD_bb, ltD_ii, leD_ii, bi_len, bi_max, bi_min, bi_tup, bi_lst, bi_repr, bi_all, maxB_ii, minB_ii, lenB_1, tupB_1, lstB_1, reprB_1, allB_1, slD_t, slD_l, slD_f, slD_r, ints2_ii, popD_ri, AG.wipeD, asg_n, asg_t, asg_p, AG.setAll, atI_0, atI_1, atI_2, atI_3, ixN_30, ixN_31, ixN_32, List.set_cons_zero, List.set_cons_succ, List.getElem?_set_self, List.length_set, Bool.and_eq_true, decide_eq_true_eq, decide_eq_false_iff_not, bne_iff_ne, bne_eq_false_iff_eq, Int.toNat_natCast]
  rw [i_all H2]
  try simp only [runF, exs, ex, ev, evs, evt, evo, evi, evc, ok_bnd, ok_ret', ok_getV, ok_getC, ok_setC, ok_opt, ok_need, ok_ite, ok_mkLf, ok_mkLt, ok_notB, List.map_cons, List.map_nil, List.replicate_zero, List.replicate_succ, List.length_cons, List.length_nil, List.cons_append, List.nil_append, Nat.reduceSub, Nat.reduceAdd, List.getElem?_cons_zero, List.getElem?_cons_succ, Option.some.injEq, exists_eq_left', ixD_i, setIx_ri, appD_r, isC_r, items_tup, items_lst, items_fro, items_ref, tru_b, tru_i, b_add, b_sub, b_mul, b_div, b_mod, b_pow, b_band, addD_ii, subD_ii, mulD_ii, modD_ii, divD_ii, powD_ii, bandD_ii, addD_tt, addD_ll, c_eq, c_ne, c_lt, c_le, c_gt, c_ge, c_is, c_isn, isD_bb, eqD_ii, eqD_ss, eqD_bb, ltD_ii, leD_ii, bi_len, bi_max, bi_min, bi_tup, bi_lst, bi_repr, bi_all, maxB_ii, minB_ii, lenB_1, tupB_1, lstB_1, reprB_1, allB_1, slD_t, slD_l, slD_f, slD_r, ints2_ii, popD_ri, AG.wipeD, asg_n, asg_t, asg_p, AG.setAll, atI_0, atI_1, atI_2, atI_3, ixN_30, ixN_31, ixN_32, List.set_cons_zero, List.set_cons_succ, List.getElem?_set_self, List.length_set, Bool.and_eq_true, decide_eq_true_eq, decide_eq_false_iff_not, bne_iff_ne, bne_eq_false_iff_eq, Int.toNat_natCast]
  refine (ha S2 _ _ w ps H2 hps).mono fun d S3 ⟨e1, e2⟩ => ?_
  subst e1 e2
  try simp only [runF, exs, ex, ev, evs, evt, evo, evi, evc, ok_bnd, ok_ret', ok_getV, ok_getC, ok_setC, ok_opt, ok_need, ok_ite, ok_mkLf, ok_mkLt, ok_notB, List.map_cons, List.map_nil, List.replicate_zero, List.replicate_succ, List.length_cons, List.length_nil, List.cons_append, List.nil_append, Nat.reduceSub, Nat.reduceAdd, List.getElem?_cons_zero, List.getElem?_cons_succ, Option.some.injEq, exists_eq_left', ixD_i, setIx_ri, appD_r, isC_r, items_tup, items_lst, items_fro, items_ref, tru_b, tru_i, b_add, b_sub, b_mul, b_div, b_mod, b_pow, b_band, addD_ii, subD_ii, mulD_ii, modD_ii, divD_ii, powD_ii, bandD_ii, addD_tt, addD_ll, c_eq, c_ne, c_lt, c_le, c_gt, c_ge, c_is, c_isn, isD_bb, eqD_ii, eqD_ss, eqD_bb, ltD_ii, leD_ii, bi_len, bi_max, bi_min, bi_tup, bi_lst, bi_repr, bi_all, maxB_ii, minB_ii, lenB_1, tupB_1, lstB_1, reprB_1, allB_1, slD_t, slD_l, slD_f, slD_r, ints2_ii, popD_ri, AG.wipeD, asg_n, asg_t, asg_p, AG.setAll, atI_0, atI_1, atI_2, atI_3, ixN_30, ixN_31, ixN_32, List.set_cons_zero, List.set_cons_succ, List.getElem?_set_self, List.length_set, Bool.and_eq_true, decide_eq_true_eq, decide_eq_false_iff_not, bne_iff_ne, bne_eq_false_iff_eq, Int.toNat_natCast]
  refine (hc _ ps ⟨by have := hps.le; omega, fun p hp => ⟨hps.len p hp, hps.big p hp⟩⟩).mono fun d S3 ⟨e1, e2⟩ => ?_
  subst e1 e2
  try simp only [runF, exs, ex, ev, evs, evt, evo, evi, evc, ok_bnd, ok_ret', ok_getV, ok_getC, ok_setC, ok_opt, ok_need, ok_ite, ok_mkLf, ok_mkLt, ok_notB, List.map_cons, List.map_nil, List.replicate_zero, List.replicate_succ, List.length_cons, List.length_nil, List.cons_append, List.nil_append, Nat.reduceSub, Nat.reduceAdd, List.getElem?_cons_zero, List.getElem?_cons_succ, Option.some.injEq, exists_eq_left', ixD_i, setIx_ri, appD_r, isC_r, items_tup, items_lst, items_fro, items_ref, tru_b, tru_i, b_add, b_sub, b_mul, b_div, b_mod, b_pow, b_band, addD_ii, subD_ii, mulD_ii, modD_ii, divD_ii, powD_ii, bandD_ii, addD_tt, addD_ll, c_eq, c_ne, c_lt, c_le, c_gt, c_ge, c_is, c_isn, isD_bb, eqD_ii, eqD_ss, eqD_bb, ltD_ii, leD_ii, bi_len, bi_max, bi_min, bi_tup, bi_lst, bi_repr, bi_all, maxB_ii, minB_ii, lenB_1, tupB_1, lstB_1, reprB_1, allB_1, slD_t, slD_l, slD_f, slD_r, ints2_ii, popD_ri, AG.wipeD, asg_n, asg_t, asg_p, AG.setAll, atI_0, atI_1, atI_2, atI_3, ixN_30, ixN_31, ixN_32, List.set_cons_zero, List.set_cons_succ, List.getElem?_set_self, List.length_set, Bool.and_eq_true, decide_eq_true_eq, decide_eq_false_iff_not, bne_iff_ne, bne_eq_false_iff_eq, Int.toNat_natCast]
  refine ⟨by decide, flat ps, h', b', ok.go, ok.stop, ?_, ((Fr.app S.length S _).up F1 (Nat.le_refl _)).up F2 (by simp)⟩
  have e : (if (-1 : Int) > b' then -1 else b') = (if b' < 0 then -1 else b') := by
    by_cases c : b' < 0
    · rw [if_pos c]
      split <;> omega
    · rw [if_neg c, if_neg (by omega)]
  rw [e]
end
end AGL
namespace AGL
open PySem AG
/-! ### where the way is known -/
theorem DatW.way {F : List D → M D} (H : DatW F) {w : We} {h : Nat} {b : Int} {rows : List Row} {h' : Nat} {b' : Int} (g : Go w h b rows h' b') (st : Stop w h' b') (hw : WeOk w) (hh : h < w.hands.length) (hb : b ≤ 10 ^ 20) {S : Sto} {P : D → Sto → Prop}
    (hP : ∀ S', Fr S.length S S' → P (.int ((turnOf w rows).getD (endV w h' b') 0 : Nat)) S') : Ok (F [dWe w, .int (h : Nat), .int b]) S P :=
  (H S w h b hw hh hb).mono fun d S' ⟨r3, h3, b3, g3, st3, e, f⟩ => by
    obtain ⟨q1, q2, q3⟩ := g.det st g3 st3
    subst q1 q2 q3 e
    exact hP S' f
theorem SrcW.way {F : List D → M D} (H : SrcW F) {w : We} {h : Nat} {b : Int} {rows : List Row} {h' : Nat} {b' : Int} (g : Go w h b rows h' b') (st : Stop w h' b') (hw : WeOk w) (hh : h < w.hands.length) (hb : b ≤ 10 ^ 20) {S : Sto} {P : D → Sto → Prop}
    (hP : ∀ S', Fr S.length S S' → P (.tup [.int (h' : Nat), .int (if b' < 0 then -1 else b'), tN (turnOf w rows), .int (rows.length : Nat)]) S') : Ok (F [dWe w, .int (h : Nat), .int b]) S P :=
  (H S w h b hw hh hb).mono fun d S' ⟨r3, h3, b3, g3, st3, e, f⟩ => by
    obtain ⟨q1, q2, q3⟩ := g.det st g3 st3
    subst q1 q2 q3 e
    exact hP S' f
/-! ### one thing compared with itself -/
theorem eqv_nPs : ∀ ts : List Nat, PyData.eqvAll (nP ts) (nP ts) = true
  | [] => rfl
  | x :: xs => by
    have := eqv_nPs xs
    unfold nP at *
    simp only [List.map_cons, PyData.eqvAll, PyData.eqv, this, BEq.rfl, Bool.and_self]
theorem eq_found {x a b c : Int} {ts : List Nat} {S : Sto} {P : Bool → Sto → Prop} : Ok (eqD (.lst [.int x, .tup [.int a, .int b, tN ts, .int c]]) (.lst [.int x, .tup [.int a, .int b, tN ts, .int c]])) S P = P true S := by
  apply ok_of_run
  show eqG _ _ S = _
  unfold eqG
  have e : toPy (.lst [.int x, .tup [.int a, .int b, tN ts, .int c]]) = some (.list [.int x, .tuple [.int a, .int b, .tuple (nP ts), .int c]]) := by
    have := toPys_nN ts
    unfold nN at this
    simp only [toPy, toPys, tN, this, Option.map_some]
  rw [e]
  obtain ⟨h1, h2⟩ := lay_nP ts
  have s : SeqAt.shaped (.list [.int x, .tuple [.int a, .int b, .tuple (nP ts), .int c]]) = true := by
    unfold SeqAt.shaped
    rw [Bool.and_eq_true]
    refine ⟨by simp only [PyData.canLay0, PyData.canLayAll0, h1, Bool.and_self], decide_eq_true ?_⟩
    simp only [PyData.depth, PyData.depthAll]
    omega
  show need (_ && _) (AG.ret _) S = _
  rw [s]
  have v : PyData.eqv (.list [.int x, .tuple [.int a, .int b, .tuple (nP ts), .int c]]) (.list [.int x, .tuple [.int a, .int b, .tuple (nP ts), .int c]]) = true := by
    simp only [PyData.eqv, PyData.eqvAll, eqv_nPs, BEq.rfl, Bool.and_self]
  rw [v]
  rfl
theorem Go.len_le {w : We} (hw : WeOk w) {h : Nat} {b : Int} {xs : List Row} {h1 : Nat} {b1 : Int} (g : Go w h b xs h1 b1) : h < w.hands.length → ((xs.length : Nat) : Int) ≤ max (b + 1) 0 := by
  induction g with
  | nil h b => intro _; simp only [List.length_nil]; omega
  | cons h b h2 a t rs h' b' h0 hc g ih =>
    intro hh
    have hx := (ruA_ok hw hh (noAt_lt hw hh b)).wh
    rw [hc] at hx
    have := ih hx.1
    have h1 := hx.2.1
    rw [List.length_cons]
    omega
theorem Bag.frm {S S' : Sto} {k n : Nat} (h : Bag S k n) (f : Fr S.length S S') : Bag S' k n := by
  obtain ⟨a, b, c, e, r⟩ := h
  have hl := (List.getElem?_eq_some_iff.mp e).1
  exact ⟨a, b, c, by rw [f.at_ k hl (Nat.ne_of_lt hl)]; exact e, r⟩
end AGL
namespace AGL
open PySem PySem.Spec PyProof.Rows L2 AG
def topS (i : Nat) : Stmt := PySem.Challenge.pw_agohands_k17_whole_one_step_back.main.body.getD i (.Pass ⟨0, 0, 0, 0⟩)
def b_copied : Sms := .cons (.ife (.cmp .Lt (.var 2) (.int 0)) (.cons (.ret .non) .nil) .nil) (.cons (.set 3 (.ix (.ix (.ix (.ix (.var 0) (.int 2)) (.var 1)) (.call "rule_at" (.cons (.var 0) (.cons (.var 1) (.cons (.var 2) .nil))))) (.int 2))) (.cons (.ife (.cmp .Eq (.ix (.var 3) (.int 0)) (.str "own")) (.cons (.ret .non) .nil) .nil) (.cons (.ret (.tup (.cons (.ix (.var 3) (.int 1)) (.cons (.bin .Sub (.var 2) (.ix (.var 3) (.int 2))) .nil)))) .nil)))
def b_law_right : Sms := .cons (.unp [3, 4, 5] (.ix (.ix (.ix (.var 0) (.int 2)) (.var 1)) (.call "rule_at" (.cons (.var 0) (.cons (.var 1) (.cons (.var 2) .nil)))))) (.cons (.set 6 (.lst false (.cons (.call "doing_at" (.cons (.var 0) (.cons (.var 1) (.cons (.var 2) .nil)))) (.cons (.call "source" (.cons (.var 0) (.cons (.var 1) (.cons (.var 2) .nil)))) .nil)))) (.cons (.ife (.cmp .Eq (.ix (.var 5) (.int 0)) (.str "own")) (.cons (.ret (.cmp .Eq (.var 6) (.lst false (.cons (.ix (.ix (.var 5) (.int 1)) (.bin .Mod (.bin .FloorDiv (.var 2) (.var 3)) (.bi .len (.cons (.ix (.var 5) (.int 1)) .nil)))) (.cons (.tup (.cons (.var 1) (.cons (.var 2) (.cons (.trg (.ix (.var 0) (.int 0))) (.cons (.int 0) .nil))))) .nil))))) .nil) .nil) (.cons (.unp [7, 8, 9, 10] (.var 5)) (.cons (.ife (.cmp .Lt (.var 2) (.var 9)) (.cons (.ret (.cmp .Eq (.var 6) (.lst false (.cons (.ix (.var 10) (.ix (.ix (.var 0) (.int 1)) (.var 8))) (.cons (.tup (.cons (.var 8) (.cons (.neg (.int 1)) (.cons (.var 10) (.cons (.int 1) .nil))))) .nil))))) .nil) .nil) (.cons (.unp [11, 12, 13, 14] (.call "source" (.cons (.var 0) (.cons (.var 8) (.cons (.bin .Sub (.var 2) (.var 9)) .nil))))) (.cons (.ret (.cmp .Eq (.var 6) (.lst false (.cons (.ix (.var 10) (.call "doing_at" (.cons (.var 0) (.cons (.var 8) (.cons (.bin .Sub (.var 2) (.var 9)) .nil))))) (.cons (.tup (.cons (.var 11) (.cons (.var 12) (.cons (.call "after" (.cons (.var 13) (.cons (.var 10) .nil))) (.cons (.bin .Add (.var 14) (.int 1)) .nil))))) .nil))))) .nil))))))
def b_trace : Sms := .cons (.set 4 (.lst true .nil)) (.cons (.set 5 (.tup (.cons (.var 1) (.cons (.var 2) .nil)))) (.cons (.while (.cmp .IsNot (.var 5) .non) (.cons (.ife (.cmp .Eq (.bi .len (.cons (.var 4) .nil)) (.var 3)) (.cons .opq .nil) .nil) (.cons (.app (.var 4) (.var 5)) (.cons (.set 5 (.call "_copied" (.cons (.var 0) (.cons (.ix (.var 5) (.int 0)) (.cons (.ix (.var 5) (.int 1)) .nil))))) .nil)))) (.cons (.ret (.var 4)) .nil)))
def b_law : Sms := .cons (.for (.name 1) (.seq (.bin .Add (.sl false (.var 0) .no (.yes (.int 4))) (.lst false (.cons (.int 0) .nil)))) (.cons (.set 2 (.call "_law_bag" (.cons (.var 1) .nil))) (.cons (.set 3 (.call "_law_web" (.cons (.var 2) .nil))) (.cons (.for (.name 4) (.rng (.int 6)) (.cons (.set 5 (.call "_law_far" (.cons (.var 2) .nil))) (.cons (.for (.name 6) (.rng (.bi .len (.cons (.ix (.var 3) (.int 2)) .nil))) (.cons (.ife (.not (.call "_law_right" (.cons (.var 3) (.cons (.var 6) (.cons (.var 5) .nil))))) (.cons (.ret (.bl false)) .nil) .nil) .nil)) .nil))) (.cons (.set 5 (.call "_law_pick" (.cons (.var 2) (.cons (.int 400) .nil)))) (.cons (.set 7 (.call "trace/3" (.cons (.var 3) (.cons (.int 0) (.cons (.var 5) .nil))))) (.cons (.unp [8, 9, 10, 11] (.call "source" (.cons (.var 3) (.cons (.int 0) (.cons (.var 5) .nil))))) (.cons (.ife (.or (.cmp .NotEq (.ix (.ix (.var 7) (.neg (.int 1))) (.int 0)) (.var 8)) (.or (.cmp .NotEq (.bi .max2 (.cons (.neg (.int 1)) (.cons (.ix (.ix (.var 7) (.neg (.int 1))) (.int 1)) .nil))) (.var 9)) (.cmp .NotEq (.bi .len (.cons (.var 7) .nil)) (.bin .Add (.var 11) (.int 1))))) (.cons (.ret (.bl false)) .nil) .nil) .nil)))))))) (.cons (.ret (.bl true)) .nil)
def bodies : List Sms := [b_after, b_staying, b_power, b_often, b_rule_clock, b_clock, b_rule_at, b_own_doing, b_copies_in, b_Ways___init__, b_Ways_rule, b_Ways__round, b_Ways__what, b_Ways_turn, b_Ways_turn_of_all, b_Ways_begun, b_Ways_led_on, b_Ways_doing, b_Ways__changed, b_doing_at, b_copied, b_source, b_law_bag, b_law_pick, b_law_turn, b_law_rule, b_law_common, b_law_clock, b_law_tamed, b_law_web, b_law_far, b_law_right, b_Ways_back, b_trace, b_law]
def db_after : Df := ⟨"after", .fn, "after", "after", topS 2, ["one", "other", "doing"], ["one", "other"], []⟩
def db_staying : Df := ⟨"staying", .fn, "staying", "staying", topS 3, ["many"], ["many"], []⟩
def db_power : Df := ⟨"power", .fn, "power", "power", topS 4, ["turn", "k", "done", "doubled", "left"], ["turn", "k"], []⟩
def db_often : Df := ⟨"often", .fn, "often", "often", topS 5, ["turn", "doing", "k", "come_to", "first"], ["turn", "doing", "k"], []⟩
def db_rule_clock : Df := ⟨"_rule_clock", .fn, "_rule_clock", "_rule_clock", topS 7, ["rule", "every", "_", "what"], ["rule"], []⟩
def db_clock : Df := ⟨"clock", .fn, "clock", "clock", topS 8, ["web", "beats", "hand", "rule"], ["web"], []⟩
def db_rule_at : Df := ⟨"rule_at", .fn, "rule_at", "rule_at", topS 9, ["web", "hand", "beat", "rules", "number", "every", "at", "_"], ["web", "hand", "beat"], []⟩
def db_own_doing : Df := ⟨"own_doing", .fn, "own_doing", "own_doing", topS 10, ["rule", "beat", "every", "_", "what", "row"], ["rule", "beat"], []⟩
def db_copies_in : Df := ⟨"copies_in", .fn, "copies_in", "copies_in", topS 12, ["parts", "rows", "times"], ["parts"], []⟩
def db_Ways___init__ : Df := ⟨"Ways.__init__", .ini "Ways", "__init__", "Ways.__init__", clsS (topS 13) 0, ["self", "web"], ["self", "web"], []⟩
def db_Ways_rule : Df := ⟨"Ways.rule", .me "Ways" "rule", "rule", "Ways.rule", clsS (topS 13) 1, ["self", "hand", "rest"], ["self", "hand", "rest"], []⟩
def db_Ways__round : Df := ⟨"Ways._round", .me "Ways" "_round", "_round", "Ways._round", clsS (topS 13) 3, ["self", "rows", "start", "beat", "floor", "circle", "agos", "row", "beats", "more", "left"], ["self", "rows", "start", "beat", "floor"], []⟩
def db_Ways__what : Df := ⟨"Ways._what", .me "Ways" "_what", "_what", "Ways._what", clsS (topS 13) 4, ["self", "row", "hand", "number"], ["self", "row"], []⟩
def db_Ways_turn : Df := ⟨"Ways.turn", .me "Ways" "turn", "turn", "Ways.turn", clsS (topS 13) 5, ["self", "rows", "turn", "row"], ["self", "rows"], []⟩
def db_Ways_turn_of_all : Df := ⟨"Ways.turn_of_all", .me "Ways" "turn_of_all", "turn_of_all", "Ways.turn_of_all", clsS (topS 13) 6, ["self", "parts", "turn", "rows", "times"], ["self", "parts"], []⟩
def db_Ways_begun : Df := ⟨"Ways.begun", .me "Ways" "begun", "begun", "Ways.begun", clsS (topS 13) 7, ["self", "hand", "beat", "number"], ["self", "hand", "beat"], []⟩
def db_Ways_led_on : Df := ⟨"Ways.led_on", .me "Ways" "led_on", "led_on", "Ways.led_on", clsS (topS 13) 8, ["self", "parts", "doing", "rows", "times"], ["self", "parts", "doing"], []⟩
def db_Ways_doing : Df := ⟨"Ways.doing", .me "Ways" "doing", "doing", "Ways.doing", clsS (topS 13) 9, ["self", "hand", "beat", "parts", "begun_by", "begun_at"], ["self", "hand", "beat"], []⟩
def db_Ways__changed : Df := ⟨"Ways._changed", .me "Ways" "_changed", "_changed", "Ways._changed", clsS (topS 13) 10, ["self", "rows", "times", "doing", "row", "turn"], ["self", "rows", "times", "doing"], []⟩
def db_doing_at : Df := ⟨"doing_at", .fn, "doing_at", "doing_at", topS 15, ["web", "hand", "beat"], ["web", "hand", "beat"], []⟩
def db_copied : Df := ⟨"_copied", .fn, "_copied", "_copied", topS 21, ["web", "hand", "beat", "what"], ["web", "hand", "beat"], []⟩
def db_source : Df := ⟨"source", .fn, "source", "source", topS 23, ["web", "hand", "beat", "ways", "parts", "begun_by", "begun_at"], ["web", "hand", "beat"], []⟩
def db_law_bag : Df := ⟨"_law_bag", .fn, "_law_bag", "_law_bag", topS 25, ["cell"], ["cell"], []⟩
def db_law_pick : Df := ⟨"_law_pick", .fn, "_law_pick", "_law_pick", topS 26, ["bag", "many", "told", "first", "second"], ["bag", "many"], []⟩
def db_law_turn : Df := ⟨"_law_turn", .fn, "_law_turn", "_law_turn", topS 27, ["bag", "many", "way", "by", "doing", "left"], ["bag", "many"], []⟩
def db_law_rule : Df := ⟨"_law_rule", .fn, "_law_rule", "_law_rule", topS 28, ["bag", "many", "hands", "least", "every", "at", "k", "ago"], ["bag", "many", "hands", "least"], []⟩
def db_law_common : Df := ⟨"_law_common", .fn, "_law_common", "_law_common", topS 29, ["one", "other", "found"], ["one", "other"], []⟩
def db_law_clock : Df := ⟨"_law_clock", .fn, "_law_clock", "_law_clock", topS 30, ["hands", "found", "hand", "every", "at", "what", "by"], ["hands"], []⟩
def db_law_tamed : Df := ⟨"_law_tamed", .fn, "_law_tamed", "_law_tamed", topS 31, ["hand", "found", "every", "at", "what", "few"], ["hand"], []⟩
def db_law_web : Df := ⟨"_law_web", .fn, "_law_web", "_law_web", topS 32, ["bag", "many", "count", "hands", "k", "rules", "j", "hand"], ["bag"], []⟩
def db_law_far : Df := ⟨"_law_far", .fn, "_law_far", "_law_far", topS 33, ["bag", "far", "wide", "some"], ["bag"], []⟩
def db_law_right : Df := ⟨"_law_right", .fn, "_law_right", "_law_right", topS 34, ["web", "hand", "beat", "every", "at", "what", "found", "word", "other", "ago", "turn", "first", "there", "led", "copies"], ["web", "hand", "beat"], []⟩
def db_Ways_back_3 : Df := ⟨"Ways.back/3", .me "Ways" "back", "back", "Ways.back", clsS (topS 13) 2, ["self", "hand", "beat", "floor", "rows", "met", "place", "number", "what"], ["self", "hand", "beat", "floor"], [0]⟩
def db_trace_3 : Df := ⟨"trace/3", .fa "trace", "trace", "trace", topS 22, ["web", "hand", "beat", "most", "told", "place"], ["web", "hand", "beat", "most"], [500]⟩
def db_law : Df := ⟨"law", .fn, "law", "law", topS 35, ["script", "cell", "bag", "web", "turn", "beat", "hand", "way", "first", "there", "led", "copies"], ["script"], []⟩
def defs : List Df := [db_after, db_staying, db_power, db_often, db_rule_clock, db_clock, db_rule_at, db_own_doing, db_copies_in, db_Ways___init__, db_Ways_rule, db_Ways__round, db_Ways__what, db_Ways_turn, db_Ways_turn_of_all, db_Ways_begun, db_Ways_led_on, db_Ways_doing, db_Ways__changed, db_doing_at, db_copied, db_source, db_law_bag, db_law_pick, db_law_turn, db_law_rule, db_law_common, db_law_clock, db_law_tamed, db_law_web, db_law_far, db_law_right, db_Ways_back_3, db_trace_3, db_law]
def bts : List Str := ["tuple", "range", "len", "enumerate", "sum", "reversed", "max", "list", "int"]
def cs : List (Str × CV) := [("lcm", CV.b "math.lcm")]
def fls : List (String × String) := [("Ways", "rules"), ("Ways", "beats"), ("Ways", "web")]
abbrev TT : Defs := mkT defs bodies
theorem lookb_after : Look defs bodies bts cs fls db_after b_after := ⟨⟨rfl, rfl, rfl, by decide +kernel, rfl, by decide +kernel, by decide +kernel⟩, by decide +kernel, rfl, by decide, rfl⟩
theorem phib_after (fu l : Nat) : Phi fu TT (l + 1) "after" = runF (Phi fu TT l) fu 3 b_after := by funext ds; simp only [Phi, show (TT : Defs).lookup "after" = some ([], 3, b_after) from lookb_after.tk, List.map_nil, List.append_nil]
theorem lookb_staying : Look defs bodies bts cs fls db_staying b_staying := ⟨⟨rfl, rfl, rfl, by decide +kernel, rfl, by decide +kernel, by decide +kernel⟩, by decide +kernel, rfl, by decide, rfl⟩
theorem phib_staying (fu l : Nat) : Phi fu TT (l + 1) "staying" = runF (Phi fu TT l) fu 1 b_staying := by funext ds; simp only [Phi, show (TT : Defs).lookup "staying" = some ([], 1, b_staying) from lookb_staying.tk, List.map_nil, List.append_nil]
theorem lookb_power : Look defs bodies bts cs fls db_power b_power := ⟨⟨rfl, rfl, rfl, by decide +kernel, rfl, by decide +kernel, by decide +kernel⟩, by decide +kernel, rfl, by decide, rfl⟩
theorem phib_power (fu l : Nat) : Phi fu TT (l + 1) "power" = runF (Phi fu TT l) fu 5 b_power := by funext ds; simp only [Phi, show (TT : Defs).lookup "power" = some ([], 5, b_power) from lookb_power.tk, List.map_nil, List.append_nil]
theorem lookb_often : Look defs bodies bts cs fls db_often b_often := ⟨⟨rfl, rfl, rfl, by decide +kernel, rfl, by decide +kernel, by decide +kernel⟩, by decide +kernel, rfl, by decide, rfl⟩
theorem phib_often (fu l : Nat) : Phi fu TT (l + 1) "often" = runF (Phi fu TT l) fu 5 b_often := by funext ds; simp only [Phi, show (TT : Defs).lookup "often" = some ([], 5, b_often) from lookb_often.tk, List.map_nil, List.append_nil]
theorem lookb_rule_clock : Look defs bodies bts cs fls db_rule_clock b_rule_clock := ⟨⟨rfl, rfl, rfl, by decide +kernel, rfl, by decide +kernel, by decide +kernel⟩, by decide +kernel, rfl, by decide, rfl⟩
theorem phib_rule_clock (fu l : Nat) : Phi fu TT (l + 1) "_rule_clock" = runF (Phi fu TT l) fu 4 b_rule_clock := by funext ds; simp only [Phi, show (TT : Defs).lookup "_rule_clock" = some ([], 4, b_rule_clock) from lookb_rule_clock.tk, List.map_nil, List.append_nil]
theorem lookb_clock : Look defs bodies bts cs fls db_clock b_clock := ⟨⟨rfl, rfl, rfl, by decide +kernel, rfl, by decide +kernel, by decide +kernel⟩, by decide +kernel, rfl, by decide, rfl⟩
theorem phib_clock (fu l : Nat) : Phi fu TT (l + 1) "clock" = runF (Phi fu TT l) fu 4 b_clock := by funext ds; simp only [Phi, show (TT : Defs).lookup "clock" = some ([], 4, b_clock) from lookb_clock.tk, List.map_nil, List.append_nil]
theorem lookb_rule_at : Look defs bodies bts cs fls db_rule_at b_rule_at := ⟨⟨rfl, rfl, rfl, by decide +kernel, rfl, by decide +kernel, by decide +kernel⟩, by decide +kernel, rfl, by decide, rfl⟩
theorem phib_rule_at (fu l : Nat) : Phi fu TT (l + 1) "rule_at" = runF (Phi fu TT l) fu 8 b_rule_at := by funext ds; simp only [Phi, show (TT : Defs).lookup "rule_at" = some ([], 8, b_rule_at) from lookb_rule_at.tk, List.map_nil, List.append_nil]
theorem lookb_own_doing : Look defs bodies bts cs fls db_own_doing b_own_doing := ⟨⟨rfl, rfl, rfl, by decide +kernel, rfl, by decide +kernel, by decide +kernel⟩, by decide +kernel, rfl, by decide, rfl⟩
theorem phib_own_doing (fu l : Nat) : Phi fu TT (l + 1) "own_doing" = runF (Phi fu TT l) fu 6 b_own_doing := by funext ds; simp only [Phi, show (TT : Defs).lookup "own_doing" = some ([], 6, b_own_doing) from lookb_own_doing.tk, List.map_nil, List.append_nil]
theorem lookb_copies_in : Look defs bodies bts cs fls db_copies_in b_copies_in := ⟨⟨rfl, rfl, rfl, by decide +kernel, rfl, by decide +kernel, by decide +kernel⟩, by decide +kernel, rfl, by decide, rfl⟩
theorem phib_copies_in (fu l : Nat) : Phi fu TT (l + 1) "copies_in" = runF (Phi fu TT l) fu 3 b_copies_in := by funext ds; simp only [Phi, show (TT : Defs).lookup "copies_in" = some ([], 3, b_copies_in) from lookb_copies_in.tk, List.map_nil, List.append_nil]
theorem lookb_Ways___init__ : Look defs bodies bts cs fls db_Ways___init__ b_Ways___init__ := ⟨⟨rfl, rfl, rfl, by decide +kernel, rfl, by decide +kernel, by decide +kernel⟩, by decide +kernel, rfl, by decide, rfl⟩
theorem phib_Ways___init__ (fu l : Nat) : Phi fu TT (l + 1) "Ways.__init__" = runF (Phi fu TT l) fu 2 b_Ways___init__ := by funext ds; simp only [Phi, show (TT : Defs).lookup "Ways.__init__" = some ([], 2, b_Ways___init__) from lookb_Ways___init__.tk, List.map_nil, List.append_nil]
theorem lookb_Ways_rule : Look defs bodies bts cs fls db_Ways_rule b_Ways_rule := ⟨⟨rfl, rfl, rfl, by decide +kernel, rfl, by decide +kernel, by decide +kernel⟩, by decide +kernel, rfl, by decide, rfl⟩
theorem phib_Ways_rule (fu l : Nat) : Phi fu TT (l + 1) "Ways.rule" = runF (Phi fu TT l) fu 3 b_Ways_rule := by funext ds; simp only [Phi, show (TT : Defs).lookup "Ways.rule" = some ([], 3, b_Ways_rule) from lookb_Ways_rule.tk, List.map_nil, List.append_nil]
theorem lookb_Ways__round : Look defs bodies bts cs fls db_Ways__round b_Ways__round := ⟨⟨rfl, rfl, rfl, by decide +kernel, rfl, by decide +kernel, by decide +kernel⟩, by decide +kernel, rfl, by decide, rfl⟩
theorem phib_Ways__round (fu l : Nat) : Phi fu TT (l + 1) "Ways._round" = runF (Phi fu TT l) fu 11 b_Ways__round := by funext ds; simp only [Phi, show (TT : Defs).lookup "Ways._round" = some ([], 11, b_Ways__round) from lookb_Ways__round.tk, List.map_nil, List.append_nil]
theorem lookb_Ways__what : Look defs bodies bts cs fls db_Ways__what b_Ways__what := ⟨⟨rfl, rfl, rfl, by decide +kernel, rfl, by decide +kernel, by decide +kernel⟩, by decide +kernel, rfl, by decide, rfl⟩
theorem phib_Ways__what (fu l : Nat) : Phi fu TT (l + 1) "Ways._what" = runF (Phi fu TT l) fu 4 b_Ways__what := by funext ds; simp only [Phi, show (TT : Defs).lookup "Ways._what" = some ([], 4, b_Ways__what) from lookb_Ways__what.tk, List.map_nil, List.append_nil]
theorem lookb_Ways_turn : Look defs bodies bts cs fls db_Ways_turn b_Ways_turn := ⟨⟨rfl, rfl, rfl, by decide +kernel, rfl, by decide +kernel, by decide +kernel⟩, by decide +kernel, rfl, by decide, rfl⟩
theorem phib_Ways_turn (fu l : Nat) : Phi fu TT (l + 1) "Ways.turn" = runF (Phi fu TT l) fu 4 b_Ways_turn := by funext ds; simp only [Phi, show (TT : Defs).lookup "Ways.turn" = some ([], 4, b_Ways_turn) from lookb_Ways_turn.tk, List.map_nil, List.append_nil]
theorem lookb_Ways_turn_of_all : Look defs bodies bts cs fls db_Ways_turn_of_all b_Ways_turn_of_all := ⟨⟨rfl, rfl, rfl, by decide +kernel, rfl, by decide +kernel, by decide +kernel⟩, by decide +kernel, rfl, by decide, rfl⟩
theorem phib_Ways_turn_of_all (fu l : Nat) : Phi fu TT (l + 1) "Ways.turn_of_all" = runF (Phi fu TT l) fu 5 b_Ways_turn_of_all := by funext ds; simp only [Phi, show (TT : Defs).lookup "Ways.turn_of_all" = some ([], 5, b_Ways_turn_of_all) from lookb_Ways_turn_of_all.tk, List.map_nil, List.append_nil]
theorem lookb_Ways_begun : Look defs bodies bts cs fls db_Ways_begun b_Ways_begun := ⟨⟨rfl, rfl, rfl, by decide +kernel, rfl, by decide +kernel, by decide +kernel⟩, by decide +kernel, rfl, by decide, rfl⟩
theorem phib_Ways_begun (fu l : Nat) : Phi fu TT (l + 1) "Ways.begun" = runF (Phi fu TT l) fu 4 b_Ways_begun := by funext ds; simp only [Phi, show (TT : Defs).lookup "Ways.begun" = some ([], 4, b_Ways_begun) from lookb_Ways_begun.tk, List.map_nil, List.append_nil]
theorem lookb_Ways_led_on : Look defs bodies bts cs fls db_Ways_led_on b_Ways_led_on := ⟨⟨rfl, rfl, rfl, by decide +kernel, rfl, by decide +kernel, by decide +kernel⟩, by decide +kernel, rfl, by decide, rfl⟩
theorem phib_Ways_led_on (fu l : Nat) : Phi fu TT (l + 1) "Ways.led_on" = runF (Phi fu TT l) fu 5 b_Ways_led_on := by funext ds; simp only [Phi, show (TT : Defs).lookup "Ways.led_on" = some ([], 5, b_Ways_led_on) from lookb_Ways_led_on.tk, List.map_nil, List.append_nil]
theorem lookb_Ways_doing : Look defs bodies bts cs fls db_Ways_doing b_Ways_doing := ⟨⟨rfl, rfl, rfl, by decide +kernel, rfl, by decide +kernel, by decide +kernel⟩, by decide +kernel, rfl, by decide, rfl⟩
theorem phib_Ways_doing (fu l : Nat) : Phi fu TT (l + 1) "Ways.doing" = runF (Phi fu TT l) fu 6 b_Ways_doing := by funext ds; simp only [Phi, show (TT : Defs).lookup "Ways.doing" = some ([], 6, b_Ways_doing) from lookb_Ways_doing.tk, List.map_nil, List.append_nil]
theorem lookb_Ways__changed : Look defs bodies bts cs fls db_Ways__changed b_Ways__changed := ⟨⟨rfl, rfl, rfl, by decide +kernel, rfl, by decide +kernel, by decide +kernel⟩, by decide +kernel, rfl, by decide, rfl⟩
theorem phib_Ways__changed (fu l : Nat) : Phi fu TT (l + 1) "Ways._changed" = runF (Phi fu TT l) fu 6 b_Ways__changed := by funext ds; simp only [Phi, show (TT : Defs).lookup "Ways._changed" = some ([], 6, b_Ways__changed) from lookb_Ways__changed.tk, List.map_nil, List.append_nil]
theorem lookb_doing_at : Look defs bodies bts cs fls db_doing_at b_doing_at := ⟨⟨rfl, rfl, rfl, by decide +kernel, rfl, by decide +kernel, by decide +kernel⟩, by decide +kernel, rfl, by decide, rfl⟩
theorem phib_doing_at (fu l : Nat) : Phi fu TT (l + 1) "doing_at" = runF (Phi fu TT l) fu 3 b_doing_at := by funext ds; simp only [Phi, show (TT : Defs).lookup "doing_at" = some ([], 3, b_doing_at) from lookb_doing_at.tk, List.map_nil, List.append_nil]
theorem lookb_copied : Look defs bodies bts cs fls db_copied b_copied := ⟨⟨rfl, rfl, rfl, by decide +kernel, rfl, by decide +kernel, by decide +kernel⟩, by decide +kernel, rfl, by decide, rfl⟩
theorem phib_copied (fu l : Nat) : Phi fu TT (l + 1) "_copied" = runF (Phi fu TT l) fu 4 b_copied := by funext ds; simp only [Phi, show (TT : Defs).lookup "_copied" = some ([], 4, b_copied) from lookb_copied.tk, List.map_nil, List.append_nil]
theorem lookb_source : Look defs bodies bts cs fls db_source b_source := ⟨⟨rfl, rfl, rfl, by decide +kernel, rfl, by decide +kernel, by decide +kernel⟩, by decide +kernel, rfl, by decide, rfl⟩
theorem phib_source (fu l : Nat) : Phi fu TT (l + 1) "source" = runF (Phi fu TT l) fu 7 b_source := by funext ds; simp only [Phi, show (TT : Defs).lookup "source" = some ([], 7, b_source) from lookb_source.tk, List.map_nil, List.append_nil]
theorem lookb_law_bag : Look defs bodies bts cs fls db_law_bag b_law_bag := ⟨⟨rfl, rfl, rfl, by decide +kernel, rfl, by decide +kernel, by decide +kernel⟩, by decide +kernel, rfl, by decide, rfl⟩
theorem phib_law_bag (fu l : Nat) : Phi fu TT (l + 1) "_law_bag" = runF (Phi fu TT l) fu 1 b_law_bag := by funext ds; simp only [Phi, show (TT : Defs).lookup "_law_bag" = some ([], 1, b_law_bag) from lookb_law_bag.tk, List.map_nil, List.append_nil]
theorem lookb_law_pick : Look defs bodies bts cs fls db_law_pick b_law_pick := ⟨⟨rfl, rfl, rfl, by decide +kernel, rfl, by decide +kernel, by decide +kernel⟩, by decide +kernel, rfl, by decide, rfl⟩
theorem phib_law_pick (fu l : Nat) : Phi fu TT (l + 1) "_law_pick" = runF (Phi fu TT l) fu 5 b_law_pick := by funext ds; simp only [Phi, show (TT : Defs).lookup "_law_pick" = some ([], 5, b_law_pick) from lookb_law_pick.tk, List.map_nil, List.append_nil]
theorem lookb_law_turn : Look defs bodies bts cs fls db_law_turn b_law_turn := ⟨⟨rfl, rfl, rfl, by decide +kernel, rfl, by decide +kernel, by decide +kernel⟩, by decide +kernel, rfl, by decide, rfl⟩
theorem phib_law_turn (fu l : Nat) : Phi fu TT (l + 1) "_law_turn" = runF (Phi fu TT l) fu 6 b_law_turn := by funext ds; simp only [Phi, show (TT : Defs).lookup "_law_turn" = some ([], 6, b_law_turn) from lookb_law_turn.tk, List.map_nil, List.append_nil]
theorem lookb_law_rule : Look defs bodies bts cs fls db_law_rule b_law_rule := ⟨⟨rfl, rfl, rfl, by decide +kernel, rfl, by decide +kernel, by decide +kernel⟩, by decide +kernel, rfl, by decide, rfl⟩
theorem phib_law_rule (fu l : Nat) : Phi fu TT (l + 1) "_law_rule" = runF (Phi fu TT l) fu 8 b_law_rule := by funext ds; simp only [Phi, show (TT : Defs).lookup "_law_rule" = some ([], 8, b_law_rule) from lookb_law_rule.tk, List.map_nil, List.append_nil]
theorem lookb_law_common : Look defs bodies bts cs fls db_law_common b_law_common := ⟨⟨rfl, rfl, rfl, by decide +kernel, rfl, by decide +kernel, by decide +kernel⟩, by decide +kernel, rfl, by decide, rfl⟩
theorem phib_law_common (fu l : Nat) : Phi fu TT (l + 1) "_law_common" = runF (Phi fu TT l) fu 3 b_law_common := by funext ds; simp only [Phi, show (TT : Defs).lookup "_law_common" = some ([], 3, b_law_common) from lookb_law_common.tk, List.map_nil, List.append_nil]
theorem lookb_law_clock : Look defs bodies bts cs fls db_law_clock b_law_clock := ⟨⟨rfl, rfl, rfl, by decide +kernel, rfl, by decide +kernel, by decide +kernel⟩, by decide +kernel, rfl, by decide, rfl⟩
theorem phib_law_clock (fu l : Nat) : Phi fu TT (l + 1) "_law_clock" = runF (Phi fu TT l) fu 7 b_law_clock := by funext ds; simp only [Phi, show (TT : Defs).lookup "_law_clock" = some ([], 7, b_law_clock) from lookb_law_clock.tk, List.map_nil, List.append_nil]
theorem lookb_law_tamed : Look defs bodies bts cs fls db_law_tamed b_law_tamed := ⟨⟨rfl, rfl, rfl, by decide +kernel, rfl, by decide +kernel, by decide +kernel⟩, by decide +kernel, rfl, by decide, rfl⟩
theorem phib_law_tamed (fu l : Nat) : Phi fu TT (l + 1) "_law_tamed" = runF (Phi fu TT l) fu 6 b_law_tamed := by funext ds; simp only [Phi, show (TT : Defs).lookup "_law_tamed" = some ([], 6, b_law_tamed) from lookb_law_tamed.tk, List.map_nil, List.append_nil]
theorem lookb_law_web : Look defs bodies bts cs fls db_law_web b_law_web := ⟨⟨rfl, rfl, rfl, by decide +kernel, rfl, by decide +kernel, by decide +kernel⟩, by decide +kernel, rfl, by decide, rfl⟩
theorem phib_law_web (fu l : Nat) : Phi fu TT (l + 1) "_law_web" = runF (Phi fu TT l) fu 8 b_law_web := by funext ds; simp only [Phi, show (TT : Defs).lookup "_law_web" = some ([], 8, b_law_web) from lookb_law_web.tk, List.map_nil, List.append_nil]
theorem lookb_law_far : Look defs bodies bts cs fls db_law_far b_law_far := ⟨⟨rfl, rfl, rfl, by decide +kernel, rfl, by decide +kernel, by decide +kernel⟩, by decide +kernel, rfl, by decide, rfl⟩
theorem phib_law_far (fu l : Nat) : Phi fu TT (l + 1) "_law_far" = runF (Phi fu TT l) fu 4 b_law_far := by funext ds; simp only [Phi, show (TT : Defs).lookup "_law_far" = some ([], 4, b_law_far) from lookb_law_far.tk, List.map_nil, List.append_nil]
theorem lookb_law_right : Look defs bodies bts cs fls db_law_right b_law_right := ⟨⟨rfl, rfl, rfl, by decide +kernel, rfl, by decide +kernel, by decide +kernel⟩, by decide +kernel, rfl, by decide, rfl⟩
theorem phib_law_right (fu l : Nat) : Phi fu TT (l + 1) "_law_right" = runF (Phi fu TT l) fu 15 b_law_right := by funext ds; simp only [Phi, show (TT : Defs).lookup "_law_right" = some ([], 15, b_law_right) from lookb_law_right.tk, List.map_nil, List.append_nil]
theorem lookb_Ways_back_3 : Look defs bodies bts cs fls db_Ways_back_3 b_Ways_back := ⟨⟨rfl, rfl, rfl, by decide +kernel, rfl, by decide +kernel, by decide +kernel⟩, by decide +kernel, rfl, by decide, rfl⟩
theorem phib_Ways_back_3 (fu l : Nat) : Phi fu TT (l + 1) "Ways.back/3" = fun ds => runF (Phi fu TT l) fu 9 b_Ways_back (ds ++ [.int 0]) := by funext ds; simp only [Phi, show (TT : Defs).lookup "Ways.back/3" = some ([0], 9, b_Ways_back) from lookb_Ways_back_3.tk]; rfl
theorem lookb_trace_3 : Look defs bodies bts cs fls db_trace_3 b_trace := ⟨⟨rfl, rfl, rfl, by decide +kernel, rfl, by decide +kernel, by decide +kernel⟩, by decide +kernel, rfl, by decide, rfl⟩
theorem phib_trace_3 (fu l : Nat) : Phi fu TT (l + 1) "trace/3" = fun ds => runF (Phi fu TT l) fu 6 b_trace (ds ++ [.int 500]) := by funext ds; simp only [Phi, show (TT : Defs).lookup "trace/3" = some ([500], 6, b_trace) from lookb_trace_3.tk]; rfl
theorem lookb_law : Look defs bodies bts cs fls db_law b_law := ⟨⟨rfl, rfl, rfl, by decide +kernel, rfl, by decide +kernel, by decide +kernel⟩, by decide +kernel, rfl, by decide, rfl⟩
theorem phib_law (fu l : Nat) : Phi fu TT (l + 1) "law" = runF (Phi fu TT l) fu 12 b_law := by funext ds; simp only [Phi, show (TT : Defs).lookup "law" = some ([], 12, b_law) from lookb_law.tk, List.map_nil, List.append_nil]
theorem looks : ∀ (i : Nat) (d : Df) (b : Sms), defs[i]? = some d → bodies[i]? = some b → Look defs bodies bts cs fls d b
  | 0, d, b, h1, h2 => by cases (Option.some.inj h1); cases (Option.some.inj h2); exact lookb_after
  | 1, d, b, h1, h2 => by cases (Option.some.inj h1); cases (Option.some.inj h2); exact lookb_staying
  | 2, d, b, h1, h2 => by cases (Option.some.inj h1); cases (Option.some.inj h2); exact lookb_power
  | 3, d, b, h1, h2 => by cases (Option.some.inj h1); cases (Option.some.inj h2); exact lookb_often
  | 4, d, b, h1, h2 => by cases (Option.some.inj h1); cases (Option.some.inj h2); exact lookb_rule_clock
  | 5, d, b, h1, h2 => by cases (Option.some.inj h1); cases (Option.some.inj h2); exact lookb_clock
  | 6, d, b, h1, h2 => by cases (Option.some.inj h1); cases (Option.some.inj h2); exact lookb_rule_at
  | 7, d, b, h1, h2 => by cases (Option.some.inj h1); cases (Option.some.inj h2); exact lookb_own_doing
  | 8, d, b, h1, h2 => by cases (Option.some.inj h1); cases (Option.some.inj h2); exact lookb_copies_in
  | 9, d, b, h1, h2 => by cases (Option.some.inj h1); cases (Option.some.inj h2); exact lookb_Ways___init__
  | 10, d, b, h1, h2 => by cases (Option.some.inj h1); cases (Option.some.inj h2); exact lookb_Ways_rule
  | 11, d, b, h1, h2 => by cases (Option.some.inj h1); cases (Option.some.inj h2); exact lookb_Ways__round
  | 12, d, b, h1, h2 => by cases (Option.some.inj h1); cases (Option.some.inj h2); exact lookb_Ways__what
  | 13, d, b, h1, h2 => by cases (Option.some.inj h1); cases (Option.some.inj h2); exact lookb_Ways_turn
  | 14, d, b, h1, h2 => by cases (Option.some.inj h1); cases (Option.some.inj h2); exact lookb_Ways_turn_of_all
  | 15, d, b, h1, h2 => by cases (Option.some.inj h1); cases (Option.some.inj h2); exact lookb_Ways_begun
  | 16, d, b, h1, h2 => by cases (Option.some.inj h1); cases (Option.some.inj h2); exact lookb_Ways_led_on
  | 17, d, b, h1, h2 => by cases (Option.some.inj h1); cases (Option.some.inj h2); exact lookb_Ways_doing
  | 18, d, b, h1, h2 => by cases (Option.some.inj h1); cases (Option.some.inj h2); exact lookb_Ways__changed
  | 19, d, b, h1, h2 => by cases (Option.some.inj h1); cases (Option.some.inj h2); exact lookb_doing_at
  | 20, d, b, h1, h2 => by cases (Option.some.inj h1); cases (Option.some.inj h2); exact lookb_copied
  | 21, d, b, h1, h2 => by cases (Option.some.inj h1); cases (Option.some.inj h2); exact lookb_source
  | 22, d, b, h1, h2 => by cases (Option.some.inj h1); cases (Option.some.inj h2); exact lookb_law_bag
  | 23, d, b, h1, h2 => by cases (Option.some.inj h1); cases (Option.some.inj h2); exact lookb_law_pick
  | 24, d, b, h1, h2 => by cases (Option.some.inj h1); cases (Option.some.inj h2); exact lookb_law_turn
  | 25, d, b, h1, h2 => by cases (Option.some.inj h1); cases (Option.some.inj h2); exact lookb_law_rule
  | 26, d, b, h1, h2 => by cases (Option.some.inj h1); cases (Option.some.inj h2); exact lookb_law_common
  | 27, d, b, h1, h2 => by cases (Option.some.inj h1); cases (Option.some.inj h2); exact lookb_law_clock
  | 28, d, b, h1, h2 => by cases (Option.some.inj h1); cases (Option.some.inj h2); exact lookb_law_tamed
  | 29, d, b, h1, h2 => by cases (Option.some.inj h1); cases (Option.some.inj h2); exact lookb_law_web
  | 30, d, b, h1, h2 => by cases (Option.some.inj h1); cases (Option.some.inj h2); exact lookb_law_far
  | 31, d, b, h1, h2 => by cases (Option.some.inj h1); cases (Option.some.inj h2); exact lookb_law_right
  | 32, d, b, h1, h2 => by cases (Option.some.inj h1); cases (Option.some.inj h2); exact lookb_Ways_back_3
  | 33, d, b, h1, h2 => by cases (Option.some.inj h1); cases (Option.some.inj h2); exact lookb_trace_3
  | 34, d, b, h1, h2 => by cases (Option.some.inj h1); cases (Option.some.inj h2); exact lookb_law
  | i + 35, d, b, h1, h2 => by cases h1
theorem all_mk {w : World} {K : PySem.W.Frag} {h : Heap} {mg : Str → Option Value} {fa : Addr} {P : Program} (X : K.In h) (G : h.Ns mainGlobals mg) (hfa : mg "law" = some (.ref fa))
    {od0 an0 od1 an1 od2 an2 od3 an3 od4 an4 od5 an5 od6 an6 od7 an7 od8 an8 od9 an9 od10 an10 od11 an11 od12 an12 od13 an13 od14 an14 od15 an15 od16 an16 od17 an17 od18 an18 od19 an19 od20 an20 od21 an21 od22 an22 od23 an23 od24 an24 od25 an25 od26 an26 od27 an27 od28 an28 od29 an29 od30 an30 od31 an31 od32 an32 od33 an33 od34 an34 : Option Addr} {sl0 sl1 sl2 sl3 sl4 sl5 sl6 sl7 sl8 sl9 sl10 sl11 sl12 sl13 sl14 sl15 sl16 sl17 sl18 sl19 sl20 sl21 sl22 sl23 sl24 sl25 sl26 sl27 sl28 sl29 sl30 sl31 sl32 sl33 sl34 : Array (Option Value)}
    {oc0 dc0 pm0 cd0 ct0 kV0 oc1 dc1 pm1 cd1 ct1 kV1 oc2 dc2 pm2 cd2 ct2 kV2 oc3 dc3 pm3 cd3 ct3 kV3 oc4 dc4 pm4 cd4 ct4 kV4 oc5 dc5 pm5 cd5 ct5 kV5 oc6 dc6 pm6 cd6 ct6 kV6 oc7 dc7 pm7 cd7 ct7 kV7 oc8 dc8 pm8 cd8 ct8 kV8 oc9 dc9 pm9 cd9 ct9 kV9 oc10 dc10 pm10 cd10 ct10 kV10 oc11 dc11 pm11 cd11 ct11 kV11 oc12 dc12 pm12 cd12 ct12 kV12 oc13 dc13 pm13 cd13 ct13 kV13 oc14 dc14 pm14 cd14 ct14 kV14 oc15 dc15 pm15 cd15 ct15 kV15 oc16 dc16 pm16 cd16 ct16 kV16 oc17 dc17 pm17 cd17 ct17 kV17 oc18 dc18 pm18 cd18 ct18 kV18 oc19 dc19 pm19 cd19 ct19 kV19 oc20 dc20 pm20 cd20 ct20 kV20 oc21 dc21 pm21 cd21 ct21 kV21 oc22 dc22 pm22 cd22 ct22 kV22 oc23 dc23 pm23 cd23 ct23 kV23 oc24 dc24 pm24 cd24 ct24 kV24 oc25 dc25 pm25 cd25 ct25 kV25 oc26 dc26 pm26 cd26 ct26 kV26 oc27 dc27 pm27 cd27 ct27 kV27 oc28 dc28 pm28 cd28 ct28 kV28 oc29 dc29 pm29 cd29 ct29 kV29 oc30 dc30 pm30 cd30 ct30 kV30 oc31 dc31 pm31 cd31 ct31 kV31 oc32 dc32 pm32 cd32 ct32 kV32 oc33 dc33 pm33 cd33 ct33 oc34 dc34 pm34 cd34 ct34 kV34 : Value} {f0 f1 f2 f3 f4 f5 f6 f7 f8 f9 f10 f11 f12 f13 f14 f15 f16 f17 f18 f19 f20 f21 f22 f23 f24 f25 f26 f27 f28 f29 f30 f31 f32 DT32 f33 DT33 f34 C0 : Addr}
    {tt32 tt33 : Tok}
    {toc32 : Value} {tod32 : Option Addr} {tsl32 : Array (Option Value)} {tm32 : Nat}
    (q0 : PySem.W.nsIn K mainGlobals "Ways" = some (some (.ref C0))) (r0 : PySem.W.plainGet K C0 Str.empty = true) (s0 : PySem.W.hasDictIn K C0 = true) (u0 : PySem.W.plainOver K C0 = true) (v0 : PySem.W.findIn K (.ref C0) "__setattr__" = some (some (.builtin "object.__setattr__")))
    (w0 : PySem.W.makesIn K C0 = true) (x0 : PySem.W.keepIn K (.ref C0) = true)
    (a0 : PySem.W.nsIn K mainGlobals "after" = some (some (.ref f0)))
    (l0 : K.lookup f0 = some ⟨oc0, od0, .func (PySem.W.fnOf "after" "after" (defArgs (topS 2)) (defBody (topS 2)) (defScope (topS 2)) .none kV0 dc0 pm0 an0 cd0 ct0), sl0⟩)
    (c0 : PySem.W.codeIn K cd0 "after" = true) (k0 : PySem.W.keepIn K (.ref f0) = true)
    (a1 : PySem.W.nsIn K mainGlobals "staying" = some (some (.ref f1)))
    (l1 : K.lookup f1 = some ⟨oc1, od1, .func (PySem.W.fnOf "staying" "staying" (defArgs (topS 3)) (defBody (topS 3)) (defScope (topS 3)) .none kV1 dc1 pm1 an1 cd1 ct1), sl1⟩)
    (c1 : PySem.W.codeIn K cd1 "staying" = true) (k1 : PySem.W.keepIn K (.ref f1) = true)
    (a2 : PySem.W.nsIn K mainGlobals "power" = some (some (.ref f2)))
    (l2 : K.lookup f2 = some ⟨oc2, od2, .func (PySem.W.fnOf "power" "power" (defArgs (topS 4)) (defBody (topS 4)) (defScope (topS 4)) .none kV2 dc2 pm2 an2 cd2 ct2), sl2⟩)
    (c2 : PySem.W.codeIn K cd2 "power" = true) (k2 : PySem.W.keepIn K (.ref f2) = true)
    (a3 : PySem.W.nsIn K mainGlobals "often" = some (some (.ref f3)))
    (l3 : K.lookup f3 = some ⟨oc3, od3, .func (PySem.W.fnOf "often" "often" (defArgs (topS 5)) (defBody (topS 5)) (defScope (topS 5)) .none kV3 dc3 pm3 an3 cd3 ct3), sl3⟩)
    (c3 : PySem.W.codeIn K cd3 "often" = true) (k3 : PySem.W.keepIn K (.ref f3) = true)
    (a4 : PySem.W.nsIn K mainGlobals "_rule_clock" = some (some (.ref f4)))
    (l4 : K.lookup f4 = some ⟨oc4, od4, .func (PySem.W.fnOf "_rule_clock" "_rule_clock" (defArgs (topS 7)) (defBody (topS 7)) (defScope (topS 7)) .none kV4 dc4 pm4 an4 cd4 ct4), sl4⟩)
    (c4 : PySem.W.codeIn K cd4 "_rule_clock" = true) (k4 : PySem.W.keepIn K (.ref f4) = true)
    (a5 : PySem.W.nsIn K mainGlobals "clock" = some (some (.ref f5)))
    (l5 : K.lookup f5 = some ⟨oc5, od5, .func (PySem.W.fnOf "clock" "clock" (defArgs (topS 8)) (defBody (topS 8)) (defScope (topS 8)) .none kV5 dc5 pm5 an5 cd5 ct5), sl5⟩)
    (c5 : PySem.W.codeIn K cd5 "clock" = true) (k5 : PySem.W.keepIn K (.ref f5) = true)
    (a6 : PySem.W.nsIn K mainGlobals "rule_at" = some (some (.ref f6)))
    (l6 : K.lookup f6 = some ⟨oc6, od6, .func (PySem.W.fnOf "rule_at" "rule_at" (defArgs (topS 9)) (defBody (topS 9)) (defScope (topS 9)) .none kV6 dc6 pm6 an6 cd6 ct6), sl6⟩)
    (c6 : PySem.W.codeIn K cd6 "rule_at" = true) (k6 : PySem.W.keepIn K (.ref f6) = true)
    (a7 : PySem.W.nsIn K mainGlobals "own_doing" = some (some (.ref f7)))
    (l7 : K.lookup f7 = some ⟨oc7, od7, .func (PySem.W.fnOf "own_doing" "own_doing" (defArgs (topS 10)) (defBody (topS 10)) (defScope (topS 10)) .none kV7 dc7 pm7 an7 cd7 ct7), sl7⟩)
    (c7 : PySem.W.codeIn K cd7 "own_doing" = true) (k7 : PySem.W.keepIn K (.ref f7) = true)
    (a8 : PySem.W.nsIn K mainGlobals "copies_in" = some (some (.ref f8)))
    (l8 : K.lookup f8 = some ⟨oc8, od8, .func (PySem.W.fnOf "copies_in" "copies_in" (defArgs (topS 12)) (defBody (topS 12)) (defScope (topS 12)) .none kV8 dc8 pm8 an8 cd8 ct8), sl8⟩)
    (c8 : PySem.W.codeIn K cd8 "copies_in" = true) (k8 : PySem.W.keepIn K (.ref f8) = true)
    (m9 : PySem.W.findIn K (.ref C0) "__init__" = some (some (.ref f9))) (i9 : PySem.W.isFn K (.ref f9) = true)
    (l9 : K.lookup f9 = some ⟨oc9, od9, .func (PySem.W.fnOf "__init__" "Ways.__init__" (defArgs (clsS (topS 13) 0)) (defBody (clsS (topS 13) 0)) (defScope (clsS (topS 13) 0)) .none kV9 dc9 pm9 an9 cd9 ct9), sl9⟩)
    (c9 : PySem.W.codeIn K cd9 "Ways.__init__" = true) (k9 : PySem.W.keepIn K (.ref f9) = true)
    (m10 : PySem.W.findIn K (.ref C0) "rule" = some (some (.ref f10))) (i10 : PySem.W.isFn K (.ref f10) = true)
    (l10 : K.lookup f10 = some ⟨oc10, od10, .func (PySem.W.fnOf "rule" "Ways.rule" (defArgs (clsS (topS 13) 1)) (defBody (clsS (topS 13) 1)) (defScope (clsS (topS 13) 1)) .none kV10 dc10 pm10 an10 cd10 ct10), sl10⟩)
    (c10 : PySem.W.codeIn K cd10 "Ways.rule" = true) (k10 : PySem.W.keepIn K (.ref f10) = true)
    (m11 : PySem.W.findIn K (.ref C0) "_round" = some (some (.ref f11))) (i11 : PySem.W.isFn K (.ref f11) = true)
    (l11 : K.lookup f11 = some ⟨oc11, od11, .func (PySem.W.fnOf "_round" "Ways._round" (defArgs (clsS (topS 13) 3)) (defBody (clsS (topS 13) 3)) (defScope (clsS (topS 13) 3)) .none kV11 dc11 pm11 an11 cd11 ct11), sl11⟩)
    (c11 : PySem.W.codeIn K cd11 "Ways._round" = true) (k11 : PySem.W.keepIn K (.ref f11) = true)
    (m12 : PySem.W.findIn K (.ref C0) "_what" = some (some (.ref f12))) (i12 : PySem.W.isFn K (.ref f12) = true)
    (l12 : K.lookup f12 = some ⟨oc12, od12, .func (PySem.W.fnOf "_what" "Ways._what" (defArgs (clsS (topS 13) 4)) (defBody (clsS (topS 13) 4)) (defScope (clsS (topS 13) 4)) .none kV12 dc12 pm12 an12 cd12 ct12), sl12⟩)
    (c12 : PySem.W.codeIn K cd12 "Ways._what" = true) (k12 : PySem.W.keepIn K (.ref f12) = true)
    (m13 : PySem.W.findIn K (.ref C0) "turn" = some (some (.ref f13))) (i13 : PySem.W.isFn K (.ref f13) = true)
    (l13 : K.lookup f13 = some ⟨oc13, od13, .func (PySem.W.fnOf "turn" "Ways.turn" (defArgs (clsS (topS 13) 5)) (defBody (clsS (topS 13) 5)) (defScope (clsS (topS 13) 5)) .none kV13 dc13 pm13 an13 cd13 ct13), sl13⟩)
    (c13 : PySem.W.codeIn K cd13 "Ways.turn" = true) (k13 : PySem.W.keepIn K (.ref f13) = true)
    (m14 : PySem.W.findIn K (.ref C0) "turn_of_all" = some (some (.ref f14))) (i14 : PySem.W.isFn K (.ref f14) = true)
    (l14 : K.lookup f14 = some ⟨oc14, od14, .func (PySem.W.fnOf "turn_of_all" "Ways.turn_of_all" (defArgs (clsS (topS 13) 6)) (defBody (clsS (topS 13) 6)) (defScope (clsS (topS 13) 6)) .none kV14 dc14 pm14 an14 cd14 ct14), sl14⟩)
    (c14 : PySem.W.codeIn K cd14 "Ways.turn_of_all" = true) (k14 : PySem.W.keepIn K (.ref f14) = true)
    (m15 : PySem.W.findIn K (.ref C0) "begun" = some (some (.ref f15))) (i15 : PySem.W.isFn K (.ref f15) = true)
    (l15 : K.lookup f15 = some ⟨oc15, od15, .func (PySem.W.fnOf "begun" "Ways.begun" (defArgs (clsS (topS 13) 7)) (defBody (clsS (topS 13) 7)) (defScope (clsS (topS 13) 7)) .none kV15 dc15 pm15 an15 cd15 ct15), sl15⟩)
    (c15 : PySem.W.codeIn K cd15 "Ways.begun" = true) (k15 : PySem.W.keepIn K (.ref f15) = true)
    (m16 : PySem.W.findIn K (.ref C0) "led_on" = some (some (.ref f16))) (i16 : PySem.W.isFn K (.ref f16) = true)
    (l16 : K.lookup f16 = some ⟨oc16, od16, .func (PySem.W.fnOf "led_on" "Ways.led_on" (defArgs (clsS (topS 13) 8)) (defBody (clsS (topS 13) 8)) (defScope (clsS (topS 13) 8)) .none kV16 dc16 pm16 an16 cd16 ct16), sl16⟩)
    (c16 : PySem.W.codeIn K cd16 "Ways.led_on" = true) (k16 : PySem.W.keepIn K (.ref f16) = true)
    (m17 : PySem.W.findIn K (.ref C0) "doing" = some (some (.ref f17))) (i17 : PySem.W.isFn K (.ref f17) = true)
    (l17 : K.lookup f17 = some ⟨oc17, od17, .func (PySem.W.fnOf "doing" "Ways.doing" (defArgs (clsS (topS 13) 9)) (defBody (clsS (topS 13) 9)) (defScope (clsS (topS 13) 9)) .none kV17 dc17 pm17 an17 cd17 ct17), sl17⟩)
    (c17 : PySem.W.codeIn K cd17 "Ways.doing" = true) (k17 : PySem.W.keepIn K (.ref f17) = true)
    (m18 : PySem.W.findIn K (.ref C0) "_changed" = some (some (.ref f18))) (i18 : PySem.W.isFn K (.ref f18) = true)
    (l18 : K.lookup f18 = some ⟨oc18, od18, .func (PySem.W.fnOf "_changed" "Ways._changed" (defArgs (clsS (topS 13) 10)) (defBody (clsS (topS 13) 10)) (defScope (clsS (topS 13) 10)) .none kV18 dc18 pm18 an18 cd18 ct18), sl18⟩)
    (c18 : PySem.W.codeIn K cd18 "Ways._changed" = true) (k18 : PySem.W.keepIn K (.ref f18) = true)
    (a19 : PySem.W.nsIn K mainGlobals "doing_at" = some (some (.ref f19)))
    (l19 : K.lookup f19 = some ⟨oc19, od19, .func (PySem.W.fnOf "doing_at" "doing_at" (defArgs (topS 15)) (defBody (topS 15)) (defScope (topS 15)) .none kV19 dc19 pm19 an19 cd19 ct19), sl19⟩)
    (c19 : PySem.W.codeIn K cd19 "doing_at" = true) (k19 : PySem.W.keepIn K (.ref f19) = true)
    (a20 : PySem.W.nsIn K mainGlobals "_copied" = some (some (.ref f20)))
    (l20 : K.lookup f20 = some ⟨oc20, od20, .func (PySem.W.fnOf "_copied" "_copied" (defArgs (topS 21)) (defBody (topS 21)) (defScope (topS 21)) .none kV20 dc20 pm20 an20 cd20 ct20), sl20⟩)
    (c20 : PySem.W.codeIn K cd20 "_copied" = true) (k20 : PySem.W.keepIn K (.ref f20) = true)
    (a21 : PySem.W.nsIn K mainGlobals "source" = some (some (.ref f21)))
    (l21 : K.lookup f21 = some ⟨oc21, od21, .func (PySem.W.fnOf "source" "source" (defArgs (topS 23)) (defBody (topS 23)) (defScope (topS 23)) .none kV21 dc21 pm21 an21 cd21 ct21), sl21⟩)
    (c21 : PySem.W.codeIn K cd21 "source" = true) (k21 : PySem.W.keepIn K (.ref f21) = true)
    (a22 : PySem.W.nsIn K mainGlobals "_law_bag" = some (some (.ref f22)))
    (l22 : K.lookup f22 = some ⟨oc22, od22, .func (PySem.W.fnOf "_law_bag" "_law_bag" (defArgs (topS 25)) (defBody (topS 25)) (defScope (topS 25)) .none kV22 dc22 pm22 an22 cd22 ct22), sl22⟩)
    (c22 : PySem.W.codeIn K cd22 "_law_bag" = true) (k22 : PySem.W.keepIn K (.ref f22) = true)
    (a23 : PySem.W.nsIn K mainGlobals "_law_pick" = some (some (.ref f23)))
    (l23 : K.lookup f23 = some ⟨oc23, od23, .func (PySem.W.fnOf "_law_pick" "_law_pick" (defArgs (topS 26)) (defBody (topS 26)) (defScope (topS 26)) .none kV23 dc23 pm23 an23 cd23 ct23), sl23⟩)
    (c23 : PySem.W.codeIn K cd23 "_law_pick" = true) (k23 : PySem.W.keepIn K (.ref f23) = true)
    (a24 : PySem.W.nsIn K mainGlobals "_law_turn" = some (some (.ref f24)))
    (l24 : K.lookup f24 = some ⟨oc24, od24, .func (PySem.W.fnOf "_law_turn" "_law_turn" (defArgs (topS 27)) (defBody (topS 27)) (defScope (topS 27)) .none kV24 dc24 pm24 an24 cd24 ct24), sl24⟩)
    (c24 : PySem.W.codeIn K cd24 "_law_turn" = true) (k24 : PySem.W.keepIn K (.ref f24) = true)
    (a25 : PySem.W.nsIn K mainGlobals "_law_rule" = some (some (.ref f25)))
    (l25 : K.lookup f25 = some ⟨oc25, od25, .func (PySem.W.fnOf "_law_rule" "_law_rule" (defArgs (topS 28)) (defBody (topS 28)) (defScope (topS 28)) .none kV25 dc25 pm25 an25 cd25 ct25), sl25⟩)
    (c25 : PySem.W.codeIn K cd25 "_law_rule" = true) (k25 : PySem.W.keepIn K (.ref f25) = true)
    (a26 : PySem.W.nsIn K mainGlobals "_law_common" = some (some (.ref f26)))
    (l26 : K.lookup f26 = some ⟨oc26, od26, .func (PySem.W.fnOf "_law_common" "_law_common" (defArgs (topS 29)) (defBody (topS 29)) (defScope (topS 29)) .none kV26 dc26 pm26 an26 cd26 ct26), sl26⟩)
    (c26 : PySem.W.codeIn K cd26 "_law_common" = true) (k26 : PySem.W.keepIn K (.ref f26) = true)
    (a27 : PySem.W.nsIn K mainGlobals "_law_clock" = some (some (.ref f27)))
    (l27 : K.lookup f27 = some ⟨oc27, od27, .func (PySem.W.fnOf "_law_clock" "_law_clock" (defArgs (topS 30)) (defBody (topS 30)) (defScope (topS 30)) .none kV27 dc27 pm27 an27 cd27 ct27), sl27⟩)
    (c27 : PySem.W.codeIn K cd27 "_law_clock" = true) (k27 : PySem.W.keepIn K (.ref f27) = true)
    (a28 : PySem.W.nsIn K mainGlobals "_law_tamed" = some (some (.ref f28)))
    (l28 : K.lookup f28 = some ⟨oc28, od28, .func (PySem.W.fnOf "_law_tamed" "_law_tamed" (defArgs (topS 31)) (defBody (topS 31)) (defScope (topS 31)) .none kV28 dc28 pm28 an28 cd28 ct28), sl28⟩)
    (c28 : PySem.W.codeIn K cd28 "_law_tamed" = true) (k28 : PySem.W.keepIn K (.ref f28) = true)
    (a29 : PySem.W.nsIn K mainGlobals "_law_web" = some (some (.ref f29)))
    (l29 : K.lookup f29 = some ⟨oc29, od29, .func (PySem.W.fnOf "_law_web" "_law_web" (defArgs (topS 32)) (defBody (topS 32)) (defScope (topS 32)) .none kV29 dc29 pm29 an29 cd29 ct29), sl29⟩)
    (c29 : PySem.W.codeIn K cd29 "_law_web" = true) (k29 : PySem.W.keepIn K (.ref f29) = true)
    (a30 : PySem.W.nsIn K mainGlobals "_law_far" = some (some (.ref f30)))
    (l30 : K.lookup f30 = some ⟨oc30, od30, .func (PySem.W.fnOf "_law_far" "_law_far" (defArgs (topS 33)) (defBody (topS 33)) (defScope (topS 33)) .none kV30 dc30 pm30 an30 cd30 ct30), sl30⟩)
    (c30 : PySem.W.codeIn K cd30 "_law_far" = true) (k30 : PySem.W.keepIn K (.ref f30) = true)
    (a31 : PySem.W.nsIn K mainGlobals "_law_right" = some (some (.ref f31)))
    (l31 : K.lookup f31 = some ⟨oc31, od31, .func (PySem.W.fnOf "_law_right" "_law_right" (defArgs (topS 34)) (defBody (topS 34)) (defScope (topS 34)) .none kV31 dc31 pm31 an31 cd31 ct31), sl31⟩)
    (c31 : PySem.W.codeIn K cd31 "_law_right" = true) (k31 : PySem.W.keepIn K (.ref f31) = true)
    (m32 : PySem.W.findIn K (.ref C0) "back" = some (some (.ref f32))) (i32 : PySem.W.isFn K (.ref f32) = true)
    (l32 : K.lookup f32 = some ⟨oc32, od32, .func (PySem.W.fnOf "back" "Ways.back" (defArgs (clsS (topS 13) 2)) (defBody (clsS (topS 13) 2)) (defScope (clsS (topS 13) 2)) (.ref DT32) kV32 dc32 pm32 an32 cd32 ct32), sl32⟩)
    (p32 : K.lookup DT32 = some ⟨toc32, tod32, .seq #[.int 0 tt32] tm32, tsl32⟩)
    (c32 : PySem.W.codeIn K cd32 "Ways.back" = true) (k32 : PySem.W.keepIn K (.ref f32) = true)
    (a33 : PySem.W.nsIn K mainGlobals "trace" = some (some (.ref f33)))
    (l33 : K.lookup f33 = some ⟨oc33, od33, .func (PySem.W.fnOf "trace" "trace" (defArgs (topS 22)) (defBody (topS 22)) (defScope (topS 22)) .none (.ref DT33) dc33 pm33 an33 cd33 ct33), sl33⟩)
    (p33 : PySem.W.nsIn K DT33 "most" = some (some (.int 500 tt33)))
    (c33 : PySem.W.codeIn K cd33 "trace" = true) (k33 : PySem.W.keepIn K (.ref f33) = true)
    (a34 : PySem.W.nsIn K mainGlobals "law" = some (some (.ref f34)))
    (l34 : K.lookup f34 = some ⟨oc34, od34, .func (PySem.W.fnOf "law" "law" (defArgs (topS 35)) (defBody (topS 35)) (defScope (topS 35)) .none kV34 dc34 pm34 an34 cd34 ct34), sl34⟩)
    (c34 : PySem.W.codeIn K cd34 "law" = true) (k34 : PySem.W.keepIn K (.ref f34) = true)
    (n0 : PySem.W.findIn K (.ref C0) "rules" = some none)
    (n1 : PySem.W.findIn K (.ref C0) "beats" = some none)
    (n2 : PySem.W.findIn K (.ref C0) "web" = some none)
    (z0 : PySem.W.nsIn K mainGlobals "tuple" = some none)
    (z1 : PySem.W.nsIn K mainGlobals "range" = some none)
    (z2 : PySem.W.nsIn K mainGlobals "len" = some none)
    (z3 : PySem.W.nsIn K mainGlobals "enumerate" = some none)
    (z4 : PySem.W.nsIn K mainGlobals "sum" = some none)
    (z5 : PySem.W.nsIn K mainGlobals "reversed" = some none)
    (z6 : PySem.W.nsIn K mainGlobals "max" = some none)
    (z7 : PySem.W.nsIn K mainGlobals "list" = some none)
    (z8 : PySem.W.nsIn K mainGlobals "int" = some none)
    (y0 : PySem.W.nsIn K mainGlobals "lcm" = some (some (.builtin "math.lcm")))
    (fu lv : Nat) : ∃ fd : FuncData, (∀ (s : Shared) (v : Value), BindsTo s fd ⟨[v], []⟩ [("script", v)]) ∧ ∀ base : Heap, K.In base → base.Ns mainGlobals mg → FnG P w K mg base (2 * lv + 2) fa fd ["script"] (spF K 1 (Phi fu TT (lv + 1) "law")) := by
  have T0 : ClsT K "Ways" C0 := cls_mk q0 r0 s0 u0 v0
  have S34 : ∀ e ∈ [db_law], Stands K mg e := stands_cons (stand_mk (d := db_law) X G (fun a k => ⟨a, k⟩) a34 l34 c34 k34 (bind_all rfl (fun us hl => match us, hl with | [_], _ => rfl))) stands_nil
  have S33 : ∀ e ∈ [db_trace_3, db_law], Stands K mg e := stands_cons (stand_mk (d := db_trace_3) X G (fun a k => ⟨a, k⟩) a33 l33 c33 k33 (bind_k1 rfl p33 (fun _ _ _ _ _ _ us hl => match us, hl with | [_, _, _], _ => ⟨_, _, _, _, _, _, rfl, rfl, rfl⟩) (by decide))) S34
  have S32 : ∀ e ∈ [db_Ways_back_3, db_trace_3, db_law], Stands K mg e := stands_cons (stand_me (d := db_Ways_back_3) rfl T0 m32 i32 l32 c32 k32 (bind_d1 rfl p32 (fun _ _ _ _ _ _ us hl => match us, hl with | [_, _, _], _ => ⟨_, rfl, rfl⟩) (by decide))) S33
  have S31 : ∀ e ∈ [db_law_right, db_Ways_back_3, db_trace_3, db_law], Stands K mg e := stands_cons (stand_mk (d := db_law_right) X G (fun a k => ⟨a, k⟩) a31 l31 c31 k31 (bind_all rfl (fun us hl => match us, hl with | [_, _, _], _ => rfl))) S32
  have S30 : ∀ e ∈ [db_law_far, db_law_right, db_Ways_back_3, db_trace_3, db_law], Stands K mg e := stands_cons (stand_mk (d := db_law_far) X G (fun a k => ⟨a, k⟩) a30 l30 c30 k30 (bind_all rfl (fun us hl => match us, hl with | [_], _ => rfl))) S31
  have S29 : ∀ e ∈ [db_law_web, db_law_far, db_law_right, db_Ways_back_3, db_trace_3, db_law], Stands K mg e := stands_cons (stand_mk (d := db_law_web) X G (fun a k => ⟨a, k⟩) a29 l29 c29 k29 (bind_all rfl (fun us hl => match us, hl with | [_], _ => rfl))) S30
  have S28 : ∀ e ∈ [db_law_tamed, db_law_web, db_law_far, db_law_right, db_Ways_back_3, db_trace_3, db_law], Stands K mg e := stands_cons (stand_mk (d := db_law_tamed) X G (fun a k => ⟨a, k⟩) a28 l28 c28 k28 (bind_all rfl (fun us hl => match us, hl with | [_], _ => rfl))) S29
  have S27 : ∀ e ∈ [db_law_clock, db_law_tamed, db_law_web, db_law_far, db_law_right, db_Ways_back_3, db_trace_3, db_law], Stands K mg e := stands_cons (stand_mk (d := db_law_clock) X G (fun a k => ⟨a, k⟩) a27 l27 c27 k27 (bind_all rfl (fun us hl => match us, hl with | [_], _ => rfl))) S28
  have S26 : ∀ e ∈ [db_law_common, db_law_clock, db_law_tamed, db_law_web, db_law_far, db_law_right, db_Ways_back_3, db_trace_3, db_law], Stands K mg e := stands_cons (stand_mk (d := db_law_common) X G (fun a k => ⟨a, k⟩) a26 l26 c26 k26 (bind_all rfl (fun us hl => match us, hl with | [_, _], _ => rfl))) S27
  have S25 : ∀ e ∈ [db_law_rule, db_law_common, db_law_clock, db_law_tamed, db_law_web, db_law_far, db_law_right, db_Ways_back_3, db_trace_3, db_law], Stands K mg e := stands_cons (stand_mk (d := db_law_rule) X G (fun a k => ⟨a, k⟩) a25 l25 c25 k25 (bind_all rfl (fun us hl => match us, hl with | [_, _, _, _], _ => rfl))) S26
  have S24 : ∀ e ∈ [db_law_turn, db_law_rule, db_law_common, db_law_clock, db_law_tamed, db_law_web, db_law_far, db_law_right, db_Ways_back_3, db_trace_3, db_law], Stands K mg e := stands_cons (stand_mk (d := db_law_turn) X G (fun a k => ⟨a, k⟩) a24 l24 c24 k24 (bind_all rfl (fun us hl => match us, hl with | [_, _], _ => rfl))) S25
  have S23 : ∀ e ∈ [db_law_pick, db_law_turn, db_law_rule, db_law_common, db_law_clock, db_law_tamed, db_law_web, db_law_far, db_law_right, db_Ways_back_3, db_trace_3, db_law], Stands K mg e := stands_cons (stand_mk (d := db_law_pick) X G (fun a k => ⟨a, k⟩) a23 l23 c23 k23 (bind_all rfl (fun us hl => match us, hl with | [_, _], _ => rfl))) S24
  have S22 : ∀ e ∈ [db_law_bag, db_law_pick, db_law_turn, db_law_rule, db_law_common, db_law_clock, db_law_tamed, db_law_web, db_law_far, db_law_right, db_Ways_back_3, db_trace_3, db_law], Stands K mg e := stands_cons (stand_mk (d := db_law_bag) X G (fun a k => ⟨a, k⟩) a22 l22 c22 k22 (bind_all rfl (fun us hl => match us, hl with | [_], _ => rfl))) S23
  have S21 : ∀ e ∈ [db_source, db_law_bag, db_law_pick, db_law_turn, db_law_rule, db_law_common, db_law_clock, db_law_tamed, db_law_web, db_law_far, db_law_right, db_Ways_back_3, db_trace_3, db_law], Stands K mg e := stands_cons (stand_mk (d := db_source) X G (fun a k => ⟨a, k⟩) a21 l21 c21 k21 (bind_all rfl (fun us hl => match us, hl with | [_, _, _], _ => rfl))) S22
  have S20 : ∀ e ∈ [db_copied, db_source, db_law_bag, db_law_pick, db_law_turn, db_law_rule, db_law_common, db_law_clock, db_law_tamed, db_law_web, db_law_far, db_law_right, db_Ways_back_3, db_trace_3, db_law], Stands K mg e := stands_cons (stand_mk (d := db_copied) X G (fun a k => ⟨a, k⟩) a20 l20 c20 k20 (bind_all rfl (fun us hl => match us, hl with | [_, _, _], _ => rfl))) S21
  have S19 : ∀ e ∈ [db_doing_at, db_copied, db_source, db_law_bag, db_law_pick, db_law_turn, db_law_rule, db_law_common, db_law_clock, db_law_tamed, db_law_web, db_law_far, db_law_right, db_Ways_back_3, db_trace_3, db_law], Stands K mg e := stands_cons (stand_mk (d := db_doing_at) X G (fun a k => ⟨a, k⟩) a19 l19 c19 k19 (bind_all rfl (fun us hl => match us, hl with | [_, _, _], _ => rfl))) S20
  have S18 : ∀ e ∈ [db_Ways__changed, db_doing_at, db_copied, db_source, db_law_bag, db_law_pick, db_law_turn, db_law_rule, db_law_common, db_law_clock, db_law_tamed, db_law_web, db_law_far, db_law_right, db_Ways_back_3, db_trace_3, db_law], Stands K mg e := stands_cons (stand_me (d := db_Ways__changed) rfl T0 m18 i18 l18 c18 k18 (bind_all rfl (fun us hl => match us, hl with | [_, _, _, _], _ => rfl))) S19
  have S17 : ∀ e ∈ [db_Ways_doing, db_Ways__changed, db_doing_at, db_copied, db_source, db_law_bag, db_law_pick, db_law_turn, db_law_rule, db_law_common, db_law_clock, db_law_tamed, db_law_web, db_law_far, db_law_right, db_Ways_back_3, db_trace_3, db_law], Stands K mg e := stands_cons (stand_me (d := db_Ways_doing) rfl T0 m17 i17 l17 c17 k17 (bind_all rfl (fun us hl => match us, hl with | [_, _, _], _ => rfl))) S18
  have S16 : ∀ e ∈ [db_Ways_led_on, db_Ways_doing, db_Ways__changed, db_doing_at, db_copied, db_source, db_law_bag, db_law_pick, db_law_turn, db_law_rule, db_law_common, db_law_clock, db_law_tamed, db_law_web, db_law_far, db_law_right, db_Ways_back_3, db_trace_3, db_law], Stands K mg e := stands_cons (stand_me (d := db_Ways_led_on) rfl T0 m16 i16 l16 c16 k16 (bind_all rfl (fun us hl => match us, hl with | [_, _, _], _ => rfl))) S17
  have S15 : ∀ e ∈ [db_Ways_begun, db_Ways_led_on, db_Ways_doing, db_Ways__changed, db_doing_at, db_copied, db_source, db_law_bag, db_law_pick, db_law_turn, db_law_rule, db_law_common, db_law_clock, db_law_tamed, db_law_web, db_law_far, db_law_right, db_Ways_back_3, db_trace_3, db_law], Stands K mg e := stands_cons (stand_me (d := db_Ways_begun) rfl T0 m15 i15 l15 c15 k15 (bind_all rfl (fun us hl => match us, hl with | [_, _, _], _ => rfl))) S16
  have S14 : ∀ e ∈ [db_Ways_turn_of_all, db_Ways_begun, db_Ways_led_on, db_Ways_doing, db_Ways__changed, db_doing_at, db_copied, db_source, db_law_bag, db_law_pick, db_law_turn, db_law_rule, db_law_common, db_law_clock, db_law_tamed, db_law_web, db_law_far, db_law_right, db_Ways_back_3, db_trace_3, db_law], Stands K mg e := stands_cons (stand_me (d := db_Ways_turn_of_all) rfl T0 m14 i14 l14 c14 k14 (bind_all rfl (fun us hl => match us, hl with | [_, _], _ => rfl))) S15
  have S13 : ∀ e ∈ [db_Ways_turn, db_Ways_turn_of_all, db_Ways_begun, db_Ways_led_on, db_Ways_doing, db_Ways__changed, db_doing_at, db_copied, db_source, db_law_bag, db_law_pick, db_law_turn, db_law_rule, db_law_common, db_law_clock, db_law_tamed, db_law_web, db_law_far, db_law_right, db_Ways_back_3, db_trace_3, db_law], Stands K mg e := stands_cons (stand_me (d := db_Ways_turn) rfl T0 m13 i13 l13 c13 k13 (bind_all rfl (fun us hl => match us, hl with | [_, _], _ => rfl))) S14
  have S12 : ∀ e ∈ [db_Ways__what, db_Ways_turn, db_Ways_turn_of_all, db_Ways_begun, db_Ways_led_on, db_Ways_doing, db_Ways__changed, db_doing_at, db_copied, db_source, db_law_bag, db_law_pick, db_law_turn, db_law_rule, db_law_common, db_law_clock, db_law_tamed, db_law_web, db_law_far, db_law_right, db_Ways_back_3, db_trace_3, db_law], Stands K mg e := stands_cons (stand_me (d := db_Ways__what) rfl T0 m12 i12 l12 c12 k12 (bind_all rfl (fun us hl => match us, hl with | [_, _], _ => rfl))) S13
  have S11 : ∀ e ∈ [db_Ways__round, db_Ways__what, db_Ways_turn, db_Ways_turn_of_all, db_Ways_begun, db_Ways_led_on, db_Ways_doing, db_Ways__changed, db_doing_at, db_copied, db_source, db_law_bag, db_law_pick, db_law_turn, db_law_rule, db_law_common, db_law_clock, db_law_tamed, db_law_web, db_law_far, db_law_right, db_Ways_back_3, db_trace_3, db_law], Stands K mg e := stands_cons (stand_me (d := db_Ways__round) rfl T0 m11 i11 l11 c11 k11 (bind_all rfl (fun us hl => match us, hl with | [_, _, _, _, _], _ => rfl))) S12
  have S10 : ∀ e ∈ [db_Ways_rule, db_Ways__round, db_Ways__what, db_Ways_turn, db_Ways_turn_of_all, db_Ways_begun, db_Ways_led_on, db_Ways_doing, db_Ways__changed, db_doing_at, db_copied, db_source, db_law_bag, db_law_pick, db_law_turn, db_law_rule, db_law_common, db_law_clock, db_law_tamed, db_law_web, db_law_far, db_law_right, db_Ways_back_3, db_trace_3, db_law], Stands K mg e := stands_cons (stand_me (d := db_Ways_rule) rfl T0 m10 i10 l10 c10 k10 (bind_all rfl (fun us hl => match us, hl with | [_, _, _], _ => rfl))) S11
  have S9 : ∀ e ∈ [db_Ways___init__, db_Ways_rule, db_Ways__round, db_Ways__what, db_Ways_turn, db_Ways_turn_of_all, db_Ways_begun, db_Ways_led_on, db_Ways_doing, db_Ways__changed, db_doing_at, db_copied, db_source, db_law_bag, db_law_pick, db_law_turn, db_law_rule, db_law_common, db_law_clock, db_law_tamed, db_law_web, db_law_far, db_law_right, db_Ways_back_3, db_trace_3, db_law], Stands K mg e := stands_cons (stand_ini (d := db_Ways___init__) X G rfl T0 w0 m9 i9 x0 l9 c9 k9 (bind_all rfl (fun us hl => match us, hl with | [_, _], _ => rfl))) S10
  have S8 : ∀ e ∈ [db_copies_in, db_Ways___init__, db_Ways_rule, db_Ways__round, db_Ways__what, db_Ways_turn, db_Ways_turn_of_all, db_Ways_begun, db_Ways_led_on, db_Ways_doing, db_Ways__changed, db_doing_at, db_copied, db_source, db_law_bag, db_law_pick, db_law_turn, db_law_rule, db_law_common, db_law_clock, db_law_tamed, db_law_web, db_law_far, db_law_right, db_Ways_back_3, db_trace_3, db_law], Stands K mg e := stands_cons (stand_mk (d := db_copies_in) X G (fun a k => ⟨a, k⟩) a8 l8 c8 k8 (bind_all rfl (fun us hl => match us, hl with | [_], _ => rfl))) S9
  have S7 : ∀ e ∈ [db_own_doing, db_copies_in, db_Ways___init__, db_Ways_rule, db_Ways__round, db_Ways__what, db_Ways_turn, db_Ways_turn_of_all, db_Ways_begun, db_Ways_led_on, db_Ways_doing, db_Ways__changed, db_doing_at, db_copied, db_source, db_law_bag, db_law_pick, db_law_turn, db_law_rule, db_law_common, db_law_clock, db_law_tamed, db_law_web, db_law_far, db_law_right, db_Ways_back_3, db_trace_3, db_law], Stands K mg e := stands_cons (stand_mk (d := db_own_doing) X G (fun a k => ⟨a, k⟩) a7 l7 c7 k7 (bind_all rfl (fun us hl => match us, hl with | [_, _], _ => rfl))) S8
  have S6 : ∀ e ∈ [db_rule_at, db_own_doing, db_copies_in, db_Ways___init__, db_Ways_rule, db_Ways__round, db_Ways__what, db_Ways_turn, db_Ways_turn_of_all, db_Ways_begun, db_Ways_led_on, db_Ways_doing, db_Ways__changed, db_doing_at, db_copied, db_source, db_law_bag, db_law_pick, db_law_turn, db_law_rule, db_law_common, db_law_clock, db_law_tamed, db_law_web, db_law_far, db_law_right, db_Ways_back_3, db_trace_3, db_law], Stands K mg e := stands_cons (stand_mk (d := db_rule_at) X G (fun a k => ⟨a, k⟩) a6 l6 c6 k6 (bind_all rfl (fun us hl => match us, hl with | [_, _, _], _ => rfl))) S7
  have S5 : ∀ e ∈ [db_clock, db_rule_at, db_own_doing, db_copies_in, db_Ways___init__, db_Ways_rule, db_Ways__round, db_Ways__what, db_Ways_turn, db_Ways_turn_of_all, db_Ways_begun, db_Ways_led_on, db_Ways_doing, db_Ways__changed, db_doing_at, db_copied, db_source, db_law_bag, db_law_pick, db_law_turn, db_law_rule, db_law_common, db_law_clock, db_law_tamed, db_law_web, db_law_far, db_law_right, db_Ways_back_3, db_trace_3, db_law], Stands K mg e := stands_cons (stand_mk (d := db_clock) X G (fun a k => ⟨a, k⟩) a5 l5 c5 k5 (bind_all rfl (fun us hl => match us, hl with | [_], _ => rfl))) S6
  have S4 : ∀ e ∈ [db_rule_clock, db_clock, db_rule_at, db_own_doing, db_copies_in, db_Ways___init__, db_Ways_rule, db_Ways__round, db_Ways__what, db_Ways_turn, db_Ways_turn_of_all, db_Ways_begun, db_Ways_led_on, db_Ways_doing, db_Ways__changed, db_doing_at, db_copied, db_source, db_law_bag, db_law_pick, db_law_turn, db_law_rule, db_law_common, db_law_clock, db_law_tamed, db_law_web, db_law_far, db_law_right, db_Ways_back_3, db_trace_3, db_law], Stands K mg e := stands_cons (stand_mk (d := db_rule_clock) X G (fun a k => ⟨a, k⟩) a4 l4 c4 k4 (bind_all rfl (fun us hl => match us, hl with | [_], _ => rfl))) S5
  have S3 : ∀ e ∈ [db_often, db_rule_clock, db_clock, db_rule_at, db_own_doing, db_copies_in, db_Ways___init__, db_Ways_rule, db_Ways__round, db_Ways__what, db_Ways_turn, db_Ways_turn_of_all, db_Ways_begun, db_Ways_led_on, db_Ways_doing, db_Ways__changed, db_doing_at, db_copied, db_source, db_law_bag, db_law_pick, db_law_turn, db_law_rule, db_law_common, db_law_clock, db_law_tamed, db_law_web, db_law_far, db_law_right, db_Ways_back_3, db_trace_3, db_law], Stands K mg e := stands_cons (stand_mk (d := db_often) X G (fun a k => ⟨a, k⟩) a3 l3 c3 k3 (bind_all rfl (fun us hl => match us, hl with | [_, _, _], _ => rfl))) S4
  have S2 : ∀ e ∈ [db_power, db_often, db_rule_clock, db_clock, db_rule_at, db_own_doing, db_copies_in, db_Ways___init__, db_Ways_rule, db_Ways__round, db_Ways__what, db_Ways_turn, db_Ways_turn_of_all, db_Ways_begun, db_Ways_led_on, db_Ways_doing, db_Ways__changed, db_doing_at, db_copied, db_source, db_law_bag, db_law_pick, db_law_turn, db_law_rule, db_law_common, db_law_clock, db_law_tamed, db_law_web, db_law_far, db_law_right, db_Ways_back_3, db_trace_3, db_law], Stands K mg e := stands_cons (stand_mk (d := db_power) X G (fun a k => ⟨a, k⟩) a2 l2 c2 k2 (bind_all rfl (fun us hl => match us, hl with | [_, _], _ => rfl))) S3
  have S1 : ∀ e ∈ [db_staying, db_power, db_often, db_rule_clock, db_clock, db_rule_at, db_own_doing, db_copies_in, db_Ways___init__, db_Ways_rule, db_Ways__round, db_Ways__what, db_Ways_turn, db_Ways_turn_of_all, db_Ways_begun, db_Ways_led_on, db_Ways_doing, db_Ways__changed, db_doing_at, db_copied, db_source, db_law_bag, db_law_pick, db_law_turn, db_law_rule, db_law_common, db_law_clock, db_law_tamed, db_law_web, db_law_far, db_law_right, db_Ways_back_3, db_trace_3, db_law], Stands K mg e := stands_cons (stand_mk (d := db_staying) X G (fun a k => ⟨a, k⟩) a1 l1 c1 k1 (bind_all rfl (fun us hl => match us, hl with | [_], _ => rfl))) S2
  have S0 : ∀ e ∈ [db_after, db_staying, db_power, db_often, db_rule_clock, db_clock, db_rule_at, db_own_doing, db_copies_in, db_Ways___init__, db_Ways_rule, db_Ways__round, db_Ways__what, db_Ways_turn, db_Ways_turn_of_all, db_Ways_begun, db_Ways_led_on, db_Ways_doing, db_Ways__changed, db_doing_at, db_copied, db_source, db_law_bag, db_law_pick, db_law_turn, db_law_rule, db_law_common, db_law_clock, db_law_tamed, db_law_web, db_law_far, db_law_right, db_Ways_back_3, db_trace_3, db_law], Stands K mg e := stands_cons (stand_mk (d := db_after) X G (fun a k => ⟨a, k⟩) a0 l0 c0 k0 (bind_all rfl (fun us hl => match us, hl with | [_, _], _ => rfl))) S1
  exact end_of (ds := defs) (bs := bodies) (bts := bts) (cs := cs) (fls := fls) (dl := db_law) rfl looks (by simp [defs]) rfl rfl rfl rfl S0 (none_cons X G z0 (none_cons X G z1 (none_cons X G z2 (none_cons X G z3 (none_cons X G z4 (none_cons X G z5 (none_cons X G z6 (none_cons X G z7 (none_cons X G z8 none_nil))))))))) (cons_blt X G y0 cons_nil) (fls_cons T0 n0 (fls_cons T0 n1 (fls_cons T0 n2 fls_nil))) hfa
end AGL
namespace AGL
open PySem AG
def RightW (F : List D → M D) : Prop := ∀ (S : Sto) (w : We) (h b : Nat), WeOk w → h < w.hands.length → b ≤ 10 ^ 18 → Ok (F [dWe w, .int (h : Nat), .int (b : Nat)]) S fun d S' => d = .bl true ∧ Fr S.length S S'
def CopdW (F : List D → M D) : Prop := ∀ (S : Sto) (w : We) (h : Nat) (b : Int), WeOk w → h < w.hands.length → b ≤ 10 ^ 18 → Ok (F [dWe w, .int (h : Nat), .int b]) S fun d S' => S' = S ∧ ((Stop w h b ∧ d = .non) ∨ (0 ≤ b ∧ ∃ h2 a t, (ruA w h (noAt w h b)).wh = .cop h2 a t ∧ d = .tup [.int (h2 : Nat), .int (b - (a : Nat))]))
def TraW (F : List D → M D) : Prop := ∀ (S : Sto) (w : We) (h b : Nat), WeOk w → h < w.hands.length → b ≤ 400 → Ok (F [dWe w, .int (h : Nat), .int (b : Nat)]) S fun d S' => ∃ rows h' b' k xs, Go w h (b : Nat) rows h' b' ∧ Stop w h' b' ∧ d = .ref k ∧ S'[k]? = some (some xs) ∧ xs.length = rows.length + 1 ∧ xs[rows.length]? = some (.tup [.int (h' : Nat), .int b']) ∧ Fr S.length S S' ∧ rows.length ≤ 401
section
variable {Φ : String → List D → M D} {fu : Nat}
theorem right_run (hr : RatW (Φ "rule_at")) (hs : SrcW (Φ "source")) (hd' : DatW (Φ "doing_at")) (ha : AfterW (Φ "after")) : RightW (runF Φ fu 15 b_law_right) := by
  intro S w h b hw hh hb
  have hm9 := hw.m9
  have hno := noAt_lt hw hh (b : Nat)
  have hru := ruA_ok hw hh hno
  have hx := hru.wh
  have hev1 := hru.e1
  have hev12 := hru.e12
  simp only [b_law_right, dWe, runF, exs, ex, ev, evs, evt, evo, evi, evc, ok_bnd, ok_ret', ok_getV, ok_getC, ok_setC, ok_opt, ok_need, ok_ite, ok_mkLf, ok_mkLt, ok_notB, List.map_cons, List.map_nil, List.replicate_zero, List.replicate_succ, List.length_cons, List.length_nil, List.cons_append, List.nil_append, Nat.reduceSub, Nat.reduceAdd, List.getElem?_cons_zero, List.getElem?_cons_succ, Option.some.injEq, exists_eq_left', ixD_i, setIx_ri, appD_r, isC_r, items_tup, items_lst, items_fro, items_ref, tru_b, tru_i, b_add, b_sub, b_mul, b_div, b_mod, b_pow, b_band, addD_ii, subD_ii, mulD_ii, modD_ii, divD_ii, powD_ii, bandD_ii, addD_tt, addD_ll, c_eq, c_ne, c_lt, c_le, c_gt, c_ge, c_is, c_isn, isD_bb, eqD_ii, eqD_ss, eqD_bb, ltD_ii, leD_ii, bi_len, bi_max, bi_min, bi_tup, bi_lst, bi_repr, bi_all, maxB_ii, minB_ii, lenB_1, tupB_1, lstB_1, reprB_1, allB_1, slD_t, slD_l, slD_f, slD_r, ints2_ii, popD_ri, AG.wipeD, asg_n, asg_t, asg_p, AG.setAll, atI_0, atI_1, atI_2, atI_3, ixN_30, ixN_31, ixN_32, List.set_cons_zero, List.set_cons_succ, List.getElem?_set_self, List.length_set, Bool.and_eq_true, decide_eq_true_eq, decide_eq_false_iff_not, bne_iff_ne, bne_eq_false_iff_eq, Int.toNat_natCast]
  rw [hands_at hh]
  refine ⟨_, rfl, ?_⟩
  try simp only [runF, exs, ex, ev, evs, evt, evo, evi, evc, ok_bnd, ok_ret', ok_getV, ok_getC, ok_setC, ok_opt, ok_need, ok_ite, ok_mkLf, ok_mkLt, ok_notB, List.map_cons, List.map_nil, List.replicate_zero, List.replicate_succ, List.length_cons, List.length_nil, List.cons_append, List.nil_append, Nat.reduceSub, Nat.reduceAdd, List.getElem?_cons_zero, List.getElem?_cons_succ, Option.some.injEq, exists_eq_left', ixD_i, setIx_ri, appD_r, isC_r, items_tup, items_lst, items_fro, items_ref, tru_b, tru_i, b_add, b_sub, b_mul, b_div, b_mod, b_pow, b_band, addD_ii, subD_ii, mulD_ii, modD_ii, divD_ii, powD_ii, bandD_ii, addD_tt, addD_ll, c_eq, c_ne, c_lt, c_le, c_gt, c_ge, c_is, c_isn, isD_bb, eqD_ii, eqD_ss, eqD_bb, ltD_ii, leD_ii, bi_len, bi_max, bi_min, bi_tup, bi_lst, bi_repr, bi_all, maxB_ii, minB_ii, lenB_1, tupB_1, lstB_1, reprB_1, allB_1, slD_t, slD_l, slD_f, slD_r, ints2_ii, popD_ri, AG.wipeD, asg_n, asg_t, asg_p, AG.setAll, atI_0, atI_1, atI_2, atI_3, ixN_30, ixN_31, ixN_32, List.set_cons_zero, List.set_cons_succ, List.getElem?_set_self, List.length_set, Bool.and_eq_true, decide_eq_true_eq, decide_eq_false_iff_not, bne_iff_ne, bne_eq_false_iff_eq, Int.toNat_natCast]
  refine (hr S w h (hd w h) (b : Nat) hw (hd_mem hh)).mono fun d S1 ⟨e1, e2⟩ => ?_
  subst e1 e2
  try simp only [runF, exs, ex, ev, evs, evt, evo, evi, evc, ok_bnd, ok_ret', ok_getV, ok_getC, ok_setC, ok_opt, ok_need, ok_ite, ok_mkLf, ok_mkLt, ok_notB, List.map_cons, List.map_nil, List.replicate_zero, List.replicate_succ, List.length_cons, List.length_nil, List.cons_append, List.nil_append, Nat.reduceSub, Nat.reduceAdd, List.getElem?_cons_zero, List.getElem?_cons_succ, Option.some.injEq, exists_eq_left', ixD_i, setIx_ri, appD_r, isC_r, items_tup, items_lst, items_fro, items_ref, tru_b, tru_i, b_add, b_sub, b_mul, b_div, b_mod, b_pow, b_band, addD_ii, subD_ii, mulD_ii, modD_ii, divD_ii, powD_ii, bandD_ii, addD_tt, addD_ll, c_eq, c_ne, c_lt, c_le, c_gt, c_ge, c_is, c_isn, isD_bb, eqD_ii, eqD_ss, eqD_bb, ltD_ii, leD_ii, bi_len, bi_max, bi_min, bi_tup, bi_lst, bi_repr, bi_all, maxB_ii, minB_ii, lenB_1, tupB_1, lstB_1, reprB_1, allB_1, slD_t, slD_l, slD_f, slD_r, ints2_ii, popD_ri, AG.wipeD, asg_n, asg_t, asg_p, AG.setAll, atI_0, atI_1, atI_2, atI_3, ixN_30, ixN_31, ixN_32, List.set_cons_zero, List.set_cons_succ, List.getElem?_set_self, List.length_set, Bool.and_eq_true, decide_eq_true_eq, decide_eq_false_iff_not, bne_iff_ne, bne_eq_false_iff_eq, Int.toNat_natCast]
  rw [show ruleNo (hd w h) (b : Nat) = noAt w h (b : Nat) from rfl, rules_at hno]
  refine ⟨_, rfl, ?_⟩
  try simp only [dR, runF, exs, ex, ev, evs, evt, evo, evi, evc, ok_bnd, ok_ret', ok_getV, ok_getC, ok_setC, ok_opt, ok_need, ok_ite, ok_mkLf, ok_mkLt, ok_notB, List.map_cons, List.map_nil, List.replicate_zero, List.replicate_succ, List.length_cons, List.length_nil, List.cons_append, List.nil_append, Nat.reduceSub, Nat.reduceAdd, List.getElem?_cons_zero, List.getElem?_cons_succ, Option.some.injEq, exists_eq_left', ixD_i, setIx_ri, appD_r, isC_r, items_tup, items_lst, items_fro, items_ref, tru_b, tru_i, b_add, b_sub, b_mul, b_div, b_mod, b_pow, b_band, addD_ii, subD_ii, mulD_ii, modD_ii, divD_ii, powD_ii, bandD_ii, addD_tt, addD_ll, c_eq, c_ne, c_lt, c_le, c_gt, c_ge, c_is, c_isn, isD_bb, eqD_ii, eqD_ss, eqD_bb, ltD_ii, leD_ii, bi_len, bi_max, bi_min, bi_tup, bi_lst, bi_repr, bi_all, maxB_ii, minB_ii, lenB_1, tupB_1, lstB_1, reprB_1, allB_1, slD_t, slD_l, slD_f, slD_r, ints2_ii, popD_ri, AG.wipeD, asg_n, asg_t, asg_p, AG.setAll, atI_0, atI_1, atI_2, atI_3, ixN_30, ixN_31, ixN_32, List.set_cons_zero, List.set_cons_succ, List.getElem?_set_self, List.length_set, Bool.and_eq_true, decide_eq_true_eq, decide_eq_false_iff_not, bne_iff_ne, bne_eq_false_iff_eq, Int.toNat_natCast]
  refine (hd' S1 w h (b : Nat) hw hh (by omega)).mono fun d S2 ⟨rows, h', b', g, st, e1, f2⟩ => ?_
  subst e1
  try simp only [runF, exs, ex, ev, evs, evt, evo, evi, evc, ok_bnd, ok_ret', ok_getV, ok_getC, ok_setC, ok_opt, ok_need, ok_ite, ok_mkLf, ok_mkLt, ok_notB, List.map_cons, List.map_nil, List.replicate_zero, List.replicate_succ, List.length_cons, List.length_nil, List.cons_append, List.nil_append, Nat.reduceSub, Nat.reduceAdd, List.getElem?_cons_zero, List.getElem?_cons_succ, Option.some.injEq, exists_eq_left', ixD_i, setIx_ri, appD_r, isC_r, items_tup, items_lst, items_fro, items_ref, tru_b, tru_i, b_add, b_sub, b_mul, b_div, b_mod, b_pow, b_band, addD_ii, subD_ii, mulD_ii, modD_ii, divD_ii, powD_ii, bandD_ii, addD_tt, addD_ll, c_eq, c_ne, c_lt, c_le, c_gt, c_ge, c_is, c_isn, isD_bb, eqD_ii, eqD_ss, eqD_bb, ltD_ii, leD_ii, bi_len, bi_max, bi_min, bi_tup, bi_lst, bi_repr, bi_all, maxB_ii, minB_ii, lenB_1, tupB_1, lstB_1, reprB_1, allB_1, slD_t, slD_l, slD_f, slD_r, ints2_ii, popD_ri, AG.wipeD, asg_n, asg_t, asg_p, AG.setAll, atI_0, atI_1, atI_2, atI_3, ixN_30, ixN_31, ixN_32, List.set_cons_zero, List.set_cons_succ, List.getElem?_set_self, List.length_set, Bool.and_eq_true, decide_eq_true_eq, decide_eq_false_iff_not, bne_iff_ne, bne_eq_false_iff_eq, Int.toNat_natCast]
  refine hs.way g st hw hh (by omega) fun S3 f3 => ?_
  try simp only [runF, exs, ex, ev, evs, evt, evo, evi, evc, ok_bnd, ok_ret', ok_getV, ok_getC, ok_setC, ok_opt, ok_need, ok_ite, ok_mkLf, ok_mkLt, ok_notB, List.map_cons, List.map_nil, List.replicate_zero, List.replicate_succ, List.length_cons, List.length_nil, List.cons_append, List.nil_append, Nat.reduceSub, Nat.reduceAdd, List.getElem?_cons_zero, List.getElem?_cons_succ, Option.some.injEq, exists_eq_left', ixD_i, setIx_ri, appD_r, isC_r, items_tup, items_lst, items_fro, items_ref, tru_b, tru_i, b_add, b_sub, b_mul, b_div, b_mod, b_pow, b_band, addD_ii, subD_ii, mulD_ii, modD_ii, divD_ii, powD_ii, bandD_ii, addD_tt, addD_ll, c_eq, c_ne, c_lt, c_le, c_gt, c_ge, c_is, c_isn, isD_bb, eqD_ii, eqD_ss, eqD_bb, ltD_ii, leD_ii, bi_len, bi_max, bi_min, bi_tup, bi_lst, bi_repr, bi_all, maxB_ii, minB_ii, lenB_1, tupB_1, lstB_1, reprB_1, allB_1, slD_t, slD_l, slD_f, slD_r, ints2_ii, popD_ri, AG.wipeD, asg_n, asg_t, asg_p, AG.setAll, atI_0, atI_1, atI_2, atI_3, ixN_30, ixN_31, ixN_32, List.set_cons_zero, List.set_cons_succ, List.getElem?_set_self, List.length_set, Bool.and_eq_true, decide_eq_true_eq, decide_eq_false_iff_not, bne_iff_ne, bne_eq_false_iff_eq, Int.toNat_natCast]
  cases ew : (ruA w h (noAt w h (b : Nat))).wh with
  | own row =>
    rw [ew] at hx
    obtain ⟨r1, r6, rl⟩ := hx
    obtain ⟨q1, q2, q3⟩ := g.det st (.nil h (b : Nat)) (.inr ⟨row, ew⟩)
    subst q1 q2 q3
    try simp only [dW, runF, exs, ex, ev, evs, evt, evo, evi, evc, ok_bnd, ok_ret', ok_getV, ok_getC, ok_setC, ok_opt, ok_need, ok_ite, ok_mkLf, ok_mkLt, ok_notB, List.map_cons, List.map_nil, List.replicate_zero, List.replicate_succ, List.length_cons, List.length_nil, List.cons_append, List.nil_append, Nat.reduceSub, Nat.reduceAdd, List.getElem?_cons_zero, List.getElem?_cons_succ, Option.some.injEq, exists_eq_left', ixD_i, setIx_ri, appD_r, isC_r, items_tup, items_lst, items_fro, items_ref, tru_b, tru_i, b_add, b_sub, b_mul, b_div, b_mod, b_pow, b_band, addD_ii, subD_ii, mulD_ii, modD_ii, divD_ii, powD_ii, bandD_ii, addD_tt, addD_ll, c_eq, c_ne, c_lt, c_le, c_gt, c_ge, c_is, c_isn, isD_bb, eqD_ii, eqD_ss, eqD_bb, ltD_ii, leD_ii, bi_len, bi_max, bi_min, bi_tup, bi_lst, bi_repr, bi_all, maxB_ii, minB_ii, lenB_1, tupB_1, lstB_1, reprB_1, allB_1, slD_t, slD_l, slD_f, slD_r, ints2_ii, popD_ri, AG.wipeD, asg_n, asg_t, asg_p, AG.setAll, atI_0, atI_1, atI_2, atI_3, ixN_30, ixN_31, ixN_32, List.set_cons_zero, List.set_cons_succ, List.getElem?_set_self, List.length_set, Bool.and_eq_true, decide_eq_true_eq, decide_eq_false_iff_not, bne_iff_ne, bne_eq_false_iff_eq, Int.toNat_natCast]
    refine ⟨by decide, fun _ => ?_, fun z => absurd trivial z⟩
    try simp only [tN, runF, exs, ex, ev, evs, evt, evo, evi, evc, ok_bnd, ok_ret', ok_getV, ok_getC, ok_setC, ok_opt, ok_need, ok_ite, ok_mkLf, ok_mkLt, ok_notB, List.map_cons, List.map_nil, List.replicate_zero, List.replicate_succ, List.length_cons, List.length_nil, List.cons_append, List.nil_append, Nat.reduceSub, Nat.reduceAdd, List.getElem?_cons_zero, List.getElem?_cons_succ, Option.some.injEq, exists_eq_left', ixD_i, setIx_ri, appD_r, isC_r, items_tup, items_lst, items_fro, items_ref, tru_b, tru_i, b_add, b_sub, b_mul, b_div, b_mod, b_pow, b_band, addD_ii, subD_ii, mulD_ii, modD_ii, divD_ii, powD_ii, bandD_ii, addD_tt, addD_ll, c_eq, c_ne, c_lt, c_le, c_gt, c_ge, c_is, c_isn, isD_bb, eqD_ii, eqD_ss, eqD_bb, ltD_ii, leD_ii, bi_len, bi_max, bi_min, bi_tup, bi_lst, bi_repr, bi_all, maxB_ii, minB_ii, lenB_1, tupB_1, lstB_1, reprB_1, allB_1, slD_t, slD_l, slD_f, slD_r, ints2_ii, popD_ri, AG.wipeD, asg_n, asg_t, asg_p, AG.setAll, atI_0, atI_1, atI_2, atI_3, ixN_30, ixN_31, ixN_32, List.set_cons_zero, List.set_cons_succ, List.getElem?_set_self, List.length_set, Bool.and_eq_true, decide_eq_true_eq, decide_eq_false_iff_not, bne_iff_ne, bne_eq_false_iff_eq, Int.toNat_natCast, List.length_map]
    have hlt : b / (ruA w h' (noAt w h' (b : Nat))).every % row.length < row.length := Nat.mod_lt _ (by omega)
    refine ⟨⟨by omega, big_nat (by omega)⟩, by omega, ?_⟩
    rw [← Int.natCast_ediv, ← Int.natCast_emod, atI_of, List.getElem?_map, List.getElem?_eq_getElem hlt]
    refine ⟨_, rfl, ⟨by omega, by omega⟩, by decide, by decide, ?_⟩
    have e1 : endV w h' (b : Nat) = row[b / (ruA w h' (noAt w h' (b : Nat))).every % row.length] := by
      unfold endV
      rw [if_neg (by omega), ew, ← Int.natCast_ediv, Int.toNat_natCast, ← getD_at hlt]
    have hel := endV_lt (b := (b : Nat)) hw hh
    have e2 : (turnOf w []).getD (endV w h' (b : Nat)) 0 = endV w h' (b : Nat) := by
      show (List.range w.many).getD _ 0 = _
      rw [List.getD_eq_getElem?_getD, List.getElem?_range hel]
      rfl
    rw [e2, if_neg (by omega), ← e1, rngL_0]
    exact (eq_found (x := (endV w h' (b : Nat) : Nat)) (a := (h' : Nat)) (b := (b : Nat)) (c := 0) (ts := List.range w.many)).mpr ⟨rfl, (f2.trans (f3.weak _))⟩
  | cop h2 a t =>
    rw [ew] at hx
    obtain ⟨c1, c2, c3, c4⟩ := hx
    cases g with
    | nil =>
      rcases st with z | ⟨row, z⟩
      · omega
      · rw [ew] at z; cases z
    | cons _ _ h3 a3 t3 rs _ _ h03 hw3 g3 =>
      rw [ew] at hw3
      cases hw3
      have hro := (g3.ok hw c1).2
      have hq : RowOk w (h, noAt w h (b : Nat)) := ⟨hh, hno, ruA_at hno, h2, a, t, ew, c1, c2, c3, c4⟩
      have hT := turnOf_ok hro
      have eT : turnOf w ((h, noAt w h (b : Nat)) :: rs) = comp (turnOf w rs) t := by
        rw [turnOf_cons hq hro]
        congr 1
        unfold tuR
        rw [ew]
      have hh' := (g3.ok hw c1).1
      have hel := endV_lt (b := b') hw hh'
      have eG : (turnOf w ((h, noAt w h (b : Nat)) :: rs)).getD (endV w h' b') 0 = t.getD ((turnOf w rs).getD (endV w h' b') 0) 0 := by
        rw [eT, comp_getD hT hel]
      have hv : (turnOf w rs).getD (endV w h' b') 0 < w.many := getD_lt hT hel
      rw [eG, eT]
      try simp only [dW, runF, exs, ex, ev, evs, evt, evo, evi, evc, ok_bnd, ok_ret', ok_getV, ok_getC, ok_setC, ok_opt, ok_need, ok_ite, ok_mkLf, ok_mkLt, ok_notB, List.map_cons, List.map_nil, List.replicate_zero, List.replicate_succ, List.length_cons, List.length_nil, List.cons_append, List.nil_append, Nat.reduceSub, Nat.reduceAdd, List.getElem?_cons_zero, List.getElem?_cons_succ, Option.some.injEq, exists_eq_left', ixD_i, setIx_ri, appD_r, isC_r, items_tup, items_lst, items_fro, items_ref, tru_b, tru_i, b_add, b_sub, b_mul, b_div, b_mod, b_pow, b_band, addD_ii, subD_ii, mulD_ii, modD_ii, divD_ii, powD_ii, bandD_ii, addD_tt, addD_ll, c_eq, c_ne, c_lt, c_le, c_gt, c_ge, c_is, c_isn, isD_bb, eqD_ii, eqD_ss, eqD_bb, ltD_ii, leD_ii, bi_len, bi_max, bi_min, bi_tup, bi_lst, bi_repr, bi_all, maxB_ii, minB_ii, lenB_1, tupB_1, lstB_1, reprB_1, allB_1, slD_t, slD_l, slD_f, slD_r, ints2_ii, popD_ri, AG.wipeD, asg_n, asg_t, asg_p, AG.setAll, atI_0, atI_1, atI_2, atI_3, ixN_30, ixN_31, ixN_32, List.set_cons_zero, List.set_cons_succ, List.getElem?_set_self, List.length_set, Bool.and_eq_true, decide_eq_true_eq, decide_eq_false_iff_not, bne_iff_ne, bne_eq_false_iff_eq, Int.toNat_natCast]
      refine ⟨by decide, fun z => absurd z (by decide +kernel), fun _ => ⟨fun h0 => ?_, fun h0 => ?_⟩⟩
      · have e0 : rs = [] ∧ h' = h2 ∧ b' = (b : Nat) - (a : Nat) := by
          cases g3 with
          | nil => exact ⟨rfl, rfl, rfl⟩
          | cons _ _ _ _ _ _ _ _ z => omega
        obtain ⟨q1, q2, q3⟩ := e0
        subst q1 q2 q3
        have hl : h' < w.before.length := by rw [hw.bl]; exact hh'
        have ev1 : endV w h' ((b : Nat) - (a : Nat)) = w.before[h'] := by unfold endV; rw [if_pos (by omega), getD_at hl]
        try simp only [tN, runF, exs, ex, ev, evs, evt, evo, evi, evc, ok_bnd, ok_ret', ok_getV, ok_getC, ok_setC, ok_opt, ok_need, ok_ite, ok_mkLf, ok_mkLt, ok_notB, List.map_cons, List.map_nil, List.replicate_zero, List.replicate_succ, List.length_cons, List.length_nil, List.cons_append, List.nil_append, Nat.reduceSub, Nat.reduceAdd, List.getElem?_cons_zero, List.getElem?_cons_succ, Option.some.injEq, exists_eq_left', ixD_i, setIx_ri, appD_r, isC_r, items_tup, items_lst, items_fro, items_ref, tru_b, tru_i, b_add, b_sub, b_mul, b_div, b_mod, b_pow, b_band, addD_ii, subD_ii, mulD_ii, modD_ii, divD_ii, powD_ii, bandD_ii, addD_tt, addD_ll, c_eq, c_ne, c_lt, c_le, c_gt, c_ge, c_is, c_isn, isD_bb, eqD_ii, eqD_ss, eqD_bb, ltD_ii, leD_ii, bi_len, bi_max, bi_min, bi_tup, bi_lst, bi_repr, bi_all, maxB_ii, minB_ii, lenB_1, tupB_1, lstB_1, reprB_1, allB_1, slD_t, slD_l, slD_f, slD_r, ints2_ii, popD_ri, AG.wipeD, asg_n, asg_t, asg_p, AG.setAll, atI_0, atI_1, atI_2, atI_3, ixN_30, ixN_31, ixN_32, List.set_cons_zero, List.set_cons_succ, List.getElem?_set_self, List.length_set, Bool.and_eq_true, decide_eq_true_eq, decide_eq_false_iff_not, bne_iff_ne, bne_eq_false_iff_eq, Int.toNat_natCast]
        rw [atI_of, List.getElem?_map, List.getElem?_eq_getElem hl]
        refine ⟨_, rfl, ?_⟩
        try simp only [runF, exs, ex, ev, evs, evt, evo, evi, evc, ok_bnd, ok_ret', ok_getV, ok_getC, ok_setC, ok_opt, ok_need, ok_ite, ok_mkLf, ok_mkLt, ok_notB, List.map_cons, List.map_nil, List.replicate_zero, List.replicate_succ, List.length_cons, List.length_nil, List.cons_append, List.nil_append, Nat.reduceSub, Nat.reduceAdd, List.getElem?_cons_zero, List.getElem?_cons_succ, Option.some.injEq, exists_eq_left', ixD_i, setIx_ri, appD_r, isC_r, items_tup, items_lst, items_fro, items_ref, tru_b, tru_i, b_add, b_sub, b_mul, b_div, b_mod, b_pow, b_band, addD_ii, subD_ii, mulD_ii, modD_ii, divD_ii, powD_ii, bandD_ii, addD_tt, addD_ll, c_eq, c_ne, c_lt, c_le, c_gt, c_ge, c_is, c_isn, isD_bb, eqD_ii, eqD_ss, eqD_bb, ltD_ii, leD_ii, bi_len, bi_max, bi_min, bi_tup, bi_lst, bi_repr, bi_all, maxB_ii, minB_ii, lenB_1, tupB_1, lstB_1, reprB_1, allB_1, slD_t, slD_l, slD_f, slD_r, ints2_ii, popD_ri, AG.wipeD, asg_n, asg_t, asg_p, AG.setAll, atI_0, atI_1, atI_2, atI_3, ixN_30, ixN_31, ixN_32, List.set_cons_zero, List.set_cons_succ, List.getElem?_set_self, List.length_set, Bool.and_eq_true, decide_eq_true_eq, decide_eq_false_iff_not, bne_iff_ne, bne_eq_false_iff_eq, Int.toNat_natCast]
        rw [← ev1, at_tN c4 hel]
        refine ⟨_, rfl, by decide, by decide, ?_⟩
        have e2 : (turnOf w []).getD (endV w h' ((b : Nat) - (a : Nat))) 0 = endV w h' ((b : Nat) - (a : Nat)) := by
          show (List.range w.many).getD _ 0 = _
          rw [List.getD_eq_getElem?_getD, List.getElem?_range hel]
          rfl
        have e3 : comp (turnOf w []) t = t := comp_idl c4
        rw [e2, e3, if_pos (by omega)]
        exact (eq_found (x := (t.getD (endV w h' ((b : Nat) - (a : Nat))) 0 : Nat)) (a := (h' : Nat)) (b := -1) (c := 1) (ts := t)).mpr ⟨rfl, (f2.trans (f3.weak _))⟩
      · refine hs.way g3 st hw c1 (by omega) fun S4 f4 => ?_
        try simp only [runF, exs, ex, ev, evs, evt, evo, evi, evc, ok_bnd, ok_ret', ok_getV, ok_getC, ok_setC, ok_opt, ok_need, ok_ite, ok_mkLf, ok_mkLt, ok_notB, List.map_cons, List.map_nil, List.replicate_zero, List.replicate_succ, List.length_cons, List.length_nil, List.cons_append, List.nil_append, Nat.reduceSub, Nat.reduceAdd, List.getElem?_cons_zero, List.getElem?_cons_succ, Option.some.injEq, exists_eq_left', ixD_i, setIx_ri, appD_r, isC_r, items_tup, items_lst, items_fro, items_ref, tru_b, tru_i, b_add, b_sub, b_mul, b_div, b_mod, b_pow, b_band, addD_ii, subD_ii, mulD_ii, modD_ii, divD_ii, powD_ii, bandD_ii, addD_tt, addD_ll, c_eq, c_ne, c_lt, c_le, c_gt, c_ge, c_is, c_isn, isD_bb, eqD_ii, eqD_ss, eqD_bb, ltD_ii, leD_ii, bi_len, bi_max, bi_min, bi_tup, bi_lst, bi_repr, bi_all, maxB_ii, minB_ii, lenB_1, tupB_1, lstB_1, reprB_1, allB_1, slD_t, slD_l, slD_f, slD_r, ints2_ii, popD_ri, AG.wipeD, asg_n, asg_t, asg_p, AG.setAll, atI_0, atI_1, atI_2, atI_3, ixN_30, ixN_31, ixN_32, List.set_cons_zero, List.set_cons_succ, List.getElem?_set_self, List.length_set, Bool.and_eq_true, decide_eq_true_eq, decide_eq_false_iff_not, bne_iff_ne, bne_eq_false_iff_eq, Int.toNat_natCast]
        refine hd'.way g3 st hw c1 (by omega) fun S5 f5 => ?_
        try simp only [tN, runF, exs, ex, ev, evs, evt, evo, evi, evc, ok_bnd, ok_ret', ok_getV, ok_getC, ok_setC, ok_opt, ok_need, ok_ite, ok_mkLf, ok_mkLt, ok_notB, List.map_cons, List.map_nil, List.replicate_zero, List.replicate_succ, List.length_cons, List.length_nil, List.cons_append, List.nil_append, Nat.reduceSub, Nat.reduceAdd, List.getElem?_cons_zero, List.getElem?_cons_succ, Option.some.injEq, exists_eq_left', ixD_i, setIx_ri, appD_r, isC_r, items_tup, items_lst, items_fro, items_ref, tru_b, tru_i, b_add, b_sub, b_mul, b_div, b_mod, b_pow, b_band, addD_ii, subD_ii, mulD_ii, modD_ii, divD_ii, powD_ii, bandD_ii, addD_tt, addD_ll, c_eq, c_ne, c_lt, c_le, c_gt, c_ge, c_is, c_isn, isD_bb, eqD_ii, eqD_ss, eqD_bb, ltD_ii, leD_ii, bi_len, bi_max, bi_min, bi_tup, bi_lst, bi_repr, bi_all, maxB_ii, minB_ii, lenB_1, tupB_1, lstB_1, reprB_1, allB_1, slD_t, slD_l, slD_f, slD_r, ints2_ii, popD_ri, AG.wipeD, asg_n, asg_t, asg_p, AG.setAll, atI_0, atI_1, atI_2, atI_3, ixN_30, ixN_31, ixN_32, List.set_cons_zero, List.set_cons_succ, List.getElem?_set_self, List.length_set, Bool.and_eq_true, decide_eq_true_eq, decide_eq_false_iff_not, bne_iff_ne, bne_eq_false_iff_eq, Int.toNat_natCast]
        rw [at_tN c4 hv]
        refine ⟨_, rfl, ?_⟩
        refine (ha S5 w.many _ t hm9 hT c4).mono fun d S6 ⟨e1, e2⟩ => ?_
        subst e1 e2
        try simp only [runF, exs, ex, ev, evs, evt, evo, evi, evc, ok_bnd, ok_ret', ok_getV, ok_getC, ok_setC, ok_opt, ok_need, ok_ite, ok_mkLf, ok_mkLt, ok_notB, List.map_cons, List.map_nil, List.replicate_zero, List.replicate_succ, List.length_cons, List.length_nil, List.cons_append, List.nil_append, Nat.reduceSub, Nat.reduceAdd, List.getElem?_cons_zero, List.getElem?_cons_succ, Option.some.injEq, exists_eq_left', ixD_i, setIx_ri, appD_r, isC_r, items_tup, items_lst, items_fro, items_ref, tru_b, tru_i, b_add, b_sub, b_mul, b_div, b_mod, b_pow, b_band, addD_ii, subD_ii, mulD_ii, modD_ii, divD_ii, powD_ii, bandD_ii, addD_tt, addD_ll, c_eq, c_ne, c_lt, c_le, c_gt, c_ge, c_is, c_isn, isD_bb, eqD_ii, eqD_ss, eqD_bb, ltD_ii, leD_ii, bi_len, bi_max, bi_min, bi_tup, bi_lst, bi_repr, bi_all, maxB_ii, minB_ii, lenB_1, tupB_1, lstB_1, reprB_1, allB_1, slD_t, slD_l, slD_f, slD_r, ints2_ii, popD_ri, AG.wipeD, asg_n, asg_t, asg_p, AG.setAll, atI_0, atI_1, atI_2, atI_3, ixN_30, ixN_31, ixN_32, List.set_cons_zero, List.set_cons_succ, List.getElem?_set_self, List.length_set, Bool.and_eq_true, decide_eq_true_eq, decide_eq_false_iff_not, bne_iff_ne, bne_eq_false_iff_eq, Int.toNat_natCast]
        refine ⟨by decide, by decide, ?_⟩
        rw [show ((rs.length + 1 : Nat) : Int) = (rs.length : Int) + 1 from rfl]
        exact (eq_found (x := (t.getD ((turnOf w rs).getD (endV w h' b') 0) 0 : Nat)) (a := (h' : Nat)) (b := if b' < 0 then -1 else b') (c := (rs.length : Int) + 1) (ts := comp (turnOf w rs) t)).mpr ⟨rfl, ((f2.trans (f3.weak _)).trans (f4.weak _)).trans (f5.weak _)⟩
theorem copd_run (hr : RatW (Φ "rule_at")) : CopdW (runF Φ fu 4 b_copied) := by
  intro S w h b hw hh hb
  simp only [b_copied, runF, exs, ex, ev, evs, evt, evo, evi, evc, ok_bnd, ok_ret', ok_getV, ok_getC, ok_setC, ok_opt, ok_need, ok_ite, ok_mkLf, ok_mkLt, ok_notB, List.map_cons, List.map_nil, List.replicate_zero, List.replicate_succ, List.length_cons, List.length_nil, List.cons_append, List.nil_append, Nat.reduceSub, Nat.reduceAdd, List.getElem?_cons_zero, List.getElem?_cons_succ, Option.some.injEq, exists_eq_left', ixD_i, setIx_ri, appD_r, isC_r, items_tup, items_lst, items_fro, items_ref, tru_b, tru_i, b_add, b_sub, b_mul, b_div, b_mod, b_pow, b_band, addD_ii, subD_ii, mulD_ii, modD_ii, divD_ii, powD_ii, bandD_ii, addD_tt, addD_ll, c_eq, c_ne, c_lt, c_le, c_gt, c_ge, c_is, c_isn, isD_bb, eqD_ii, eqD_ss, eqD_bb, ltD_ii, leD_ii, bi_len, bi_max, bi_min, bi_tup, bi_lst, bi_repr, bi_all, maxB_ii, minB_ii, lenB_1, tupB_1, lstB_1, reprB_1, allB_1, slD_t, slD_l, slD_f, slD_r, ints2_ii, popD_ri, AG.wipeD, asg_n, asg_t, asg_p, AG.setAll, atI_0, atI_1, atI_2, atI_3, ixN_30, ixN_31, ixN_32, List.set_cons_zero, List.set_cons_succ, List.getElem?_set_self, List.length_set, Bool.and_eq_true, decide_eq_true_eq, decide_eq_false_iff_not, bne_iff_ne, bne_eq_false_iff_eq, Int.toNat_natCast]
  refine ⟨fun h0 => ⟨by first | trivial | rfl, .inl ⟨.inl h0, by first | trivial | rfl⟩⟩, fun h0 => ?_⟩
  try simp only [dWe, runF, exs, ex, ev, evs, evt, evo, evi, evc, ok_bnd, ok_ret', ok_getV, ok_getC, ok_setC, ok_opt, ok_need, ok_ite, ok_mkLf, ok_mkLt, ok_notB, List.map_cons, List.map_nil, List.replicate_zero, List.replicate_succ, List.length_cons, List.length_nil, List.cons_append, List.nil_append, Nat.reduceSub, Nat.reduceAdd, List.getElem?_cons_zero, List.getElem?_cons_succ, Option.some.injEq, exists_eq_left', ixD_i, setIx_ri, appD_r, isC_r, items_tup, items_lst, items_fro, items_ref, tru_b, tru_i, b_add, b_sub, b_mul, b_div, b_mod, b_pow, b_band, addD_ii, subD_ii, mulD_ii, modD_ii, divD_ii, powD_ii, bandD_ii, addD_tt, addD_ll, c_eq, c_ne, c_lt, c_le, c_gt, c_ge, c_is, c_isn, isD_bb, eqD_ii, eqD_ss, eqD_bb, ltD_ii, leD_ii, bi_len, bi_max, bi_min, bi_tup, bi_lst, bi_repr, bi_all, maxB_ii, minB_ii, lenB_1, tupB_1, lstB_1, reprB_1, allB_1, slD_t, slD_l, slD_f, slD_r, ints2_ii, popD_ri, AG.wipeD, asg_n, asg_t, asg_p, AG.setAll, atI_0, atI_1, atI_2, atI_3, ixN_30, ixN_31, ixN_32, List.set_cons_zero, List.set_cons_succ, List.getElem?_set_self, List.length_set, Bool.and_eq_true, decide_eq_true_eq, decide_eq_false_iff_not, bne_iff_ne, bne_eq_false_iff_eq, Int.toNat_natCast]
  rw [hands_at hh]
  refine ⟨_, rfl, ?_⟩
  try simp only [runF, exs, ex, ev, evs, evt, evo, evi, evc, ok_bnd, ok_ret', ok_getV, ok_getC, ok_setC, ok_opt, ok_need, ok_ite, ok_mkLf, ok_mkLt, ok_notB, List.map_cons, List.map_nil, List.replicate_zero, List.replicate_succ, List.length_cons, List.length_nil, List.cons_append, List.nil_append, Nat.reduceSub, Nat.reduceAdd, List.getElem?_cons_zero, List.getElem?_cons_succ, Option.some.injEq, exists_eq_left', ixD_i, setIx_ri, appD_r, isC_r, items_tup, items_lst, items_fro, items_ref, tru_b, tru_i, b_add, b_sub, b_mul, b_div, b_mod, b_pow, b_band, addD_ii, subD_ii, mulD_ii, modD_ii, divD_ii, powD_ii, bandD_ii, addD_tt, addD_ll, c_eq, c_ne, c_lt, c_le, c_gt, c_ge, c_is, c_isn, isD_bb, eqD_ii, eqD_ss, eqD_bb, ltD_ii, leD_ii, bi_len, bi_max, bi_min, bi_tup, bi_lst, bi_repr, bi_all, maxB_ii, minB_ii, lenB_1, tupB_1, lstB_1, reprB_1, allB_1, slD_t, slD_l, slD_f, slD_r, ints2_ii, popD_ri, AG.wipeD, asg_n, asg_t, asg_p, AG.setAll, atI_0, atI_1, atI_2, atI_3, ixN_30, ixN_31, ixN_32, List.set_cons_zero, List.set_cons_succ, List.getElem?_set_self, List.length_set, Bool.and_eq_true, decide_eq_true_eq, decide_eq_false_iff_not, bne_iff_ne, bne_eq_false_iff_eq, Int.toNat_natCast]
  refine (hr S w h (hd w h) b hw (hd_mem hh)).mono fun d S1 ⟨e1, e2⟩ => ?_
  subst e1 e2
  have hno := noAt_lt hw hh b
  try simp only [runF, exs, ex, ev, evs, evt, evo, evi, evc, ok_bnd, ok_ret', ok_getV, ok_getC, ok_setC, ok_opt, ok_need, ok_ite, ok_mkLf, ok_mkLt, ok_notB, List.map_cons, List.map_nil, List.replicate_zero, List.replicate_succ, List.length_cons, List.length_nil, List.cons_append, List.nil_append, Nat.reduceSub, Nat.reduceAdd, List.getElem?_cons_zero, List.getElem?_cons_succ, Option.some.injEq, exists_eq_left', ixD_i, setIx_ri, appD_r, isC_r, items_tup, items_lst, items_fro, items_ref, tru_b, tru_i, b_add, b_sub, b_mul, b_div, b_mod, b_pow, b_band, addD_ii, subD_ii, mulD_ii, modD_ii, divD_ii, powD_ii, bandD_ii, addD_tt, addD_ll, c_eq, c_ne, c_lt, c_le, c_gt, c_ge, c_is, c_isn, isD_bb, eqD_ii, eqD_ss, eqD_bb, ltD_ii, leD_ii, bi_len, bi_max, bi_min, bi_tup, bi_lst, bi_repr, bi_all, maxB_ii, minB_ii, lenB_1, tupB_1, lstB_1, reprB_1, allB_1, slD_t, slD_l, slD_f, slD_r, ints2_ii, popD_ri, AG.wipeD, asg_n, asg_t, asg_p, AG.setAll, atI_0, atI_1, atI_2, atI_3, ixN_30, ixN_31, ixN_32, List.set_cons_zero, List.set_cons_succ, List.getElem?_set_self, List.length_set, Bool.and_eq_true, decide_eq_true_eq, decide_eq_false_iff_not, bne_iff_ne, bne_eq_false_iff_eq, Int.toNat_natCast]
  rw [show ruleNo (hd w h) b = noAt w h b from rfl, rules_at hno]
  refine ⟨_, rfl, ?_⟩
  try simp only [dR, runF, exs, ex, ev, evs, evt, evo, evi, evc, ok_bnd, ok_ret', ok_getV, ok_getC, ok_setC, ok_opt, ok_need, ok_ite, ok_mkLf, ok_mkLt, ok_notB, List.map_cons, List.map_nil, List.replicate_zero, List.replicate_succ, List.length_cons, List.length_nil, List.cons_append, List.nil_append, Nat.reduceSub, Nat.reduceAdd, List.getElem?_cons_zero, List.getElem?_cons_succ, Option.some.injEq, exists_eq_left', ixD_i, setIx_ri, appD_r, isC_r, items_tup, items_lst, items_fro, items_ref, tru_b, tru_i, b_add, b_sub, b_mul, b_div, b_mod, b_pow, b_band, addD_ii, subD_ii, mulD_ii, modD_ii, divD_ii, powD_ii, bandD_ii, addD_tt, addD_ll, c_eq, c_ne, c_lt, c_le, c_gt, c_ge, c_is, c_isn, isD_bb, eqD_ii, eqD_ss, eqD_bb, ltD_ii, leD_ii, bi_len, bi_max, bi_min, bi_tup, bi_lst, bi_repr, bi_all, maxB_ii, minB_ii, lenB_1, tupB_1, lstB_1, reprB_1, allB_1, slD_t, slD_l, slD_f, slD_r, ints2_ii, popD_ri, AG.wipeD, asg_n, asg_t, asg_p, AG.setAll, atI_0, atI_1, atI_2, atI_3, ixN_30, ixN_31, ixN_32, List.set_cons_zero, List.set_cons_succ, List.getElem?_set_self, List.length_set, Bool.and_eq_true, decide_eq_true_eq, decide_eq_false_iff_not, bne_iff_ne, bne_eq_false_iff_eq, Int.toNat_natCast]
  cases ew : (ruA w h (noAt w h b)).wh with
  | own row =>
    try simp only [dW, runF, exs, ex, ev, evs, evt, evo, evi, evc, ok_bnd, ok_ret', ok_getV, ok_getC, ok_setC, ok_opt, ok_need, ok_ite, ok_mkLf, ok_mkLt, ok_notB, List.map_cons, List.map_nil, List.replicate_zero, List.replicate_succ, List.length_cons, List.length_nil, List.cons_append, List.nil_append, Nat.reduceSub, Nat.reduceAdd, List.getElem?_cons_zero, List.getElem?_cons_succ, Option.some.injEq, exists_eq_left', ixD_i, setIx_ri, appD_r, isC_r, items_tup, items_lst, items_fro, items_ref, tru_b, tru_i, b_add, b_sub, b_mul, b_div, b_mod, b_pow, b_band, addD_ii, subD_ii, mulD_ii, modD_ii, divD_ii, powD_ii, bandD_ii, addD_tt, addD_ll, c_eq, c_ne, c_lt, c_le, c_gt, c_ge, c_is, c_isn, isD_bb, eqD_ii, eqD_ss, eqD_bb, ltD_ii, leD_ii, bi_len, bi_max, bi_min, bi_tup, bi_lst, bi_repr, bi_all, maxB_ii, minB_ii, lenB_1, tupB_1, lstB_1, reprB_1, allB_1, slD_t, slD_l, slD_f, slD_r, ints2_ii, popD_ri, AG.wipeD, asg_n, asg_t, asg_p, AG.setAll, atI_0, atI_1, atI_2, atI_3, ixN_30, ixN_31, ixN_32, List.set_cons_zero, List.set_cons_succ, List.getElem?_set_self, List.length_set, Bool.and_eq_true, decide_eq_true_eq, decide_eq_false_iff_not, bne_iff_ne, bne_eq_false_iff_eq, Int.toNat_natCast]
    exact ⟨fun _ => ⟨by first | trivial | rfl, .inl ⟨.inr ⟨row, ew⟩, by first | trivial | rfl⟩⟩, fun z => absurd z (by decide)⟩
  | cop h2 a t =>
    try simp only [dW, runF, exs, ex, ev, evs, evt, evo, evi, evc, ok_bnd, ok_ret', ok_getV, ok_getC, ok_setC, ok_opt, ok_need, ok_ite, ok_mkLf, ok_mkLt, ok_notB, List.map_cons, List.map_nil, List.replicate_zero, List.replicate_succ, List.length_cons, List.length_nil, List.cons_append, List.nil_append, Nat.reduceSub, Nat.reduceAdd, List.getElem?_cons_zero, List.getElem?_cons_succ, Option.some.injEq, exists_eq_left', ixD_i, setIx_ri, appD_r, isC_r, items_tup, items_lst, items_fro, items_ref, tru_b, tru_i, b_add, b_sub, b_mul, b_div, b_mod, b_pow, b_band, addD_ii, subD_ii, mulD_ii, modD_ii, divD_ii, powD_ii, bandD_ii, addD_tt, addD_ll, c_eq, c_ne, c_lt, c_le, c_gt, c_ge, c_is, c_isn, isD_bb, eqD_ii, eqD_ss, eqD_bb, ltD_ii, leD_ii, bi_len, bi_max, bi_min, bi_tup, bi_lst, bi_repr, bi_all, maxB_ii, minB_ii, lenB_1, tupB_1, lstB_1, reprB_1, allB_1, slD_t, slD_l, slD_f, slD_r, ints2_ii, popD_ri, AG.wipeD, asg_n, asg_t, asg_p, AG.setAll, atI_0, atI_1, atI_2, atI_3, ixN_30, ixN_31, ixN_32, List.set_cons_zero, List.set_cons_succ, List.getElem?_set_self, List.length_set, Bool.and_eq_true, decide_eq_true_eq, decide_eq_false_iff_not, bne_iff_ne, bne_eq_false_iff_eq, Int.toNat_natCast]
    exact ⟨fun z => absurd z (by decide +kernel), fun _ => ⟨by decide, by first | trivial | rfl, .inr ⟨by omega, h2, a, t, by first | exact ew | rfl, rfl⟩⟩⟩
theorem trace_run (hc : CopdW (Φ "_copied")) (hfu : 1500 ≤ fu) : TraW (fun ds => runF Φ fu 6 b_trace (ds ++ [.int 500])) := by
  intro S w h b hw hh hb
  simp only [b_trace, ok_newT, runF, exs, ex, ev, evs, evt, evo, evi, evc, ok_bnd, ok_ret', ok_getV, ok_getC, ok_setC, ok_opt, ok_need, ok_ite, ok_mkLf, ok_mkLt, ok_notB, List.map_cons, List.map_nil, List.replicate_zero, List.replicate_succ, List.length_cons, List.length_nil, List.cons_append, List.nil_append, Nat.reduceSub, Nat.reduceAdd, List.getElem?_cons_zero, List.getElem?_cons_succ, Option.some.injEq, exists_eq_left', ixD_i, setIx_ri, appD_r, isC_r, items_tup, items_lst, items_fro, items_ref, tru_b, tru_i, b_add, b_sub, b_mul, b_div, b_mod, b_pow, b_band, addD_ii, subD_ii, mulD_ii, modD_ii, divD_ii, powD_ii, bandD_ii, addD_tt, addD_ll, c_eq, c_ne, c_lt, c_le, c_gt, c_ge, c_is, c_isn, isD_bb, eqD_ii, eqD_ss, eqD_bb, ltD_ii, leD_ii, bi_len, bi_max, bi_min, bi_tup, bi_lst, bi_repr, bi_all, maxB_ii, minB_ii, lenB_1, tupB_1, lstB_1, reprB_1, allB_1, slD_t, slD_l, slD_f, slD_r, ints2_ii, popD_ri, AG.wipeD, asg_n, asg_t, asg_p, AG.setAll, atI_0, atI_1, atI_2, atI_3, ixN_30, ixN_31, ixN_32, List.set_cons_zero, List.set_cons_succ, List.getElem?_set_self, List.length_set, Bool.and_eq_true, decide_eq_true_eq, decide_eq_false_iff_not, bne_iff_ne, bne_eq_false_iff_eq, Int.toNat_natCast]
  refine ⟨by decide, by decide, ?_⟩
  refine ok_wh (fun n ρ S' => ∃ rows hc bc told x5, ρ = [some (dWe w), some (.int (h : Nat)), some (.int (b : Nat)), some (.int 500), some (.ref S.length), x5] ∧ Go w h (b : Nat) rows hc bc ∧ hc < w.hands.length ∧ bc ≤ (b : Nat) ∧ S'[S.length]? = some (some told) ∧ Fr S.length S S' ∧ ((x5 = some (.tup [.int (hc : Nat), .int bc]) ∧ told.length = rows.length ∧ n + rows.length = 500) ∨ (x5 = some .non ∧ n = 0 ∧ Stop w hc bc ∧ told.length = rows.length + 1 ∧ told[rows.length]? = some (.tup [.int (hc : Nat), .int bc])))) fu 500 _ _ (by omega) ⟨[], h, (b : Nat), [], _, rfl, .nil h _, hh, Int.le_refl _, by rw [List.getElem?_append_right (Nat.le_refl _), Nat.sub_self]; rfl, Fr.app _ _ _, .inl ⟨rfl, rfl, rfl⟩⟩ ?_
  rintro n ρ S1 ⟨rows, hc', bc, told, x5, rfl, g, hcl, hble, hR, F1, hx | hx⟩
  · obtain ⟨rfl, hl, hn⟩ := hx
    have hlen := g.len_le hw hh
    have hl4 : rows.length ≤ 401 := by omega
    simp only [isD, isNonD, runF, exs, ex, ev, evs, evt, evo, evi, evc, ok_bnd, ok_ret', ok_getV, ok_getC, ok_setC, ok_opt, ok_need, ok_ite, ok_mkLf, ok_mkLt, ok_notB, List.map_cons, List.map_nil, List.replicate_zero, List.replicate_succ, List.length_cons, List.length_nil, List.cons_append, List.nil_append, Nat.reduceSub, Nat.reduceAdd, List.getElem?_cons_zero, List.getElem?_cons_succ, Option.some.injEq, exists_eq_left', ixD_i, setIx_ri, appD_r, isC_r, items_tup, items_lst, items_fro, items_ref, tru_b, tru_i, b_add, b_sub, b_mul, b_div, b_mod, b_pow, b_band, addD_ii, subD_ii, mulD_ii, modD_ii, divD_ii, powD_ii, bandD_ii, addD_tt, addD_ll, c_eq, c_ne, c_lt, c_le, c_gt, c_ge, c_is, c_isn, isD_bb, eqD_ii, eqD_ss, eqD_bb, ltD_ii, leD_ii, bi_len, bi_max, bi_min, bi_tup, bi_lst, bi_repr, bi_all, maxB_ii, minB_ii, lenB_1, tupB_1, lstB_1, reprB_1, allB_1, slD_t, slD_l, slD_f, slD_r, ints2_ii, popD_ri, AG.wipeD, asg_n, asg_t, asg_p, AG.setAll, atI_0, atI_1, atI_2, atI_3, ixN_30, ixN_31, ixN_32, List.set_cons_zero, List.set_cons_succ, List.getElem?_set_self, List.length_set, Bool.and_eq_true, decide_eq_true_eq, decide_eq_false_iff_not, bne_iff_ne, bne_eq_false_iff_eq, Int.toNat_natCast]
    rw [if_pos (by decide)]
    refine ⟨_, hR, fun z => by omega, fun _ => ?_⟩
    refine ⟨_, hR, _, hR, by unfold small; exact decide_eq_true (by omega), _, hR, ?_⟩
    have hm := set_at hR (some (told ++ [.tup [.int (hc' : Nat), .int bc]]))
    have hF2 := fr_set (x := some (told ++ [.tup [.int (hc' : Nat), .int bc]])) F1 (Nat.le_refl _)
    refine (hc _ w hc' bc hw hcl (by omega)).mono fun d S2 ⟨e1, e2⟩ => ?_
    subst e1
    rcases e2 with ⟨st, rfl⟩ | ⟨h0, h2, a, t, ew, rfl⟩
    · exact ⟨0, by omega, rows, hc', bc, _, _, rfl, g, hcl, hble, hm, hF2, .inr ⟨rfl, rfl, st, by rw [List.length_append, hl]; rfl, by rw [List.getElem?_append_right (by omega), hl, Nat.sub_self]; rfl⟩⟩
    · have hx := (ruA_ok hw hcl (noAt_lt hw hcl bc)).wh
      rw [ew] at hx
      exact ⟨n - 1, by omega, rows ++ [(hc', noAt w hc' bc)], h2, bc - (a : Nat), _, _, rfl, g.app (.cons _ _ _ _ _ _ _ _ h0 ew (.nil _ _)), hx.1, by omega, hm, hF2, .inl ⟨rfl, by rw [List.length_append, List.length_append, hl]; rfl, by rw [List.length_append, List.length_singleton]; omega⟩⟩
  · obtain ⟨rfl, hn, st, hl, hlast⟩ := hx
    have hlen := g.len_le hw hh
    simp only [isD, isNonD, runF, exs, ex, ev, evs, evt, evo, evi, evc, ok_bnd, ok_ret', ok_getV, ok_getC, ok_setC, ok_opt, ok_need, ok_ite, ok_mkLf, ok_mkLt, ok_notB, List.map_cons, List.map_nil, List.replicate_zero, List.replicate_succ, List.length_cons, List.length_nil, List.cons_append, List.nil_append, Nat.reduceSub, Nat.reduceAdd, List.getElem?_cons_zero, List.getElem?_cons_succ, Option.some.injEq, exists_eq_left', ixD_i, setIx_ri, appD_r, isC_r, items_tup, items_lst, items_fro, items_ref, tru_b, tru_i, b_add, b_sub, b_mul, b_div, b_mod, b_pow, b_band, addD_ii, subD_ii, mulD_ii, modD_ii, divD_ii, powD_ii, bandD_ii, addD_tt, addD_ll, c_eq, c_ne, c_lt, c_le, c_gt, c_ge, c_is, c_isn, isD_bb, eqD_ii, eqD_ss, eqD_bb, ltD_ii, leD_ii, bi_len, bi_max, bi_min, bi_tup, bi_lst, bi_repr, bi_all, maxB_ii, minB_ii, lenB_1, tupB_1, lstB_1, reprB_1, allB_1, slD_t, slD_l, slD_f, slD_r, ints2_ii, popD_ri, AG.wipeD, asg_n, asg_t, asg_p, AG.setAll, atI_0, atI_1, atI_2, atI_3, ixN_30, ixN_31, ixN_32, List.set_cons_zero, List.set_cons_succ, List.getElem?_set_self, List.length_set, Bool.and_eq_true, decide_eq_true_eq, decide_eq_false_iff_not, bne_iff_ne, bne_eq_false_iff_eq, Int.toNat_natCast]
    rw [if_neg (by decide)]
    try simp only [runF, exs, ex, ev, evs, evt, evo, evi, evc, ok_bnd, ok_ret', ok_getV, ok_getC, ok_setC, ok_opt, ok_need, ok_ite, ok_mkLf, ok_mkLt, ok_notB, List.map_cons, List.map_nil, List.replicate_zero, List.replicate_succ, List.length_cons, List.length_nil, List.cons_append, List.nil_append, Nat.reduceSub, Nat.reduceAdd, List.getElem?_cons_zero, List.getElem?_cons_succ, Option.some.injEq, exists_eq_left', ixD_i, setIx_ri, appD_r, isC_r, items_tup, items_lst, items_fro, items_ref, tru_b, tru_i, b_add, b_sub, b_mul, b_div, b_mod, b_pow, b_band, addD_ii, subD_ii, mulD_ii, modD_ii, divD_ii, powD_ii, bandD_ii, addD_tt, addD_ll, c_eq, c_ne, c_lt, c_le, c_gt, c_ge, c_is, c_isn, isD_bb, eqD_ii, eqD_ss, eqD_bb, ltD_ii, leD_ii, bi_len, bi_max, bi_min, bi_tup, bi_lst, bi_repr, bi_all, maxB_ii, minB_ii, lenB_1, tupB_1, lstB_1, reprB_1, allB_1, slD_t, slD_l, slD_f, slD_r, ints2_ii, popD_ri, AG.wipeD, asg_n, asg_t, asg_p, AG.setAll, atI_0, atI_1, atI_2, atI_3, ixN_30, ixN_31, ixN_32, List.set_cons_zero, List.set_cons_succ, List.getElem?_set_self, List.length_set, Bool.and_eq_true, decide_eq_true_eq, decide_eq_false_iff_not, bne_iff_ne, bne_eq_false_iff_eq, Int.toNat_natCast]
    exact ⟨rows, hc', bc, S.length, told, g, st, rfl, hR, hl, hlast, F1, by omega⟩
theorem law_run (hp : PickW (Φ "_law_pick")) (hb : BagW (Φ "_law_bag")) (hwb : WebW (Φ "_law_web")) (hf : FarW (Φ "_law_far")) (hr : RightW (Φ "_law_right")) (ht : TraW (Φ "trace/3")) (hs : SrcW (Φ "source")) (ns : List Int) (hn : ns.length ≤ 63) (S0 : Sto) :
    Ok (runF Φ fu 12 b_law [.fro (ns.map D.int)]) S0 fun d _ => d = .bl true := by
  simp only [b_law, runF, exs, ex, ev, evs, evt, evo, evi, evc, ok_bnd, ok_ret', ok_getV, ok_getC, ok_setC, ok_opt, ok_need, ok_ite, ok_mkLf, ok_mkLt, ok_notB, List.map_cons, List.map_nil, List.replicate_zero, List.replicate_succ, List.length_cons, List.length_nil, List.cons_append, List.nil_append, Nat.reduceSub, Nat.reduceAdd, List.getElem?_cons_zero, List.getElem?_cons_succ, Option.some.injEq, exists_eq_left', ixD_i, setIx_ri, appD_r, isC_r, items_tup, items_lst, items_fro, items_ref, tru_b, tru_i, b_add, b_sub, b_mul, b_div, b_mod, b_pow, b_band, addD_ii, subD_ii, mulD_ii, modD_ii, divD_ii, powD_ii, bandD_ii, addD_tt, addD_ll, c_eq, c_ne, c_lt, c_le, c_gt, c_ge, c_is, c_isn, isD_bb, eqD_ii, eqD_ss, eqD_bb, ltD_ii, leD_ii, bi_len, bi_max, bi_min, bi_tup, bi_lst, bi_repr, bi_all, maxB_ii, minB_ii, lenB_1, tupB_1, lstB_1, reprB_1, allB_1, slD_t, slD_l, slD_f, slD_r, ints2_ii, popD_ri, AG.wipeD, asg_n, asg_t, asg_p, AG.setAll, atI_0, atI_1, atI_2, atI_3, ixN_30, ixN_31, ixN_32, List.set_cons_zero, List.set_cons_succ, List.getElem?_set_self, List.length_set, Bool.and_eq_true, decide_eq_true_eq, decide_eq_false_iff_not, bne_iff_ne, bne_eq_false_iff_eq, Int.toNat_natCast]
  obtain ⟨ms, hms, hml⟩ := cut_ints ns none (some 4)
  rw [hms]
  refine ⟨by decide, ⟨by unfold small; rw [List.length_map]; exact decide_eq_true (by omega), by decide⟩, ?_⟩
  refine ok_for (fun j ρ S' => ∃ x1 x2 x3 x4 x5 x6 x7 x8 x9 x10 x11, ρ = [some (D.fro (ns.map D.int)), x1, x2, x3, x4, x5, x6, x7, x8, x9, x10, x11]) ⟨_, _, _, _, _, _, _, _, _, _, _, rfl⟩ ?_ ?_
  · rintro j x ρ S1 hx ⟨x1, x2, x3, x4, x5, x6, x7, x8, x9, x10, x11, rfl⟩
    obtain ⟨cell, rfl⟩ : ∃ cell : Int, x = .int cell := by
      have := List.mem_of_getElem? hx
      rcases List.mem_append.mp this with h | h
      · obtain ⟨c, _, rfl⟩ := List.mem_map.mp h
        exact ⟨c, rfl⟩
      · exact ⟨0, List.mem_singleton.mp h⟩
    refine ⟨_, rfl, ?_⟩
    try simp only [runF, exs, ex, ev, evs, evt, evo, evi, evc, ok_bnd, ok_ret', ok_getV, ok_getC, ok_setC, ok_opt, ok_need, ok_ite, ok_mkLf, ok_mkLt, ok_notB, List.map_cons, List.map_nil, List.replicate_zero, List.replicate_succ, List.length_cons, List.length_nil, List.cons_append, List.nil_append, Nat.reduceSub, Nat.reduceAdd, List.getElem?_cons_zero, List.getElem?_cons_succ, Option.some.injEq, exists_eq_left', ixD_i, setIx_ri, appD_r, isC_r, items_tup, items_lst, items_fro, items_ref, tru_b, tru_i, b_add, b_sub, b_mul, b_div, b_mod, b_pow, b_band, addD_ii, subD_ii, mulD_ii, modD_ii, divD_ii, powD_ii, bandD_ii, addD_tt, addD_ll, c_eq, c_ne, c_lt, c_le, c_gt, c_ge, c_is, c_isn, isD_bb, eqD_ii, eqD_ss, eqD_bb, ltD_ii, leD_ii, bi_len, bi_max, bi_min, bi_tup, bi_lst, bi_repr, bi_all, maxB_ii, minB_ii, lenB_1, tupB_1, lstB_1, reprB_1, allB_1, slD_t, slD_l, slD_f, slD_r, ints2_ii, popD_ri, AG.wipeD, asg_n, asg_t, asg_p, AG.setAll, atI_0, atI_1, atI_2, atI_3, ixN_30, ixN_31, ixN_32, List.set_cons_zero, List.set_cons_succ, List.getElem?_set_self, List.length_set, Bool.and_eq_true, decide_eq_true_eq, decide_eq_false_iff_not, bne_iff_ne, bne_eq_false_iff_eq, Int.toNat_natCast]
    refine (hb S1 cell).mono fun d S2 ⟨hd, b0, l0, f0⟩ => ?_
    subst hd
    try simp only [runF, exs, ex, ev, evs, evt, evo, evi, evc, ok_bnd, ok_ret', ok_getV, ok_getC, ok_setC, ok_opt, ok_need, ok_ite, ok_mkLf, ok_mkLt, ok_notB, List.map_cons, List.map_nil, List.replicate_zero, List.replicate_succ, List.length_cons, List.length_nil, List.cons_append, List.nil_append, Nat.reduceSub, Nat.reduceAdd, List.getElem?_cons_zero, List.getElem?_cons_succ, Option.some.injEq, exists_eq_left', ixD_i, setIx_ri, appD_r, isC_r, items_tup, items_lst, items_fro, items_ref, tru_b, tru_i, b_add, b_sub, b_mul, b_div, b_mod, b_pow, b_band, addD_ii, subD_ii, mulD_ii, modD_ii, divD_ii, powD_ii, bandD_ii, addD_tt, addD_ll, c_eq, c_ne, c_lt, c_le, c_gt, c_ge, c_is, c_isn, isD_bb, eqD_ii, eqD_ss, eqD_bb, ltD_ii, leD_ii, bi_len, bi_max, bi_min, bi_tup, bi_lst, bi_repr, bi_all, maxB_ii, minB_ii, lenB_1, tupB_1, lstB_1, reprB_1, allB_1, slD_t, slD_l, slD_f, slD_r, ints2_ii, popD_ri, AG.wipeD, asg_n, asg_t, asg_p, AG.setAll, atI_0, atI_1, atI_2, atI_3, ixN_30, ixN_31, ixN_32, List.set_cons_zero, List.set_cons_succ, List.getElem?_set_self, List.length_set, Bool.and_eq_true, decide_eq_true_eq, decide_eq_false_iff_not, bne_iff_ne, bne_eq_false_iff_eq, Int.toNat_natCast]
    refine (hwb S2 _ 0 b0 (by omega)).mono fun d S3 ⟨w, hd, hw, b3, f3⟩ => ?_
    subst hd
    have hc1 := hw.c1
    have hc6 := hw.c6
    try simp only [runF, exs, ex, ev, evs, evt, evo, evi, evc, ok_bnd, ok_ret', ok_getV, ok_getC, ok_setC, ok_opt, ok_need, ok_ite, ok_mkLf, ok_mkLt, ok_notB, List.map_cons, List.map_nil, List.replicate_zero, List.replicate_succ, List.length_cons, List.length_nil, List.cons_append, List.nil_append, Nat.reduceSub, Nat.reduceAdd, List.getElem?_cons_zero, List.getElem?_cons_succ, Option.some.injEq, exists_eq_left', ixD_i, setIx_ri, appD_r, isC_r, items_tup, items_lst, items_fro, items_ref, tru_b, tru_i, b_add, b_sub, b_mul, b_div, b_mod, b_pow, b_band, addD_ii, subD_ii, mulD_ii, modD_ii, divD_ii, powD_ii, bandD_ii, addD_tt, addD_ll, c_eq, c_ne, c_lt, c_le, c_gt, c_ge, c_is, c_isn, isD_bb, eqD_ii, eqD_ss, eqD_bb, ltD_ii, leD_ii, bi_len, bi_max, bi_min, bi_tup, bi_lst, bi_repr, bi_all, maxB_ii, minB_ii, lenB_1, tupB_1, lstB_1, reprB_1, allB_1, slD_t, slD_l, slD_f, slD_r, ints2_ii, popD_ri, AG.wipeD, asg_n, asg_t, asg_p, AG.setAll, atI_0, atI_1, atI_2, atI_3, ixN_30, ixN_31, ixN_32, List.set_cons_zero, List.set_cons_succ, List.getElem?_set_self, List.length_set, Bool.and_eq_true, decide_eq_true_eq, decide_eq_false_iff_not, bne_iff_ne, bne_eq_false_iff_eq, Int.toNat_natCast]
    refine ⟨by decide, ?_⟩
    refine ok_for (fun j ρ S' => (∃ x4 x5 x6 x7 x8 x9 x10 x11, ρ = [some (D.fro (ns.map D.int)), some (.int cell), some (.ref S1.length), some (dWe w), x4, x5, x6, x7, x8, x9, x10, x11]) ∧ Bag S' S1.length (1000 + 20 * j)) ⟨⟨_, _, _, _, _, _, _, _, rfl⟩, b3.up (by omega)⟩ ?_ ?_
    · rintro j x ρ S4 hx ⟨⟨y4, y5, y6, y7, y8, y9, y10, y11, rfl⟩, b4⟩
      have hj : j < 6 := (List.getElem?_eq_some_iff.mp hx).1
      refine ⟨_, rfl, ?_⟩
      try simp only [runF, exs, ex, ev, evs, evt, evo, evi, evc, ok_bnd, ok_ret', ok_getV, ok_getC, ok_setC, ok_opt, ok_need, ok_ite, ok_mkLf, ok_mkLt, ok_notB, List.map_cons, List.map_nil, List.replicate_zero, List.replicate_succ, List.length_cons, List.length_nil, List.cons_append, List.nil_append, Nat.reduceSub, Nat.reduceAdd, List.getElem?_cons_zero, List.getElem?_cons_succ, Option.some.injEq, exists_eq_left', ixD_i, setIx_ri, appD_r, isC_r, items_tup, items_lst, items_fro, items_ref, tru_b, tru_i, b_add, b_sub, b_mul, b_div, b_mod, b_pow, b_band, addD_ii, subD_ii, mulD_ii, modD_ii, divD_ii, powD_ii, bandD_ii, addD_tt, addD_ll, c_eq, c_ne, c_lt, c_le, c_gt, c_ge, c_is, c_isn, isD_bb, eqD_ii, eqD_ss, eqD_bb, ltD_ii, leD_ii, bi_len, bi_max, bi_min, bi_tup, bi_lst, bi_repr, bi_all, maxB_ii, minB_ii, lenB_1, tupB_1, lstB_1, reprB_1, allB_1, slD_t, slD_l, slD_f, slD_r, ints2_ii, popD_ri, AG.wipeD, asg_n, asg_t, asg_p, AG.setAll, atI_0, atI_1, atI_2, atI_3, ixN_30, ixN_31, ixN_32, List.set_cons_zero, List.set_cons_succ, List.getElem?_set_self, List.length_set, Bool.and_eq_true, decide_eq_true_eq, decide_eq_false_iff_not, bne_iff_ne, bne_eq_false_iff_eq, Int.toNat_natCast]
      refine (hf S4 _ _ b4 (by omega)).mono fun d S5 ⟨b, hd, hb18, b5, _, f5⟩ => ?_
      subst hd
      try simp only [dWe, runF, exs, ex, ev, evs, evt, evo, evi, evc, ok_bnd, ok_ret', ok_getV, ok_getC, ok_setC, ok_opt, ok_need, ok_ite, ok_mkLf, ok_mkLt, ok_notB, List.map_cons, List.map_nil, List.replicate_zero, List.replicate_succ, List.length_cons, List.length_nil, List.cons_append, List.nil_append, Nat.reduceSub, Nat.reduceAdd, List.getElem?_cons_zero, List.getElem?_cons_succ, Option.some.injEq, exists_eq_left', ixD_i, setIx_ri, appD_r, isC_r, items_tup, items_lst, items_fro, items_ref, tru_b, tru_i, b_add, b_sub, b_mul, b_div, b_mod, b_pow, b_band, addD_ii, subD_ii, mulD_ii, modD_ii, divD_ii, powD_ii, bandD_ii, addD_tt, addD_ll, c_eq, c_ne, c_lt, c_le, c_gt, c_ge, c_is, c_isn, isD_bb, eqD_ii, eqD_ss, eqD_bb, ltD_ii, leD_ii, bi_len, bi_max, bi_min, bi_tup, bi_lst, bi_repr, bi_all, maxB_ii, minB_ii, lenB_1, tupB_1, lstB_1, reprB_1, allB_1, slD_t, slD_l, slD_f, slD_r, ints2_ii, popD_ri, AG.wipeD, asg_n, asg_t, asg_p, AG.setAll, atI_0, atI_1, atI_2, atI_3, ixN_30, ixN_31, ixN_32, List.set_cons_zero, List.set_cons_succ, List.getElem?_set_self, List.length_set, Bool.and_eq_true, decide_eq_true_eq, decide_eq_false_iff_not, bne_iff_ne, bne_eq_false_iff_eq, Int.toNat_natCast]
      rw [List.length_map]
      refine ⟨by unfold okR; simp only [Bool.and_eq_true, decide_eq_true_eq]; omega, ?_⟩
      refine ok_for (fun i ρ S' => (∃ x6 x7 x8 x9 x10 x11, ρ = [some (D.fro (ns.map D.int)), some (.int cell), some (.ref S1.length), some (dWe w), some x, some (.int (b : Nat)), x6, x7, x8, x9, x10, x11]) ∧ Bag S' S1.length (1000 + 20 * j + 10)) ⟨⟨_, _, _, _, _, _, rfl⟩, b5⟩ ?_ ?_
      · rintro i x ρ S6 hx ⟨⟨z6, z7, z8, z9, z10, z11, rfl⟩, b6⟩
        have hi := (List.getElem?_eq_some_iff.mp hx).1
        rw [rng_len] at hi
        rw [rng_at hi] at hx
        cases hx
        refine ⟨_, rfl, ?_⟩
        try simp only [runF, exs, ex, ev, evs, evt, evo, evi, evc, ok_bnd, ok_ret', ok_getV, ok_getC, ok_setC, ok_opt, ok_need, ok_ite, ok_mkLf, ok_mkLt, ok_notB, List.map_cons, List.map_nil, List.replicate_zero, List.replicate_succ, List.length_cons, List.length_nil, List.cons_append, List.nil_append, Nat.reduceSub, Nat.reduceAdd, List.getElem?_cons_zero, List.getElem?_cons_succ, Option.some.injEq, exists_eq_left', ixD_i, setIx_ri, appD_r, isC_r, items_tup, items_lst, items_fro, items_ref, tru_b, tru_i, b_add, b_sub, b_mul, b_div, b_mod, b_pow, b_band, addD_ii, subD_ii, mulD_ii, modD_ii, divD_ii, powD_ii, bandD_ii, addD_tt, addD_ll, c_eq, c_ne, c_lt, c_le, c_gt, c_ge, c_is, c_isn, isD_bb, eqD_ii, eqD_ss, eqD_bb, ltD_ii, leD_ii, bi_len, bi_max, bi_min, bi_tup, bi_lst, bi_repr, bi_all, maxB_ii, minB_ii, lenB_1, tupB_1, lstB_1, reprB_1, allB_1, slD_t, slD_l, slD_f, slD_r, ints2_ii, popD_ri, AG.wipeD, asg_n, asg_t, asg_p, AG.setAll, atI_0, atI_1, atI_2, atI_3, ixN_30, ixN_31, ixN_32, List.set_cons_zero, List.set_cons_succ, List.getElem?_set_self, List.length_set, Bool.and_eq_true, decide_eq_true_eq, decide_eq_false_iff_not, bne_iff_ne, bne_eq_false_iff_eq, Int.toNat_natCast]
        refine (hr S6 w i b hw (by omega) (by omega)).mono fun d S7 ⟨e1, f7⟩ => ?_
        subst e1
        try simp only [runF, exs, ex, ev, evs, evt, evo, evi, evc, ok_bnd, ok_ret', ok_getV, ok_getC, ok_setC, ok_opt, ok_need, ok_ite, ok_mkLf, ok_mkLt, ok_notB, List.map_cons, List.map_nil, List.replicate_zero, List.replicate_succ, List.length_cons, List.length_nil, List.cons_append, List.nil_append, Nat.reduceSub, Nat.reduceAdd, List.getElem?_cons_zero, List.getElem?_cons_succ, Option.some.injEq, exists_eq_left', ixD_i, setIx_ri, appD_r, isC_r, items_tup, items_lst, items_fro, items_ref, tru_b, tru_i, b_add, b_sub, b_mul, b_div, b_mod, b_pow, b_band, addD_ii, subD_ii, mulD_ii, modD_ii, divD_ii, powD_ii, bandD_ii, addD_tt, addD_ll, c_eq, c_ne, c_lt, c_le, c_gt, c_ge, c_is, c_isn, isD_bb, eqD_ii, eqD_ss, eqD_bb, ltD_ii, leD_ii, bi_len, bi_max, bi_min, bi_tup, bi_lst, bi_repr, bi_all, maxB_ii, minB_ii, lenB_1, tupB_1, lstB_1, reprB_1, allB_1, slD_t, slD_l, slD_f, slD_r, ints2_ii, popD_ri, AG.wipeD, asg_n, asg_t, asg_p, AG.setAll, atI_0, atI_1, atI_2, atI_3, ixN_30, ixN_31, ixN_32, List.set_cons_zero, List.set_cons_succ, List.getElem?_set_self, List.length_set, Bool.and_eq_true, decide_eq_true_eq, decide_eq_false_iff_not, bne_iff_ne, bne_eq_false_iff_eq, Int.toNat_natCast]
        exact ⟨fun z => by simp at z, fun _ => ⟨⟨_, _, _, _, _, _, rfl⟩, b6.frm f7⟩⟩
      · rintro ρ S6 ⟨⟨z6, z7, z8, z9, z10, z11, rfl⟩, b6⟩
        try simp only [runF, exs, ex, ev, evs, evt, evo, evi, evc, ok_bnd, ok_ret', ok_getV, ok_getC, ok_setC, ok_opt, ok_need, ok_ite, ok_mkLf, ok_mkLt, ok_notB, List.map_cons, List.map_nil, List.replicate_zero, List.replicate_succ, List.length_cons, List.length_nil, List.cons_append, List.nil_append, Nat.reduceSub, Nat.reduceAdd, List.getElem?_cons_zero, List.getElem?_cons_succ, Option.some.injEq, exists_eq_left', ixD_i, setIx_ri, appD_r, isC_r, items_tup, items_lst, items_fro, items_ref, tru_b, tru_i, b_add, b_sub, b_mul, b_div, b_mod, b_pow, b_band, addD_ii, subD_ii, mulD_ii, modD_ii, divD_ii, powD_ii, bandD_ii, addD_tt, addD_ll, c_eq, c_ne, c_lt, c_le, c_gt, c_ge, c_is, c_isn, isD_bb, eqD_ii, eqD_ss, eqD_bb, ltD_ii, leD_ii, bi_len, bi_max, bi_min, bi_tup, bi_lst, bi_repr, bi_all, maxB_ii, minB_ii, lenB_1, tupB_1, lstB_1, reprB_1, allB_1, slD_t, slD_l, slD_f, slD_r, ints2_ii, popD_ri, AG.wipeD, asg_n, asg_t, asg_p, AG.setAll, atI_0, atI_1, atI_2, atI_3, ixN_30, ixN_31, ixN_32, List.set_cons_zero, List.set_cons_succ, List.getElem?_set_self, List.length_set, Bool.and_eq_true, decide_eq_true_eq, decide_eq_false_iff_not, bne_iff_ne, bne_eq_false_iff_eq, Int.toNat_natCast]
        exact ⟨⟨_, _, _, _, _, _, _, _, rfl⟩, b6.up (by omega)⟩
    · rintro ρ S4 ⟨⟨y4, y5, y6, y7, y8, y9, y10, y11, rfl⟩, b4⟩
      have hr6 : (rngL 0 (Int.toNat 6)).length = 6 := rfl
      rw [hr6] at b4
      try simp only [runF, exs, ex, ev, evs, evt, evo, evi, evc, ok_bnd, ok_ret', ok_getV, ok_getC, ok_setC, ok_opt, ok_need, ok_ite, ok_mkLf, ok_mkLt, ok_notB, List.map_cons, List.map_nil, List.replicate_zero, List.replicate_succ, List.length_cons, List.length_nil, List.cons_append, List.nil_append, Nat.reduceSub, Nat.reduceAdd, List.getElem?_cons_zero, List.getElem?_cons_succ, Option.some.injEq, exists_eq_left', ixD_i, setIx_ri, appD_r, isC_r, items_tup, items_lst, items_fro, items_ref, tru_b, tru_i, b_add, b_sub, b_mul, b_div, b_mod, b_pow, b_band, addD_ii, subD_ii, mulD_ii, modD_ii, divD_ii, powD_ii, bandD_ii, addD_tt, addD_ll, c_eq, c_ne, c_lt, c_le, c_gt, c_ge, c_is, c_isn, isD_bb, eqD_ii, eqD_ss, eqD_bb, ltD_ii, leD_ii, bi_len, bi_max, bi_min, bi_tup, bi_lst, bi_repr, bi_all, maxB_ii, minB_ii, lenB_1, tupB_1, lstB_1, reprB_1, allB_1, slD_t, slD_l, slD_f, slD_r, ints2_ii, popD_ri, AG.wipeD, asg_n, asg_t, asg_p, AG.setAll, atI_0, atI_1, atI_2, atI_3, ixN_30, ixN_31, ixN_32, List.set_cons_zero, List.set_cons_succ, List.getElem?_set_self, List.length_set, Bool.and_eq_true, decide_eq_true_eq, decide_eq_false_iff_not, bne_iff_ne, bne_eq_false_iff_eq, Int.toNat_natCast]
      refine (hp S4 _ _ 400 b4 (by omega) (by omega) (by omega)).mono fun d S5 ⟨b, hd, hb4, b5, _, f5⟩ => ?_
      subst hd
      try simp only [runF, exs, ex, ev, evs, evt, evo, evi, evc, ok_bnd, ok_ret', ok_getV, ok_getC, ok_setC, ok_opt, ok_need, ok_ite, ok_mkLf, ok_mkLt, ok_notB, List.map_cons, List.map_nil, List.replicate_zero, List.replicate_succ, List.length_cons, List.length_nil, List.cons_append, List.nil_append, Nat.reduceSub, Nat.reduceAdd, List.getElem?_cons_zero, List.getElem?_cons_succ, Option.some.injEq, exists_eq_left', ixD_i, setIx_ri, appD_r, isC_r, items_tup, items_lst, items_fro, items_ref, tru_b, tru_i, b_add, b_sub, b_mul, b_div, b_mod, b_pow, b_band, addD_ii, subD_ii, mulD_ii, modD_ii, divD_ii, powD_ii, bandD_ii, addD_tt, addD_ll, c_eq, c_ne, c_lt, c_le, c_gt, c_ge, c_is, c_isn, isD_bb, eqD_ii, eqD_ss, eqD_bb, ltD_ii, leD_ii, bi_len, bi_max, bi_min, bi_tup, bi_lst, bi_repr, bi_all, maxB_ii, minB_ii, lenB_1, tupB_1, lstB_1, reprB_1, allB_1, slD_t, slD_l, slD_f, slD_r, ints2_ii, popD_ri, AG.wipeD, asg_n, asg_t, asg_p, AG.setAll, atI_0, atI_1, atI_2, atI_3, ixN_30, ixN_31, ixN_32, List.set_cons_zero, List.set_cons_succ, List.getElem?_set_self, List.length_set, Bool.and_eq_true, decide_eq_true_eq, decide_eq_false_iff_not, bne_iff_ne, bne_eq_false_iff_eq, Int.toNat_natCast]
      refine (ht S5 w 0 b hw hc1 (by omega)).mono fun d S6 ⟨rows, h', b', k, xs, g, st, hd, hk, hxl, hlast, f6, hl4⟩ => ?_
      subst hd
      try simp only [runF, exs, ex, ev, evs, evt, evo, evi, evc, ok_bnd, ok_ret', ok_getV, ok_getC, ok_setC, ok_opt, ok_need, ok_ite, ok_mkLf, ok_mkLt, ok_notB, List.map_cons, List.map_nil, List.replicate_zero, List.replicate_succ, List.length_cons, List.length_nil, List.cons_append, List.nil_append, Nat.reduceSub, Nat.reduceAdd, List.getElem?_cons_zero, List.getElem?_cons_succ, Option.some.injEq, exists_eq_left', ixD_i, setIx_ri, appD_r, isC_r, items_tup, items_lst, items_fro, items_ref, tru_b, tru_i, b_add, b_sub, b_mul, b_div, b_mod, b_pow, b_band, addD_ii, subD_ii, mulD_ii, modD_ii, divD_ii, powD_ii, bandD_ii, addD_tt, addD_ll, c_eq, c_ne, c_lt, c_le, c_gt, c_ge, c_is, c_isn, isD_bb, eqD_ii, eqD_ss, eqD_bb, ltD_ii, leD_ii, bi_len, bi_max, bi_min, bi_tup, bi_lst, bi_repr, bi_all, maxB_ii, minB_ii, lenB_1, tupB_1, lstB_1, reprB_1, allB_1, slD_t, slD_l, slD_f, slD_r, ints2_ii, popD_ri, AG.wipeD, asg_n, asg_t, asg_p, AG.setAll, atI_0, atI_1, atI_2, atI_3, ixN_30, ixN_31, ixN_32, List.set_cons_zero, List.set_cons_succ, List.getElem?_set_self, List.length_set, Bool.and_eq_true, decide_eq_true_eq, decide_eq_false_iff_not, bne_iff_ne, bne_eq_false_iff_eq, Int.toNat_natCast]
      refine hs.way g st hw hc1 (by omega) fun S7 f7 => ?_
      try simp only [runF, exs, ex, ev, evs, evt, evo, evi, evc, ok_bnd, ok_ret', ok_getV, ok_getC, ok_setC, ok_opt, ok_need, ok_ite, ok_mkLf, ok_mkLt, ok_notB, List.map_cons, List.map_nil, List.replicate_zero, List.replicate_succ, List.length_cons, List.length_nil, List.cons_append, List.nil_append, Nat.reduceSub, Nat.reduceAdd, List.getElem?_cons_zero, List.getElem?_cons_succ, Option.some.injEq, exists_eq_left', ixD_i, setIx_ri, appD_r, isC_r, items_tup, items_lst, items_fro, items_ref, tru_b, tru_i, b_add, b_sub, b_mul, b_div, b_mod, b_pow, b_band, addD_ii, subD_ii, mulD_ii, modD_ii, divD_ii, powD_ii, bandD_ii, addD_tt, addD_ll, c_eq, c_ne, c_lt, c_le, c_gt, c_ge, c_is, c_isn, isD_bb, eqD_ii, eqD_ss, eqD_bb, ltD_ii, leD_ii, bi_len, bi_max, bi_min, bi_tup, bi_lst, bi_repr, bi_all, maxB_ii, minB_ii, lenB_1, tupB_1, lstB_1, reprB_1, allB_1, slD_t, slD_l, slD_f, slD_r, ints2_ii, popD_ri, AG.wipeD, asg_n, asg_t, asg_p, AG.setAll, atI_0, atI_1, atI_2, atI_3, ixN_30, ixN_31, ixN_32, List.set_cons_zero, List.set_cons_succ, List.getElem?_set_self, List.length_set, Bool.and_eq_true, decide_eq_true_eq, decide_eq_false_iff_not, bne_iff_ne, bne_eq_false_iff_eq, Int.toNat_natCast]
      have hk7 : S7[k]? = some (some xs) := by
        have hkl := (List.getElem?_eq_some_iff.mp hk).1
        rw [f7.at_ k hkl (Nat.ne_of_lt hkl)]
        exact hk
      have hat : L2.atI xs (-1) = some (.tup [.int (h' : Nat), .int b']) := by rw [atI_m1, hxl]; exact hlast
      refine ⟨_, hk7, _, hat, ?_⟩
      try simp only [runF, exs, ex, ev, evs, evt, evo, evi, evc, ok_bnd, ok_ret', ok_getV, ok_getC, ok_setC, ok_opt, ok_need, ok_ite, ok_mkLf, ok_mkLt, ok_notB, List.map_cons, List.map_nil, List.replicate_zero, List.replicate_succ, List.length_cons, List.length_nil, List.cons_append, List.nil_append, Nat.reduceSub, Nat.reduceAdd, List.getElem?_cons_zero, List.getElem?_cons_succ, Option.some.injEq, exists_eq_left', ixD_i, setIx_ri, appD_r, isC_r, items_tup, items_lst, items_fro, items_ref, tru_b, tru_i, b_add, b_sub, b_mul, b_div, b_mod, b_pow, b_band, addD_ii, subD_ii, mulD_ii, modD_ii, divD_ii, powD_ii, bandD_ii, addD_tt, addD_ll, c_eq, c_ne, c_lt, c_le, c_gt, c_ge, c_is, c_isn, isD_bb, eqD_ii, eqD_ss, eqD_bb, ltD_ii, leD_ii, bi_len, bi_max, bi_min, bi_tup, bi_lst, bi_repr, bi_all, maxB_ii, minB_ii, lenB_1, tupB_1, lstB_1, reprB_1, allB_1, slD_t, slD_l, slD_f, slD_r, ints2_ii, popD_ri, AG.wipeD, asg_n, asg_t, asg_p, AG.setAll, atI_0, atI_1, atI_2, atI_3, ixN_30, ixN_31, ixN_32, List.set_cons_zero, List.set_cons_succ, List.getElem?_set_self, List.length_set, Bool.and_eq_true, decide_eq_true_eq, decide_eq_false_iff_not, bne_iff_ne, bne_eq_false_iff_eq, Int.toNat_natCast]
      refine ⟨fun z => by simp at z, fun _ => ?_⟩
      refine ⟨_, hk7, _, hat, ?_⟩
      have e : (if b' > -1 then b' else -1) = (if b' < 0 then -1 else b') := by
        by_cases c : b' < 0
        · rw [if_pos c, if_neg (by omega)]
        · rw [if_neg c, if_pos (by omega)]
      try simp only [runF, exs, ex, ev, evs, evt, evo, evi, evc, ok_bnd, ok_ret', ok_getV, ok_getC, ok_setC, ok_opt, ok_need, ok_ite, ok_mkLf, ok_mkLt, ok_notB, List.map_cons, List.map_nil, List.replicate_zero, List.replicate_succ, List.length_cons, List.length_nil, List.cons_append, List.nil_append, Nat.reduceSub, Nat.reduceAdd, List.getElem?_cons_zero, List.getElem?_cons_succ, Option.some.injEq, exists_eq_left', ixD_i, setIx_ri, appD_r, isC_r, items_tup, items_lst, items_fro, items_ref, tru_b, tru_i, b_add, b_sub, b_mul, b_div, b_mod, b_pow, b_band, addD_ii, subD_ii, mulD_ii, modD_ii, divD_ii, powD_ii, bandD_ii, addD_tt, addD_ll, c_eq, c_ne, c_lt, c_le, c_gt, c_ge, c_is, c_isn, isD_bb, eqD_ii, eqD_ss, eqD_bb, ltD_ii, leD_ii, bi_len, bi_max, bi_min, bi_tup, bi_lst, bi_repr, bi_all, maxB_ii, minB_ii, lenB_1, tupB_1, lstB_1, reprB_1, allB_1, slD_t, slD_l, slD_f, slD_r, ints2_ii, popD_ri, AG.wipeD, asg_n, asg_t, asg_p, AG.setAll, atI_0, atI_1, atI_2, atI_3, ixN_30, ixN_31, ixN_32, List.set_cons_zero, List.set_cons_succ, List.getElem?_set_self, List.length_set, Bool.and_eq_true, decide_eq_true_eq, decide_eq_false_iff_not, bne_iff_ne, bne_eq_false_iff_eq, Int.toNat_natCast]
      rw [e, decide_eq_true rfl]
      refine ⟨fun z => by simp at z, fun _ => ⟨_, hk7, ?_⟩⟩
      rw [decide_eq_true (show ((xs.length : Nat) : Int) = (rows.length : Nat) + 1 by omega)]
      exact ⟨fun z => by simp at z, fun _ => ⟨_, _, _, _, _, _, _, _, _, _, _, rfl⟩⟩
  · rintro ρ S' ⟨x1, x2, x3, x4, x5, x6, x7, x8, x9, x10, x11, rfl⟩
    try simp only [runF, exs, ex, ev, evs, evt, evo, evi, evc, ok_bnd, ok_ret', ok_getV, ok_getC, ok_setC, ok_opt, ok_need, ok_ite, ok_mkLf, ok_mkLt, ok_notB, List.map_cons, List.map_nil, List.replicate_zero, List.replicate_succ, List.length_cons, List.length_nil, List.cons_append, List.nil_append, Nat.reduceSub, Nat.reduceAdd, List.getElem?_cons_zero, List.getElem?_cons_succ, Option.some.injEq, exists_eq_left', ixD_i, setIx_ri, appD_r, isC_r, items_tup, items_lst, items_fro, items_ref, tru_b, tru_i, b_add, b_sub, b_mul, b_div, b_mod, b_pow, b_band, addD_ii, subD_ii, mulD_ii, modD_ii, divD_ii, powD_ii, bandD_ii, addD_tt, addD_ll, c_eq, c_ne, c_lt, c_le, c_gt, c_ge, c_is, c_isn, isD_bb, eqD_ii, eqD_ss, eqD_bb, ltD_ii, leD_ii, bi_len, bi_max, bi_min, bi_tup, bi_lst, bi_repr, bi_all, maxB_ii, minB_ii, lenB_1, tupB_1, lstB_1, reprB_1, allB_1, slD_t, slD_l, slD_f, slD_r, ints2_ii, popD_ri, AG.wipeD, asg_n, asg_t, asg_p, AG.setAll, atI_0, atI_1, atI_2, atI_3, ixN_30, ixN_31, ixN_32, List.set_cons_zero, List.set_cons_succ, List.getElem?_set_self, List.length_set, Bool.and_eq_true, decide_eq_true_eq, decide_eq_false_iff_not, bne_iff_ne, bne_eq_false_iff_eq, Int.toNat_natCast]
    try trivial
end
/-! ### the table -/
abbrev LV : Nat := 30
abbrev FU : Nat := 4000
theorem w_pick (l : Nat) : PickW (Phi FU TT (l + 1) "_law_pick") := by rw [phib_law_pick]; exact fun S k n many h hn h1 h2 => pick_run h hn h1 h2
theorem w_bag (l : Nat) : BagW (Phi FU TT (l + 1) "_law_bag") := by rw [phib_law_bag]; exact fun S cell => bag_run
theorem w_turn (l : Nat) : TurnW (Phi FU TT (l + 2) "_law_turn") := by rw [phib_law_turn]; exact fun S k n m h hn h1 h2 => turn_run (w_pick l) h hn h1 h2
theorem w_rule (l : Nat) : RuleW (Phi FU TT (l + 3) "_law_rule") := by rw [phib_law_rule]; exact rule_run (w_pick (l + 1)) (w_turn l)
theorem w_common (l : Nat) : ComW (Phi FU TT (l + 1) "_law_common") := by rw [phib_law_common]; exact common_run (by decide)
theorem w_lclock (l : Nat) : LcW (Phi FU TT (l + 2) "_law_clock") := by rw [phib_law_clock]; exact lclock_run (w_common l)
theorem w_tamed (l : Nat) : TamW (Phi FU TT (l + 1) "_law_tamed") := by rw [phib_law_tamed]; exact tamed_run
theorem w_web (l : Nat) : WebW (Phi FU TT (l + 4) "_law_web") := by rw [phib_law_web]; exact web_run (w_pick (l + 2)) (w_rule l) (w_lclock (l + 1)) (w_tamed (l + 2))
theorem w_rclock (l : Nat) : RcW (Phi FU TT (l + 1) "_rule_clock") := by rw [phib_rule_clock]; exact rclock_run
theorem w_clock (l : Nat) : ClW (Phi FU TT (l + 2) "clock") := by rw [phib_clock]; exact clock_run (w_rclock l)
theorem w_rat (l : Nat) : RatW (Phi FU TT (l + 1) "rule_at") := by rw [phib_rule_at]; exact rat_run
theorem w_after (l : Nat) : AfterW (Phi FU TT (l + 1) "after") := by rw [phib_after]; exact after_run
theorem w_stay (l : Nat) : StayW (Phi FU TT (l + 1) "staying") := by rw [phib_staying]; exact stay_run
theorem w_power (l : Nat) : PowW (Phi FU TT (l + 2) "power") := by rw [phib_power]; exact power_run (w_after l) (w_stay l) (by decide)
theorem w_often (l : Nat) : OftenW (Phi FU TT (l + 1) "often") := by rw [phib_often]; exact often_run (by decide)
theorem w_own (l : Nat) : OwnW (Phi FU TT (l + 1) "own_doing") := by rw [phib_own_doing]; exact own_run
theorem w_init (l : Nat) : InitW (Phi FU TT (l + 3) "Ways.__init__") := by rw [phib_Ways___init__]; exact init_run (w_clock l)
theorem w_wrule (l : Nat) : WRuleW (Phi FU TT (l + 2) "Ways.rule") := by rw [phib_Ways_rule]; exact wrule_run (w_rat l)
theorem w_what (l : Nat) : WhatW (Phi FU TT (l + 1) "Ways._what") := by rw [phib_Ways__what]; exact what_run
theorem w_round (l : Nat) : RoundW (Phi FU TT (l + 2) "Ways._round") := by rw [phib_Ways__round]; exact round_run (w_what l) (by decide)
theorem w_back (l : Nat) : BackW (Phi FU TT (l + 3) "Ways.back/3") := by rw [phib_Ways_back_3]; exact back_run (w_wrule l) (w_round l) (by decide)
theorem w_wturn (l : Nat) : TurW (Phi FU TT (l + 2) "Ways.turn") := by rw [phib_Ways_turn]; exact wturn_run (w_stay l) (w_after l) (w_what l)
theorem w_all (l : Nat) : AllW (Phi FU TT (l + 3) "Ways.turn_of_all") := by rw [phib_Ways_turn_of_all]; exact all_run (w_stay (l + 1)) (w_after (l + 1)) (w_power l) (w_wturn l)
theorem w_chg (l : Nat) : ChgW (Phi FU TT (l + 3) "Ways._changed") := by rw [phib_Ways__changed]; exact chg_run (w_wturn l) (w_often (l + 1)) (w_what (l + 1))
theorem w_begun (l : Nat) : BegW (Phi FU TT (l + 3) "Ways.begun") := by rw [phib_Ways_begun]; exact begun_run (w_wrule l) (w_own (l + 1))
theorem w_led (l : Nat) : LedW (Phi FU TT (l + 4) "Ways.led_on") := by rw [phib_Ways_led_on]; exact led_run (w_chg l)
theorem w_doing (l : Nat) : DoW (Phi FU TT (l + 5) "Ways.doing") := by rw [phib_Ways_doing]; exact doing_run (w_back (l + 1)) (w_begun (l + 1)) (w_led l)
theorem w_copies (l : Nat) : CopW (Phi FU TT (l + 1) "copies_in") := by rw [phib_copies_in]; exact copies_run
theorem w_source (l : Nat) : SrcW (Phi FU TT (l + 4) "source") := by rw [phib_source]; exact src_run (w_init l) (w_back l) (w_all l) (w_copies (l + 2))
theorem w_far (l : Nat) : FarW (Phi FU TT (l + 2) "_law_far") := by rw [phib_law_far]; exact far_run (w_pick l)
theorem w_doat (l : Nat) : DatW (Phi FU TT (l + 6) "doing_at") := by rw [phib_doing_at]; exact doat_run (w_init (l + 2)) (w_doing l)
theorem w_right (l : Nat) : RightW (Phi FU TT (l + 7) "_law_right") := by rw [phib_law_right]; exact right_run (w_rat (l + 5)) (w_source (l + 2)) (w_doat l) (w_after (l + 5))
theorem w_copd (l : Nat) : CopdW (Phi FU TT (l + 2) "_copied") := by rw [phib_copied]; exact copd_run (w_rat l)
theorem w_trace (l : Nat) : TraW (Phi FU TT (l + 3) "trace/3") := by rw [phib_trace_3]; exact trace_run (w_copd l) (by decide)
theorem law_true (ns : List Int) (h : ns.length ≤ 63) : ∃ S', Phi FU TT (LV + 1) "law" [.fro (ns.map D.int)] [] = .ok (.bl true) S' := by
  rw [phib_law]
  obtain ⟨d, S', e, hd⟩ := law_run (Φ := Phi FU TT 30) (fu := FU) (w_pick 29) (w_bag 29) (w_web 26) (w_far 28) (w_right 23) (w_trace 27) (w_source 26) ns h []
  subst hd
  exact ⟨S', e⟩
end AGL
open PySem PySem.W PyProof.Rows
set_option maxHeartbeats 0 in
theorem PySem.Challenge.cw_agohands_k17_whole_one_step_back_holds : PySem.Challenge.rw_agohands_k17_whole_one_step_back.Holds := by
  w_on; o_law; k_head; (case hw => w_witness2)
  k_fill
  refine AG.g_walk (l := PySem.Challenge.rw_agohands_k17_whole_one_step_back) (n := 63) (k := 2 * AGL.LV + 2) (x := "script") (sp := fun w => AG.spF _ 1 (AG.Phi AGL.FU AGL.TT (AGL.LV + 1) "law")) rfl (by decide) rfl ⟨rfl, by decide, by decide⟩ (fun w h Y => PySem.W.kIn_of Y) ?F (fun _ _ a ns hl hO hS => AG.law_word hO hS (AGL.law_true ns hl))
  case F =>
    intro w mg fa h KX G hmg
    refine' AGL.all_mk KX G hmg ?q0 ?r0 ?s0 ?u0 ?v0 ?w0 ?x0 ?a0 ?l0 ?c0 ?k0 ?a1 ?l1 ?c1 ?k1 ?a2 ?l2 ?c2 ?k2 ?a3 ?l3 ?c3 ?k3 ?a4 ?l4 ?c4 ?k4 ?a5 ?l5 ?c5 ?k5 ?a6 ?l6 ?c6 ?k6 ?a7 ?l7 ?c7 ?k7 ?a8 ?l8 ?c8 ?k8 ?m9 ?i9 ?l9 ?c9 ?k9 ?m10 ?i10 ?l10 ?c10 ?k10 ?m11 ?i11 ?l11 ?c11 ?k11 ?m12 ?i12 ?l12 ?c12 ?k12 ?m13 ?i13 ?l13 ?c13 ?k13 ?m14 ?i14 ?l14 ?c14 ?k14 ?m15 ?i15 ?l15 ?c15 ?k15 ?m16 ?i16 ?l16 ?c16 ?k16 ?m17 ?i17 ?l17 ?c17 ?k17 ?m18 ?i18 ?l18 ?c18 ?k18 ?a19 ?l19 ?c19 ?k19 ?a20 ?l20 ?c20 ?k20 ?a21 ?l21 ?c21 ?k21 ?a22 ?l22 ?c22 ?k22 ?a23 ?l23 ?c23 ?k23 ?a24 ?l24 ?c24 ?k24 ?a25 ?l25 ?c25 ?k25 ?a26 ?l26 ?c26 ?k26 ?a27 ?l27 ?c27 ?k27 ?a28 ?l28 ?c28 ?k28 ?a29 ?l29 ?c29 ?k29 ?a30 ?l30 ?c30 ?k30 ?a31 ?l31 ?c31 ?k31 ?m32 ?i32 ?p32 ?l32 ?c32 ?k32 ?a33 ?p33 ?l33 ?c33 ?k33 ?a34 ?l34 ?c34 ?k34 ?n0 ?n1 ?n2 ?z0 ?z1 ?z2 ?z3 ?z4 ?z5 ?z6 ?z7 ?z8 ?y0 AGL.FU AGL.LV
    (case q0 => k_is)
    (case r0 => k_is)
    (case s0 => k_is)
    (case u0 => k_is)
    (case v0 => k_is)
    (case w0 => k_is)
    (case x0 => k_is)
    (case a0 => k_is)
    (case l0 => k_is)
    (case c0 => k_is)
    (case k0 => k_is)
    (case a1 => k_is)
    (case l1 => k_is)
    (case c1 => k_is)
    (case k1 => k_is)
    (case a2 => k_is)
    (case l2 => k_is)
    (case c2 => k_is)
    (case k2 => k_is)
    (case a3 => k_is)
    (case l3 => k_is)
    (case c3 => k_is)
    (case k3 => k_is)
    (case a4 => k_is)
    (case l4 => k_is)
    (case c4 => k_is)
    (case k4 => k_is)
    (case a5 => k_is)
    (case l5 => k_is)
    (case c5 => k_is)
    (case k5 => k_is)
    (case a6 => k_is)
    (case l6 => k_is)
    (case c6 => k_is)
    (case k6 => k_is)
    (case a7 => k_is)
    (case l7 => k_is)
    (case c7 => k_is)
    (case k7 => k_is)
    (case a8 => k_is)
    (case l8 => k_is)
    (case c8 => k_is)
    (case k8 => k_is)
    (case m9 => k_is)
    (case i9 => k_is)
    (case l9 => k_is)
    (case c9 => k_is)
    (case k9 => k_is)
    (case m10 => k_is)
    (case i10 => k_is)
    (case l10 => k_is)
    (case c10 => k_is)
    (case k10 => k_is)
    (case m11 => k_is)
    (case i11 => k_is)
    (case l11 => k_is)
    (case c11 => k_is)
    (case k11 => k_is)
    (case m12 => k_is)
    (case i12 => k_is)
    (case l12 => k_is)
    (case c12 => k_is)
    (case k12 => k_is)
    (case m13 => k_is)
    (case i13 => k_is)
    (case l13 => k_is)
    (case c13 => k_is)
    (case k13 => k_is)
    (case m14 => k_is)
    (case i14 => k_is)
    (case l14 => k_is)
    (case c14 => k_is)
    (case k14 => k_is)
    (case m15 => k_is)
    (case i15 => k_is)
    (case l15 => k_is)
    (case c15 => k_is)
    (case k15 => k_is)
    (case m16 => k_is)
    (case i16 => k_is)
    (case l16 => k_is)
    (case c16 => k_is)
    (case k16 => k_is)
    (case m17 => k_is)
    (case i17 => k_is)
    (case l17 => k_is)
    (case c17 => k_is)
    (case k17 => k_is)
    (case m18 => k_is)
    (case i18 => k_is)
    (case l18 => k_is)
    (case c18 => k_is)
    (case k18 => k_is)
    (case a19 => k_is)
    (case l19 => k_is)
    (case c19 => k_is)
    (case k19 => k_is)
    (case a20 => k_is)
    (case l20 => k_is)
    (case c20 => k_is)
    (case k20 => k_is)
    (case a21 => k_is)
    (case l21 => k_is)
    (case c21 => k_is)
    (case k21 => k_is)
    (case a22 => k_is)
    (case l22 => k_is)
    (case c22 => k_is)
    (case k22 => k_is)
    (case a23 => k_is)
    (case l23 => k_is)
    (case c23 => k_is)
    (case k23 => k_is)
    (case a24 => k_is)
    (case l24 => k_is)
    (case c24 => k_is)
    (case k24 => k_is)
    (case a25 => k_is)
    (case l25 => k_is)
    (case c25 => k_is)
    (case k25 => k_is)
    (case a26 => k_is)
    (case l26 => k_is)
    (case c26 => k_is)
    (case k26 => k_is)
    (case a27 => k_is)
    (case l27 => k_is)
    (case c27 => k_is)
    (case k27 => k_is)
    (case a28 => k_is)
    (case l28 => k_is)
    (case c28 => k_is)
    (case k28 => k_is)
    (case a29 => k_is)
    (case l29 => k_is)
    (case c29 => k_is)
    (case k29 => k_is)
    (case a30 => k_is)
    (case l30 => k_is)
    (case c30 => k_is)
    (case k30 => k_is)
    (case a31 => k_is)
    (case l31 => k_is)
    (case c31 => k_is)
    (case k31 => k_is)
    (case m32 => k_is)
    (case i32 => k_is)
    (case p32 => k_is)
    (case l32 => k_is)
    (case c32 => k_is)
    (case k32 => k_is)
    (case a33 => k_is)
    (case p33 => k_is)
    (case l33 => k_is)
    (case c33 => k_is)
    (case k33 => k_is)
    (case a34 => k_is)
    (case l34 => k_is)
    (case c34 => k_is)
    (case k34 => k_is)
    (case n0 => k_is)
    (case n1 => k_is)
    (case n2 => k_is)
    (case z0 => k_is)
    (case z1 => k_is)
    (case z2 => k_is)
    (case z3 => k_is)
    (case z4 => k_is)
    (case z5 => k_is)
    (case z6 => k_is)
    (case z7 => k_is)
    (case z8 => k_is)
    (case y0 => k_is)
