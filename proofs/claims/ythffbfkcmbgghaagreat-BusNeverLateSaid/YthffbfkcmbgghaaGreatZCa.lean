/-
  A clean machine: Go's operations over blocks with numbers of their own, in one order, without a draw.
-/
import Derived.RangeFuncNested
import Derived.RangeFuncLeaves
import Derived.Lib.Hide
import Derived.KernelRfl
import Derived.Orders
set_option linter.all false
namespace Go.Proofs.YthffbfkcmbgghaaGreat.Cm
open Go
inductive Tr (α : Type) where
  | e
  | n (v : Option α) (l r : Tr α)
namespace Tr
variable {α : Type}
def get : Tr α → Nat → Option α
  | .e, _ => none
  | .n v l r, k => bif Nat.beq k 0 then v else bif Nat.beq (k % 2) 1 then l.get (k / 2) else r.get (k / 2 - 1)
def set : Nat → Tr α → Nat → Option α → Tr α
  | 0, t, _, _ => t
  | f + 1, .e, k, x => bif Nat.beq k 0 then .n x .e .e else bif Nat.beq (k % 2) 1 then .n none (set f .e (k / 2) x) .e else .n none .e (set f .e (k / 2 - 1) x)
  | f + 1, .n v l r, k, x => bif Nat.beq k 0 then .n x l r else bif Nat.beq (k % 2) 1 then .n v (set f l (k / 2) x) r else .n v l (set f r (k / 2 - 1) x)
def put (t : Tr α) (k : Nat) (x : Option α) : Tr α := t.set (k + 1) k x
end Tr
/-! Strings as numbers, a number for each. -/
def encN : List UInt8 → Nat
  | [] => 0
  | b :: l => encN l * 256 + b.toNat + 1
def decN (n : Nat) : List UInt8 :=
  match n with
  | 0 => []
  | n + 1 => UInt8.ofNat (n % 256) :: decN (n / 256)
termination_by n
decreasing_by exact Nat.lt_succ_of_le (Nat.div_le_self ..)
theorem dec_enc : ∀ l, decN (encN l) = l
  | [] => by rw [encN, decN]
  | b :: l => by
    have hb := b.toNat_lt
    rw [encN, decN, show (encN l * 256 + b.toNat) % 256 = b.toNat by omega, show (encN l * 256 + b.toNat) / 256 = encN l by omega, dec_enc l]
    simp
theorem enc_dec (n : Nat) : encN (decN n) = n := by
  induction n using Nat.strongRecOn with
  | _ n ih =>
    cases n with
    | zero => rw [decN, encN]
    | succ n =>
      rw [decN, encN, ih (n / 256) (Nat.lt_succ_of_le (Nat.div_le_self ..)), UInt8.toNat_ofNat']
      omega
def zagI (n : Nat) : Int := bif Nat.beq (n % 2) 0 then Int.ofNat (n / 2) else Int.negSucc (n / 2)
def zigI : Int → Nat
  | .ofNat n => 2 * n
  | .negSucc n => 2 * n + 1
theorem zag_zig : ∀ i, zagI (zigI i) = i
  | .ofNat n => by
    show (bif Nat.beq (2 * n % 2) 0 then Int.ofNat (2 * n / 2) else _) = _
    rw [show 2 * n % 2 = 0 by omega, show 2 * n / 2 = n by omega]; rfl
  | .negSucc n => by
    show (bif Nat.beq ((2 * n + 1) % 2) 0 then _ else Int.negSucc ((2 * n + 1) / 2)) = _
    rw [show (2 * n + 1) % 2 = 1 by omega, show (2 * n + 1) / 2 = n by omega]; rfl
theorem zig_zag (n : Nat) : zigI (zagI n) = n := by
  unfold zagI
  rcases (show n % 2 = 0 ∨ n % 2 = 1 by omega) with h | h <;> rw [h]
  · show 2 * (n / 2) = n; omega
  · show 2 * (n / 2) + 1 = n; omega
def codeS (s : ByteArray) : Int := zagI (encN s.data.toList)
def strOf (i : Int) : ByteArray := ⟨(decN (zigI i)).toArray⟩
theorem strOf_code (s : ByteArray) : strOf (codeS s) = s := by
  unfold strOf codeS
  rw [zig_zag, dec_enc]
theorem code_strOf (i : Int) : codeS (strOf i) = i := by
  unfold strOf codeS
  rw [List.toList_toArray, enc_dec, zag_zig]
theorem strOf_inj {i j : Int} (h : strOf i = strOf j) : i = j := by rw [← code_strOf i, h, code_strOf]
theorem ba_beq (a b : ByteArray) : (a == b) = decide (a = b) := by
  obtain ⟨a⟩ := a
  obtain ⟨b⟩ := b
  have h : ((ByteArray.mk a) == (ByteArray.mk b)) = (a == b) := rfl
  rw [h]
  by_cases e : a = b
  · subst e; simp
  · rw [decide_eq_false (fun q => e (by injection q)), beq_eq_false_iff_ne]; exact e
theorem str_beq (i j : Int) : (strOf i == strOf j) = (i == j) := by
  rw [ba_beq]
  by_cases h : i = j
  · subst h; simp
  · rw [show (i == j) = false from by simpa using h]
    exact decide_eq_false fun e => h (strOf_inj e)
def sln (i : Int) : Int := ((strOf i).size : Int)
def sat (i k : Int) : Int := match (strOf i)[k.toNat]? with
  | some c => (c.toNat : Int)
  | none => 0
def scat (i j : Int) : Int := codeS (strOf i ++ strOf j)
def scut (i a b : Int) : Int := codeS ((strOf i).extract a.toNat b.toNat)
def bitE (o : BinOp) (k : IntKind) (a b : Int) : Int :=
  match o with
  | .and => k.wrap (BitVec.ofInt k.bits a &&& BitVec.ofInt k.bits b).toNat
  | .or => k.wrap (BitVec.ofInt k.bits a ||| BitVec.ofInt k.bits b).toNat
  | .xor => k.wrap (BitVec.ofInt k.bits a ^^^ BitVec.ofInt k.bits b).toNat
  | .andNot => k.wrap (BitVec.ofInt k.bits a &&& ~~~(BitVec.ofInt k.bits b)).toNat
  | .shl => k.wrap (a * 2 ^ (min b.toNat k.bits))
  | .shr => a.fdiv (2 ^ (min b.toNat k.bits))
  | _ => 0
inductive Ex where
  | c (n : Int)
  | v (i : Nat)
  | add (k : IntKind) (a b : Ex)
  | sub (k : IntKind) (a b : Ex)
  | mul (k : IntKind) (a b : Ex)
  | quo (k : IntKind) (a b : Ex)
  | rem (k : IntKind) (a b : Ex)
  | wr (k : IntKind) (a : Ex)
  | sln (a : Ex)
  | sat (a b : Ex)
  | cat (a b : Ex)
  | cut (a b d : Ex)
  | bit (o : BinOp) (k : IntKind) (a b : Ex)
  deriving Inhabited
def Ex.ev (ρ : Nat → Int) : Ex → Int
  | .c n => n
  | .v i => ρ i
  | .add k a b => k.wrap (a.ev ρ + b.ev ρ)
  | .sub k a b => k.wrap (a.ev ρ - b.ev ρ)
  | .mul k a b => k.wrap (a.ev ρ * b.ev ρ)
  | .quo k a b => k.wrap ((a.ev ρ).tdiv (b.ev ρ))
  | .rem _ a b => (a.ev ρ).tmod (b.ev ρ)
  | .wr k a => k.wrap (a.ev ρ)
  | .sln a => Cm.sln (a.ev ρ)
  | .sat a b => Cm.sat (a.ev ρ) (b.ev ρ)
  | .cat a b => scat (a.ev ρ) (b.ev ρ)
  | .cut a b d => scut (a.ev ρ) (b.ev ρ) (d.ev ρ)
  | .bit o k a b => bitE o k (a.ev ρ) (b.ev ρ)
def Ex.beq : Ex → Ex → Bool
  | .c m, .c n => m == n
  | .v i, .v j => Nat.beq i j
  | .add k a b, .add k' a' b' => decide (k = k') && a.beq a' && b.beq b'
  | .sub k a b, .sub k' a' b' => decide (k = k') && a.beq a' && b.beq b'
  | .mul k a b, .mul k' a' b' => decide (k = k') && a.beq a' && b.beq b'
  | .quo k a b, .quo k' a' b' => decide (k = k') && a.beq a' && b.beq b'
  | .rem k a b, .rem k' a' b' => decide (k = k') && a.beq a' && b.beq b'
  | .wr k a, .wr k' a' => decide (k = k') && a.beq a'
  | .sln a, .sln a' => a.beq a'
  | .sat a b, .sat a' b' => a.beq a' && b.beq b'
  | .cat a b, .cat a' b' => a.beq a' && b.beq b'
  | .cut a b d, .cut a' b' d' => a.beq a' && b.beq b' && d.beq d'
  | .bit o k a b, .bit o' k' a' b' => decide (o = o') && decide (k = k') && a.beq a' && b.beq b'
  | _, _ => false
theorem Ex.eq_of_beq {a : Ex} : ∀ {b : Ex}, a.beq b = true → a = b := by
  induction a with
  | c m => intro x h; cases x <;> first | (cases h; done) | (rw [show m = _ from by simpa [Ex.beq] using h])
  | v m => intro x h; cases x <;> first | (cases h; done) | (rw [show m = _ from Nat.eq_of_beq_eq_true h])
  | add k a b iha ihb => intro x h; cases x <;> first | (cases h; done) | (simp only [Ex.beq, Bool.and_eq_true, decide_eq_true_eq] at h; rw [h.1.1, iha h.1.2, ihb h.2])
  | sub k a b iha ihb => intro x h; cases x <;> first | (cases h; done) | (simp only [Ex.beq, Bool.and_eq_true, decide_eq_true_eq] at h; rw [h.1.1, iha h.1.2, ihb h.2])
  | mul k a b iha ihb => intro x h; cases x <;> first | (cases h; done) | (simp only [Ex.beq, Bool.and_eq_true, decide_eq_true_eq] at h; rw [h.1.1, iha h.1.2, ihb h.2])
  | quo k a b iha ihb => intro x h; cases x <;> first | (cases h; done) | (simp only [Ex.beq, Bool.and_eq_true, decide_eq_true_eq] at h; rw [h.1.1, iha h.1.2, ihb h.2])
  | rem k a b iha ihb => intro x h; cases x <;> first | (cases h; done) | (simp only [Ex.beq, Bool.and_eq_true, decide_eq_true_eq] at h; rw [h.1.1, iha h.1.2, ihb h.2])
  | wr k a iha => intro x h; cases x <;> first | (cases h; done) | (simp only [Ex.beq, Bool.and_eq_true, decide_eq_true_eq] at h; rw [h.1, iha h.2])
  | sln a iha => intro x h; cases x <;> first | (cases h; done) | (simp only [Ex.beq] at h; rw [iha h])
  | sat a b iha ihb => intro x h; cases x <;> first | (cases h; done) | (simp only [Ex.beq, Bool.and_eq_true] at h; rw [iha h.1, ihb h.2])
  | cat a b iha ihb => intro x h; cases x <;> first | (cases h; done) | (simp only [Ex.beq, Bool.and_eq_true] at h; rw [iha h.1, ihb h.2])
  | cut a b d iha ihb ihd => intro x h; cases x <;> first | (cases h; done) | (simp only [Ex.beq, Bool.and_eq_true] at h; rw [iha h.1.1, ihb h.1.2, ihd h.2])
  | bit o k a b iha ihb => intro x h; cases x <;> first | (cases h; done) | (simp only [Ex.beq, Bool.and_eq_true, decide_eq_true_eq] at h; rw [h.1.1.1, h.1.1.2, iha h.1.2, ihb h.2])
def cmpC (op : BinOp) (a b : Int) : Option Bool :=
  match op with
  | .eql => some (a == b)
  | .neq => some (a != b)
  | .lss => some (decide (a < b))
  | .leq => some (decide (a ≤ b))
  | .gtr => some (decide (a > b))
  | .geq => some (decide (a ≥ b))
  | _ => none
inductive CV where
  | bool (b : Bool)
  | bs (e : Ex)
  | int (k : IntKind) (n : Int)
  | sym (k : IntKind) (e : Ex)
  | str (s : ByteArray)
  | ss (e : Ex)
  | nilp
  | ptr (b o : Nat)
  | nils
  | sl (b o n z : Nat)
  | gs (b k : Nat) (e : Ex) (z : Nat) (f : Bool)
  | gp (b k : Nat) (x : Ex) (z d : Nat)
  | nilm
  | map (b : Nat)
  | fn (f : FuncId) (first cap : List CV)
  | yield (b : Nat)
  | nilf
  | agg (l : List CV)
  | tup (l : List CV)
  | lit (v : Value)
  | niln
  deriving Inhabited
def CV.nn : CV → CV
  | .niln => .nils
  | c => c
def CV.cells : CV → List CV
  | .agg l => l
  | v => [v]
def CV.cell : CV → Bool
  | .agg _ => false
  | .tup _ => false
  | _ => true
def pureS {α : Type} (P : Program) : Sem α → Option α
  | .pure a => some a
  | .program k => pureS P (k P)
  | _ => none
inductive CE where
  | normal
  | exit (id : Nat)
  | ret
  | goto (l : Nat)
  deriving DecidableEq
inductive CObj where
  | cells (l : List CV) (t : TypeId) (ro : Bool)
  | loop (st : LoopState) (pe : Option CE) (ts : Tr CV) (nt : Nat) (ps : List Tmp) (at_ : Nat × List Nat) (df : Nat)
  | dfr
  | map (l : List (CV × CV))
  | rows (i : Nat) (l : List CV) (t : TypeId) (ro : Bool)
  | iter (m since : Nat) (seen : List Nat) (last : Nat)
  | glob (g : Nat) (k : IntKind) (zs : List Nat)
def CObj.isGlob : CObj → Bool
  | .glob .. => true
  | _ => false
structure CH where
  n : Nat
  m : Tr CObj
def CH.get (h : CH) (b : Nat) : Option CObj := h.m.get b
def CH.put (h : CH) (b : Nat) (o : Option CObj) : CH := ⟨h.n, h.m.put b o⟩
def CH.new (h : CH) (o : CObj) : CH := ⟨h.n + 1, h.m.put h.n (some o)⟩
def CV.pv (ρ : Nat → Int) : CV → Option Value
  | .bool b => some (.bool b)
  | .bs e => some (.bool (e.ev ρ != 0))
  | .int k n => some (.int k n)
  | .sym k e => some (.int k (e.ev ρ))
  | .str s => some (.string s)
  | .ss e => some (.string (strOf (e.ev ρ)))
  | _ => none
def pvs (ρ : Nat → Int) : List CV → Option (List Value)
  | [] => some []
  | c :: l => match c.pv ρ, pvs ρ l with
    | some v, some vs => some (v :: vs)
    | _, _ => none
def zerosV (z : List Value) : Nat → List Value
  | 0 => []
  | n + 1 => z ++ zerosV z n
structure Kp (h h' : CH) (lw : Nat) : Prop where
  n : h.n ≤ h'.n
  same : ∀ b, b < lw → b < h.n → h'.get b = h.get b
  wf : (∀ b, h.n ≤ b → h.get b = none) → (∀ b, h'.n ≤ b → h'.get b = none)
  ng : ∀ b o, h'.get b = some o → o.isGlob = true → h.get b = some o
class Val where
  ρ : Nat → Int
  lst : Nat → List Value
  cod : Nat × List Nat → Code × Code
class Dec where
  ask : BinOp → Ex → Ex → Option Bool
  known : FuncId → List CV → CH → Option (CV × CH × Nat)
  row : Nat → Nat → Ex → Option (List CV)
  upd : Nat → Nat → Ex → Nat → Nat → List CV → Option Nat
  made : Ex → List CV → Option Nat
  lenL : Nat → Nat → Option Ex
class Env extends Dec, Val where
  ok : ∀ {op : BinOp} {a b : Ex} {r : Bool}, ask op a b = some r → cmpC op (a.ev ρ) (b.ev ρ) = some r
  rowOk : ∀ {i k : Nat} {x : Ex} {cs : List CV}, row i k x = some cs → 0 ≤ x.ev ρ ∧ ∃ vs, pvs ρ cs = some vs ∧ ((lst i).drop ((k + (x.ev ρ).toNat) * cs.length)).take cs.length = vs
  updOk : ∀ {i k : Nat} {x : Ex} {z d : Nat} {cs : List CV} {j : Nat}, upd i k x z d cs = some j → 0 ≤ x.ev ρ ∧ ∃ vs, pvs ρ cs = some vs ∧ (k + (x.ev ρ).toNat) * z + d + cs.length ≤ (lst i).length ∧ lst j = (lst i).take ((k + (x.ev ρ).toNat) * z + d) ++ vs ++ (lst i).drop ((k + (x.ev ρ).toNat) * z + d + cs.length)
  madeOk : ∀ {e : Ex} {zs : List CV} {j : Nat}, made e zs = some j → ∃ vs, pvs ρ zs = some vs ∧ lst j = zerosV vs (e.ev ρ).toNat
  knKp : ∀ {f : FuncId} {args : List CV} {h h' : CH} {c : CV} {lw : Nat}, known f args h = some (c, h', lw) → Kp h h' lw ∧ lw ≤ h.n
  lenOk : ∀ {i z : Nat} {e : Ex}, lenL i z = some e → ((lst i).length : Int) = e.ev ρ * z ∧ 0 ≤ e.ev ρ ∧ ∀ u ∈ lst i, u.oneCell' = true
abbrev Fact := BinOp × Ex × Ex × Bool
def askL (op : BinOp) (a b : Ex) : List Fact → Option Bool
  | [] => none
  | (o, x, y, r) :: l => bif decide (o = op) && x.beq a && y.beq b then some r else askL op a b l
def selfC : BinOp → Option Bool
  | .eql => some true
  | .leq => some true
  | .geq => some true
  | .neq => some false
  | .lss => some false
  | .gtr => some false
  | _ => none
def askF (l : List Fact) (op : BinOp) (a b : Ex) : Option Bool := bif a.beq b then selfC op else askL op a b l
variable [Dec]
def askO (op : BinOp) (a b : Ex) : Option Bool :=
  match a, b with
  | .c m, .c n => cmpC op m n
  | a, b => Dec.ask op a b
def askB (op : BinOp) (a b : Ex) : Bool :=
  match askO op a b with
  | some r => r
  | none => false
def asB : CV → Option Bool
  | .bool b => some b
  | .bs e => askO .neq e (.c 0)
  | _ => none
def useC : CV → Option CV
  | .bs e => (askO .neq e (.c 0)).map .bool
  | c => some c
def addN (e : Ex) (m : Nat) : Ex :=
  match m, e with
  | 0, e => e
  | m, .c n => .c (n + m)
  | m, e => .add .i64 e (.c m)
def subN (e : Ex) (m : Nat) : Ex :=
  match m, e with
  | 0, e => e
  | m, .c n => .c (n - m)
  | m, e => .sub .i64 e (.c m)
structure St where
  ts : Tr CV
  nt : Nat
  df : List Nat
  h : CH
  lw : Nat
def ofV1 : Value → Option CV
  | .bool b => some (.bool b)
  | .int k n => some (.int k n)
  | .string s => some (.str s)
  | .pointer none => some .nilp
  | .slice none 0 0 => some .niln
  | .map none => some .nilm
  | .nilFunc => some .nilf
  | .float k x => some (.lit (.float k x))
  | .complex k x y => some (.lit (.complex k x y))
  | _ => none
def litC (P : Program) (s : Sem Value) : Option CV := (pureS P s).bind ofV1
def plainV : CV → Option Value
  | .lit v => some v
  | .int k n => some (.int k n)
  | _ => none
def plainVs : List CV → Option (List Value)
  | [] => some []
  | c :: l => match plainV c, plainVs l with
    | some v, some vs => some (v :: vs)
    | _, _ => none
def ofVs : List Value → Option (List CV)
  | [] => some []
  | v :: l => match ofV1 v, ofVs l with
    | some c, some cs => some (c :: cs)
    | _, _ => none
def ofV : Value → Option CV
  | .agg ⟨l⟩ => (ofVs l).map .agg
  | v => ofV1 v
section
variable (P : Program)
def isAggC (t : TypeId) : Option Bool :=
  match P.underlying t with
  | some (.struct _) => some true
  | some (.array _ _) => some true
  | some _ => some false
  | none => none
def szC (t : TypeId) : Option Nat := (P.info? t).map (·.size)
def zeroC (t : TypeId) : Option CV := ((P.info? t).bind (·.zero)).bind ofV
end
def argC (ts : Tr CV) : Operand → Option CV
  | .tmp t => (ts.get t).bind useC
  | .const v => ofV v
  | .global _ => none
  | .func f => some (.fn f [] [])
def argsC (ts : Tr CV) : List Operand → Option (List CV)
  | [] => some []
  | x :: l => match argC ts x, argsC ts l with
    | some c, some cs => some (c :: cs)
    | _, _ => none
abbrev Out := Option (CV × CH × Nat)
def readC (h : CH) (b o n : Nat) : Option (List CV) :=
  match h.get b with
  | some (.cells l _ _) => bif Nat.ble (o + n) l.length then some ((l.drop o).take n) else none
  | _ => none
def partC (P : Program) (t : TypeId) (cs : List CV) (off : Nat) : Option CV :=
  match isAggC P t, szC P t with
  | some true, some n => bif Nat.ble (off + n) cs.length then some (.agg ((cs.drop off).take n)) else none
  | some false, _ => cs[off]?
  | _, _ => none
def loadC (P : Program) (h : CH) (t : TypeId) : CV → Option CV
  | .ptr b o =>
    match isAggC P t, szC P t with
    | some true, some n => (readC h b o n).map .agg
    | some false, _ => match readC h b o 1 with
      | some [c] => some c
      | _ => none
    | _, _ => none
  | .gp b k x z d =>
    match h.get b with
    | some (.rows i _ _ _) => match Dec.row i k x with
      | some cs => bif Nat.beq cs.length z then partC P t cs d else none
      | none => none
    | _ => none
  | _ => none
def storeC (P : Program) (h : CH) (t : TypeId) (v : CV) : CV → Option (CH × Nat)
  | .ptr b o =>
    match szC P t, h.get b with
    | some n, some (.cells l e false) =>
      bif Nat.beq v.cells.length n && Nat.ble (o + n) l.length && v.cells.all (·.cell) then some (h.put b (some (.cells (l.take o ++ v.cells ++ l.drop (o + n)) e false)), b) else none
    | _, _ => none
  | .gp b k x z d =>
    match szC P t, h.get b with
    | some n, some (.rows i l e false) => match Dec.upd i k x z d v.cells with
      | some j => bif Nat.beq v.cells.length n then some (h.put b (some (.rows j l e false)), b) else none
      | none => none
    | _, _ => none
  | _ => none
def fillC (place : Nat → Option (Nat × Nat)) (cells : List CV) : List (Nat × CV) → Option (List CV)
  | [] => some cells
  | (i, v) :: rest =>
    match place i with
    | none => none
    | some (off, size) => bif Nat.beq v.cells.length size && Nat.ble (off + size) cells.length then fillC place (cells.take off ++ v.cells ++ cells.drop (off + size)) rest else none
def partsC (ts : Tr CV) : List (Nat × Operand) → Option (List (Nat × CV))
  | [] => some []
  | (i, x) :: l => match argC ts x, partsC ts l with
    | some c, some cs => some ((i, c) :: cs)
    | _, _ => none
def placesC (P : Program) : List Field → Option (List (Nat × Nat))
  | [] => some []
  | f :: l => match szC P f.type, placesC P l with
    | some z, some ps => some ((f.offset, z) :: ps)
    | _, _ => none
def buildC (P : Program) (t : TypeId) (parts : List (Nat × CV)) : Option CV :=
  match zeroC P t, P.underlying t with
  | some z, some (.struct fs) => match placesC P fs.toList with
    | some pl => (fillC (pl[·]?) z.cells parts).map .agg
    | none => none
  | some z, some (.array _ e) => match szC P e with
    | some n => (fillC (fun i => some (i * n, n)) z.cells parts).map .agg
    | none => none
  | _, _ => none
def zerosC (z : List CV) : Nat → List CV
  | 0 => []
  | n + 1 => z ++ zerosC z n
def buildSliceC0 (P : Program) (t : TypeId) (len : Nat) (parts : List (Nat × CV)) (h : CH) : Out :=
  match P.underlying t with
  | some (.slice e) => match szC P e, zeroC P e with
    | some n, some z => bif Nat.beq z.cells.length n && Nat.blt 0 n && Nat.ble (len * n) 16777216 then match fillC (fun i => some (i * n, n)) (zerosC z.cells len) parts with
      | some cs => some (.sl h.n 0 len n, h.new (.cells cs e false), h.n + 1)
      | none => none
      else none
    | _, _ => none
  | _ => none
def buildSliceC (P : Program) (t : TypeId) (len : Nat) (parts : List (Nat × CV)) (h : CH) : Out :=
  bif Nat.beq len 0 then match buildSliceC0 P t len parts h with
    | some _ => some (.nils, h, h.n)
    | none => none
  else buildSliceC0 P t len parts h
def exOf : CV → Option (IntKind × Ex)
  | .int k n => some (k, .c n)
  | .sym k e => some (k, e)
  | _ => none
def eqSym (x y : CV) : Option Bool :=
  match exOf x, exOf y with
  | some (k, a), some (k', b) => if k = k' then Dec.ask .eql a b else none
  | _, _ => none
def strC : CV → Option Ex
  | .str s => some (.c (codeS s))
  | .ss e => some e
  | _ => none
def eqStr (x y : CV) : Option Bool :=
  match strC x, strC y with
  | some a, some b => askO .eql a b
  | _, _ => none
def symC (op : BinOp) (k : IntKind) (a b : Ex) : Option CV :=
  match op with
  | .and => some (.sym k (.bit .and k a b))
  | .or => some (.sym k (.bit .or k a b))
  | .xor => some (.sym k (.bit .xor k a b))
  | .andNot => some (.sym k (.bit .andNot k a b))
  | .add => some (.sym k (.add k a b))
  | .sub => some (.sym k (.sub k a b))
  | .mul => some (.sym k (.mul k a b))
  | .quo => match askO .eql b (.c 0) with
    | some false => some (.sym k (.quo k a b))
    | _ => none
  | .rem => match askO .eql b (.c 0) with
    | some false => some (.sym k (.rem k a b))
    | _ => none
  | op => (askO op a b).map .bool
def intC (op : BinOp) (k : IntKind) (a b : Int) : Option CV :=
  match op with
  | .add => some (.int k (k.wrap (a + b)))
  | .sub => some (.int k (k.wrap (a - b)))
  | .mul => some (.int k (k.wrap (a * b)))
  | .quo => bif b == 0 then none else some (.int k (k.wrap (a.tdiv b)))
  | .rem => bif b == 0 then none else some (.int k (a.tmod b))
  | .and => some (.int k (k.wrap (BitVec.ofInt k.bits a &&& BitVec.ofInt k.bits b).toNat))
  | .or => some (.int k (k.wrap (BitVec.ofInt k.bits a ||| BitVec.ofInt k.bits b).toNat))
  | .xor => some (.int k (k.wrap (BitVec.ofInt k.bits a ^^^ BitVec.ofInt k.bits b).toNat))
  | .andNot => some (.int k (k.wrap (BitVec.ofInt k.bits a &&& ~~~(BitVec.ofInt k.bits b)).toNat))
  | op => (cmpC op a b).map .bool
def eqFs (P : Program) (eq : TypeId → List CV → List CV → Option Bool) (xs ys : List CV) : List Field → Option Bool
  | [] => some true
  | f :: l => bif f.name == "_" then none else match szC P f.type with
    | some n => match eq f.type ((xs.drop f.offset).take n) ((ys.drop f.offset).take n) with
      | some true => eqFs P eq xs ys l
      | some false => some false
      | none => none
    | none => none
def eqEs (eq : List CV → List CV → Option Bool) (n : Nat) (xs ys : List CV) : List Nat → Option Bool
  | [] => some true
  | i :: l => match eq ((xs.drop (i * n)).take n) ((ys.drop (i * n)).take n) with
    | some true => eqEs eq n xs ys l
    | some false => some false
    | none => none
def eqC (P : Program) : Nat → TypeId → List CV → List CV → Option Bool
  | 0, _, _, _ => none
  | d + 1, t, xs, ys =>
    match P.underlying t with
    | some .bool => match xs, ys with
      | [x], [y] => match asB x, asB y with
        | some a, some b => some (a == b)
        | _, _ => none
      | _, _ => none
    | some (.int _) => match xs, ys with
      | [.int k a], [.int k' b] => if k = k' then some (a == b) else none
      | [x], [y] => eqSym x y
      | _, _ => none
    | some .string => match xs, ys with
      | [.str a], [.str b] => some (a == b)
      | [x], [y] => eqStr x y
      | _, _ => none
    | some (.pointer _) => match xs, ys with
      | [.nilp], [.nilp] => some true
      | [.nilp], [.ptr _ _] => some false
      | [.ptr _ _], [.nilp] => some false
      | _, _ => none
    | some (.struct fs) => bif P.stoodInHeld t then none else eqFs P (eqC P d) xs ys fs.toList
    | some (.array len e) => match szC P e with
      | some n => eqEs (eqC P d e) n xs ys (List.range len)
      | none => none
    | _ => none
def aggOk (P : Program) (t : TypeId) (x : CV) : Bool :=
  match isAggC P t, x with
  | some true, .agg _ => true
  | some false, .lit _ => false
  | some false, x => x.cell
  | _, _ => false
def binC0 (P : Program) (op : BinOp) (t : TypeId) (x y : CV) : Option CV :=
  match op, x, y with
  | .shl, .int k a, .int _ b => bif decide (b < 0) then none else some (.int k (k.wrap (a * 2 ^ (min b.toNat k.bits))))
  | .shr, .int k a, .int _ b => bif decide (b < 0) then none else some (.int k (a.fdiv (2 ^ (min b.toNat k.bits))))
  | op, .int k a, .int k' b => if k = k' then intC op k a b else none
  | .eql, .str a, .str b => some (.bool (a.toList == b.toList))
  | .neq, .str a, .str b => some (.bool !(a.toList == b.toList))
  | .add, .str a, .str b => bif Nat.ble (a.size + b.size) 1048576 then some (.str (a ++ b)) else none
  | .eql, x, y => bif P.eqGuardType P.depth t || !(aggOk P t x && aggOk P t y) then none else (eqC P 20 t x.cells y.cells).map .bool
  | .neq, x, y => bif P.eqGuardType P.depth t || !(aggOk P t x && aggOk P t y) then none else (eqC P 20 t x.cells y.cells).map fun b => .bool !b
  | _, _, _ => none
def strB (op : BinOp) (a b : Ex) : Option CV :=
  match op with
  | .eql => (askO .eql a b).map .bool
  | .neq => (askO .eql a b).map fun r => .bool !r
  | .add => bif askB .lss (.sln a) (.c 4611686018427387904) && askB .lss (.sln b) (.c 4611686018427387904) then some (.ss (.cat a b)) else none
  | _ => none
def isShift : BinOp → Bool
  | .shl => true
  | .shr => true
  | _ => false
def shiftC (op : BinOp) (k : IntKind) (a b : Ex) : Option CV :=
  bif askB .leq (.c 0) b then some (.sym k (.bit op k a b)) else none
def binS (P : Program) (op : BinOp) (t : TypeId) (x y : CV) : Option CV :=
  match x, y with
  | .ss a, .ss b => strB op a b
  | .ss a, .str b => strB op a (.c (codeS b))
  | .str a, .ss b => strB op (.c (codeS a)) b
  | x, y => binC0 P op t x y
def binC (P : Program) (op : BinOp) (t : TypeId) (x y : CV) : Option CV :=
  match x, y with
  | .sym k a, .sym k' b => bif isShift op then shiftC op k a b else if k = k' then symC op k a b else none
  | .sym k a, .int k' b => bif isShift op then shiftC op k a (.c b) else if k = k' then symC op k a (.c b) else none
  | .int k a, .sym k' b => bif isShift op then shiftC op k (.c a) b else if k = k' then symC op k (.c a) b else none
  | x, y => binS P op t x y
def isNilK : Operand → Bool
  | .const (.slice none 0 0) => true
  | _ => false
def notNilC : Option CV → Bool
  | some (.sl _ _ n _) => Nat.blt 0 n
  | some (.gs _ _ e _ _) => askB .lss (.c 0) e
  | _ => false
def nilCmp (P : Program) (op : BinOp) (t : TypeId) (y : Operand) (x : Option CV) : Option CV :=
  match P.underlying t, op with
  | some (.slice _), .eql => bif isNilK y && notNilC x then some (.bool false) else none
  | some (.slice _), .neq => bif isNilK y && notNilC x then some (.bool true) else none
  | _, _ => none
def nilEq (P : Program) (op : BinOp) (t : TypeId) (y : Operand) (x : Option CV) : Option CV :=
  match x, P.underlying t, op with
  | some .niln, some (.slice _), .eql => bif isNilK y then some (.bool true) else none
  | some .niln, some (.slice _), .neq => bif isNilK y then some (.bool false) else none
  | _, _, _ => none
def binL (P : Program) (op : BinOp) (t : TypeId) (x y : CV) : Option CV :=
  match x, y with
  | .lit u, .lit v => match op with
    | .eql => none
    | .neq => none
    | op => litC P (binOp op t u v)
  | x, y => binC P op t x y
def binX (P : Program) (op : BinOp) (t : TypeId) (x y : Operand) (ts : Tr CV) : Option CV :=
  match nilCmp P op t y (argC ts x) with
  | some c => some c
  | none => match nilEq P op t y (argC ts x) with
    | some c => some c
    | none => match argC ts x, argC ts y with
      | some a, some b => binL P op t a b
      | _, _ => none
def unC : UnOp → CV → Option CV
  | .neg, .int k n => some (.int k (k.wrap (0 - n)))
  | .neg, .sym k e => some (.sym k (.sub k (.c 0) e))
  | .not, .bool b => some (.bool !b)
  | _, _ => none
def convC (P : Program) (src dst : TypeId) (x : CV) : Option CV :=
  match P.underlying src, P.underlying dst, x with
  | some (.int _), some (.int k), .int _ n => some (.int k (k.wrap n))
  | some (.int _), some (.int k), .sym _ e => some (.sym k (.wr k e))
  | _, _, _ => none
def isFloatT (P : Program) (t : TypeId) : Bool :=
  match P.underlying t with
  | some (.float _) => true
  | _ => false
def convL (P : Program) (src dst : TypeId) (x : CV) : Option CV :=
  match x with
  | .lit v => litC P (convert src dst v)
  | .int k n => bif isFloatT P dst then litC P (convert src dst (.int k n)) else convC P src dst (.int k n)
  | x => convC P src dst x
def allBytes : ByteArray := ⟨((List.range 256).map UInt8.ofNat).toArray⟩
def bytesC (P : Program) (s : TypeId) (h : CH) (x : CV) : Option CV :=
  match P.underlying s, x with
  | some .string, .str b => some (.str b)
  | some .string, .ss e => some (.ss e)
  | some (.slice el), .sl b o 1 1 => match P.underlying el with
    | some (.int .u8) => match h.get b with
      | some (.cells cs _ _) => match cs[o]? with
        | some (.int .u8 v) => some (.str ⟨#[UInt8.ofNat v.toNat]⟩)
        | some (.sym .u8 (.wr .u8 e)) => some (.ss (.cut (.c (codeS allBytes)) (.wr .u8 e) (.add .i64 (.wr .u8 e) (.c 1))))
        | _ => none
      | _ => none
    | _ => none
  | _, _ => none
def isStrT (P : Program) (t : TypeId) : Bool :=
  match P.underlying t with
  | some .string => true
  | _ => false
def fieldAddrC (P : Program) (s : TypeId) (f : Nat) : CV → Option CV
  | .ptr b o => match P.underlying s with
    | some (.struct fs) => match fs[f]? with
      | some fd => match szC P fd.type with
        | some (_ + 1) => some (.ptr b (o + fd.offset))
        | _ => none
      | none => none
    | _ => none
  | .gp b k x z d => match P.underlying s with
    | some (.struct fs) => match fs[f]? with
      | some fd => match szC P fd.type with
        | some (_ + 1) => some (.gp b k x z (d + fd.offset))
        | _ => none
      | none => none
    | _ => none
  | _ => none
def fieldC (P : Program) (t : TypeId) (f : Nat) : CV → Option CV
  | .agg cs => match P.underlying t with
    | some (.struct fs) => match fs[f]? with
      | some fd => partC P fd.type cs fd.offset
      | none => none
    | _ => none
  | _ => none
def indexAddrG (P : Program) (t : TypeId) (x i : CV) : Option CV :=
  match x, P.underlying t with
  | .gs b k e z _, some (.slice el) => match szC P el, exOf i with
    | some z', some (_, y) => bif Nat.beq z z' && askB .leq (.c 0) y && askB .lss y e then some (.gp b k y z 0) else none
    | _, _ => none
  | .gp b k y z d, some (.array n el) => match i, szC P el with
    | .int _ i, some m => bif decide (0 ≤ i) && decide (i < (n : Int)) then some (.gp b k y z (d + i.toNat * m)) else none
    | _, _ => none
  | _, _ => none
def indexAddrC0 (P : Program) (t : TypeId) (x i : CV) : Option CV :=
  match i, x, P.underlying t with
  | .int _ i, .sl b o n z, some (.slice e) => match szC P e with
    | some z' => bif Nat.beq z z' && decide (0 ≤ i) && decide (i < (n : Int)) then some (.ptr b (o + i.toNat * z)) else none
    | none => none
  | .int _ i, .ptr b o, some (.array n e) => match szC P e with
    | some z => bif decide (0 ≤ i) && decide (i < (n : Int)) then some (.ptr b (o + i.toNat * z)) else none
    | none => none
  | i, x, _ => indexAddrG P t x i
def pickN (y : Ex) : Nat → Option Nat
  | 0 => none
  | n + 1 => bif askB .eql y (.c n) then some n else pickN y n
def pickI (n : Nat) : CV → Option CV
  | .sym k y => bif Nat.ble n 16 then (pickN y n).map fun (j : Nat) => CV.int k (j : Int) else none
  | _ => none
def roomX (P : Program) (t : TypeId) (x : CV) : Nat :=
  match x, P.underlying t with
  | .sl _ _ n _, some (.slice _) => n
  | .ptr _ _, some (.array n _) => n
  | .agg _, some (.array n _) => n
  | _, _ => 0
def indexAddrC (P : Program) (t : TypeId) (x i : CV) : Option CV :=
  match indexAddrC0 P t x i with
  | some c => some c
  | none => match pickI (roomX P t x) i with
    | some i' => indexAddrC0 P t x i'
    | none => none
def arrAtC (P : Program) (t : TypeId) : CV → Option CV
  | .sl b o n _ => match P.underlying t with
    | some (.array m _) => bif Nat.ble m n && Nat.blt 0 n then some (.ptr b o) else none
    | _ => none
  | _ => none
def indexC0 (P : Program) (t : TypeId) (x i : CV) : Option CV :=
  match i, x, P.underlying t with
  | .int _ i, .agg cs, some (.array n e) => match szC P e with
    | some z => bif decide (0 ≤ i) && decide (i < (n : Int)) then partC P e cs (i.toNat * z) else none
    | none => none
  | .int _ i, .str s, some .string => bif decide (0 ≤ i) then match s[i.toNat]? with
    | some c => some (.int .u8 c.toNat)
    | none => none
    else none
  | i, x, some .string => match exOf i, strC x with
    | some (_, y), some e => bif askB .leq (.c 0) y && askB .lss y (.sln e) then some (.sym .u8 (.sat e y)) else none
    | _, _ => none
  | _, _, _ => none
def indexC (P : Program) (t : TypeId) (x i : CV) : Option CV :=
  match indexC0 P t x i with
  | some c => some c
  | none => match pickI (roomX P t x) i with
    | some i' => indexC0 P t x i'
    | none => none
def boundC (d : Nat) (m : Nat) : Option CV → Option Nat
  | none => some d
  | some (.int _ i) => bif decide (0 ≤ i) && decide (i ≤ (m : Int)) then some i.toNat else none
  | _ => none
def roomC (h : CH) (b n : Nat) : Bool :=
  match h.get b with
  | some (.cells l _ _) => Nat.ble n l.length
  | _ => false
def lowC : Option CV → Option Nat
  | none => some 0
  | some (.int _ i) => bif decide (0 ≤ i) then some i.toNat else none
  | _ => none
def highC (e : Ex) : Option CV → Option Ex
  | none => some e
  | some c => match exOf c with
    | some (_, y) => bif askB .leq y e then some y else none
    | none => none
def sliceG (P : Program) (t : TypeId) (x : CV) (lo hi : Option CV) : Option CV :=
  match x, P.underlying t with
  | .gs b k e z f, some (.slice el) => match szC P el, lowC lo, highC e hi with
    | some z', some l, some y => bif Nat.beq z z' && askB .leq (.c l) y && askB .lss y (.c 4611686018427387904) then some (.gs b (k + l) (subN y l) z f) else none
    | _, _, _ => none
  | _, _ => none
def exO (d : Ex) : Option CV → Option Ex
  | none => some d
  | some c => (exOf c).map (·.2)
def sliceS (P : Program) (t : TypeId) (x : CV) (lo hi : Option CV) : Option CV :=
  match strC x, P.underlying t with
  | some e, some .string => match exO (.c 0) lo, exO (.sln e) hi with
    | some l, some u => bif askB .leq (.c 0) l && askB .leq l u && askB .leq u (.sln e) then some (.ss (.cut e l u)) else none
    | _, _ => none
  | _, _ => none
def sliceK (P : Program) (t : TypeId) (x : CV) (lo hi : Option CV) : Option CV :=
  match x, P.underlying t with
  | .str s, some .string => match boundC s.size s.size hi with
    | some u => match boundC 0 u lo with
      | some l => some (.str (s.extract l u))
      | none => none
    | none => none
  | _, _ => none
def zeroO : Option CV → Bool
  | none => true
  | some (.int _ n) => n == 0
  | _ => false
def sliceN (P : Program) (t : TypeId) (x : CV) (lo hi : Option CV) : Option CV :=
  match x, P.underlying t with
  | .nils, some (.slice e) => match szC P e with
    | some _ => bif zeroO lo && zeroO hi then some .nils else none
    | none => none
  | _, _ => none
def sliceC (P : Program) (t : TypeId) (x : CV) (lo hi : Option CV) (h : CH) : Option CV :=
  match x, P.underlying t with
  | .sl b o n z, some (.slice e) => match szC P e, boundC n n hi with
    | some z', some u => match boundC 0 u lo with
      | some l => bif Nat.beq z z' then some (.sl b (o + l * z) (u - l) z) else none
      | none => none
    | _, _ => none
  | .ptr b o, some (.array n e) => match szC P e, boundC n n hi with
    | some z, some u => match boundC 0 u lo with
      | some l => bif roomC h b (o + n * z) then some (.sl b (o + l * z) (u - l) z) else none
      | none => none
    | _, _ => none
  | x, _ => match sliceG P t x lo hi with
    | some c => some c
    | none => match sliceK P t x lo hi with
      | some c => some c
      | none => match sliceN P t x lo hi with
        | some c => some c
        | none => sliceS P t x lo hi
def slice3C (P : Program) (t : TypeId) (x : CV) (lo hi : Option CV) (m : CV) : Option CV :=
  match P.underlying t, hi, m with
  | some (.slice e), some (.int _ a), .int _ b => match szC P e with
    | some _ => bif zeroO lo && a == 0 && b == 0 && (match x with | .nils => true | .sl .. => true | .gs .. => true | _ => false) then some .nils else none
    | none => none
  | _, _, _ => none
def makeSliceC (P : Program) (t : TypeId) (len cap : CV) (h : CH) : Out :=
  match len, cap, P.underlying t with
  | .int _ n, .int _ c, some (.slice e) => match szC P e, zeroC P e with
    | some z, some v => bif Nat.ble (P.bytesOf e) 65536 && Nat.beq v.cells.length z && Nat.blt 0 z && n == c && decide (0 ≤ n) && decide (n < 65536) then
        some (.sl h.n 0 n.toNat z, h.new (.cells (zerosC v.cells n.toNat) e false), h.n + 1) else none
    | _, _ => none
  | .sym _ a, .sym _ b, some (.slice e) => match szC P e, zeroC P e with
    | some z, some v => bif Nat.ble (P.bytesOf e) 65536 && Nat.beq v.cells.length z && Nat.blt 0 z && a.beq b && askB .leq (.c 0) a && askB .lss a (.c 65536) then
        match Dec.made a v.cells with
        | some j => some (.gs h.n 0 a z true, h.new (.rows j [] e false), h.n + 1)
        | none => none
        else none
    | _, _ => none
  | _, _, _ => none
def findC (P : Program) (t : TypeId) (k : CV) : List (CV × CV) → Nat → Option (Option (Nat × CV))
  | [], _ => some none
  | (a, v) :: l, i => match bif aggOk P t a then eqC P 20 t k.cells a.cells else none with
    | some true => some (some (i, v))
    | some false => findC P t k l (i + 1)
    | none => none
def keyFs (P : Program) (key : TypeId → List CV → Bool) (xs : List CV) : List Field → Bool
  | [] => true
  | f :: l => (bif f.name == "_" then true else match szC P f.type, isAggC P f.type with
    | some n, some _ => Nat.ble (f.offset + n) xs.length && Nat.blt 0 n && key f.type ((xs.drop f.offset).take n)
    | _, _ => false) && keyFs P key xs l
def keyEs (key : List CV → Bool) (n : Nat) (xs : List CV) : List Nat → Bool
  | [] => true
  | i :: l => Nat.ble (i * n + n) xs.length && Nat.blt 0 n && key ((xs.drop (i * n)).take n) && keyEs key n xs l
def keyC (P : Program) : Nat → TypeId → List CV → Bool
  | 0, _, _ => false
  | d + 1, t, xs =>
    match P.underlying t with
    | some .bool => true
    | some (.int _) => true
    | some .string => true
    | some (.struct fs) => keyFs P (keyC P d) xs fs.toList
    | some (.array len e) => match szC P e, isAggC P e with
      | some n, some _ => keyEs (keyC P d e) n xs (List.range len)
      | _, _ => false
    | _ => false
def sameC : List CV → List CV → Bool
  | [], [] => true
  | .int k a :: l, .int k' b :: m => decide (k = k') && a == b && sameC l m
  | .bool a :: l, .bool b :: m => a == b && sameC l m
  | .str a :: l, .str b :: m => a == b && sameC l m
  | _, _ => false
def lookupC (P : Program) (t : TypeId) (m k : CV) (ok : Bool) (h : CH) : Option CV :=
  match m, P.underlying t with
  | .map b, some (.map kt vt) => match h.get b, zeroC P vt with
    | some (.map l), some z => bif !(keyC P 20 kt k.cells && aggOk P kt k) then none else match findC P kt k l 0 with
      | some (some (_, v)) => some (bif ok then .tup [v, .bool true] else v)
      | some none => some (bif ok then .tup [z, .bool false] else z)
      | none => none
    | _, _ => none
  | _, _ => none
def insertC (P : Program) (t : TypeId) (m k v : CV) (h : CH) : Option (CH × Nat) :=
  match m, P.underlying t with
  | .map b, some (.map kt _) => match h.get b with
    | some (.map l) => bif !(keyC P 20 kt k.cells && aggOk P kt k) then none else match findC P kt k l 0 with
      | some (some (i, _)) => match l[i]? with
        | some (a, _) => bif sameC a.cells k.cells && a.cell == k.cell then some (h.put b (some (.map (l.set i (k, v)))), b) else none
        | none => none
      | some none => some (h.put b (some (.map (l ++ [(k, v)]))), b)
      | none => none
    | _ => none
  | _, _ => none
def candC (n since : Nat) (seen : List Nat) : List (Option Nat) :=
  (bif (((List.range n).filter fun i => !seen.contains i).filter fun i => Nat.blt i since).isEmpty then [none] else []) ++
    ((((List.range n).filter fun i => !seen.contains i).filter fun i => Nat.blt i since) ++ (((List.range n).filter fun i => !seen.contains i).filter fun i => !Nat.blt i since)).map some
def iterOk (n last : Nat) (seen : List Nat) : Bool := seen.isEmpty || Nat.beq n 0 || Nat.blt 0 last
def rangeMC (P : Program) (t : TypeId) (x : CV) (h : CH) : Option (CV × CH × Nat) :=
  match P.underlying t, x with
  | some (.map _ _), .map b => match h.get b with
    | some (.map l) => some (.ptr h.n 0, h.new (.iter b l.length [] l.length), h.n + 1)
    | _ => none
  | _, _ => none
def nextTo (h : CH) (b m since : Nat) (seen : List Nat) (l : List (CV × CV)) : Option Nat → Option (CV × CH × Nat)
  | none => some (.tup [.bool false], h, h.n)
  | some i => match l[i]? with
    | some (k, v) => some (.tup [.bool true, k, v], h.put b (some (.iter m since (seen ++ [i]) l.length)), b)
    | none => none
def nextAll (h : CH) (b m since : Nat) (seen : List Nat) (l : List (CV × CV)) : List (Option Nat) → Option (List (CV × CH × Nat))
  | [] => some []
  | x :: xs => match nextTo h b m since seen l x, nextAll h b m since seen l xs with
    | some r, some rs => some (r :: rs)
    | _, _ => none
def nextsC (h : CH) : CV → Option (List (CV × CH × Nat))
  | .ptr b 0 => match h.get b with
    | some (.iter m since seen last) => match h.get m with
      | some (.map l) => bif iterOk l.length last seen then nextAll h b m since seen l (candC l.length since seen) else none
      | _ => none
    | _ => none
  | _ => none
def nextC (h : CH) (it : CV) : Option (CV × CH × Nat) :=
  match nextsC h it with
  | some [r] => some r
  | _ => none
def entryC (h : CH) : CV → Option CV
  | .ptr b 0 => match h.get b with
    | some (.iter m _ seen last) => match h.get m, seen.getLast? with
      | some (.map l), some i => bif Nat.beq l.length last then (match l[i]? with
        | some (k, v) => some (.tup [k, v])
        | none => none) else none
      | _, _ => none
    | _ => none
  | _ => none
def rowC (h : CH) : CV → Option (List CV × Nat)
  | .nils => some ([], 0)
  | .sl b o n z => (readC h b o (n * z)).map fun l => (l, n)
  | _ => none
def zeroFits (P : Program) (e : TypeId) (z : Nat) : Bool :=
  match zeroC P e with
  | some v => Nat.beq v.cells.length z
  | none => false
def fitsC (P : Program) (e : TypeId) (z : Nat) (new : List CV) (m : Nat) : Bool :=
  Nat.ble (P.bytesOf e) 65536 && zeroFits P e z && new.all (·.cell) && Nat.beq new.length (m * z)
def appendC0 (P : Program) (t : TypeId) (s x : CV) (h : CH) : Out :=
  match P.underlying t with
  | some (.slice e) => match szC P e, rowC h x with
    | some z, some (new, m) =>
      bif !fitsC P e z new m then none else
      match s with
      | .nils => bif Nat.beq m 0 then some (.nils, h, h.n) else bif Nat.blt m 65536 then some (.sl h.n 0 m z, h.new (.cells new e false), h.n + 1) else none
      | .sl b o n z' => bif Nat.beq m 0 then some (.sl b o n z', h, h.n) else match h.get b with
        | some (.cells l t' false) =>
          bif Nat.beq t' e && Nat.beq z z' && Nat.beq (o + n * z) l.length && Nat.blt (n + m) 65536 then
            some (.sl h.n 0 (n + m) z, (h.put b none).new (.cells (l.drop o ++ new) e false), b) else none
        | _ => none
      | .gs b k y z' true => bif Nat.beq m 0 then some (.gs b k y z' true, h, h.n) else match h.get b with
        | some (.rows i l t' false) => match Dec.lenL i z with
          | some y0 => bif Nat.beq k 0 && Nat.beq t' e && Nat.beq z z' && Nat.beq (l.length % z) 0 && y.beq (addN y0 (l.length / z)) && askB .lss y0 (.c 65536) && Nat.blt (l.length / z + m) 65536 then
            some (.gs h.n 0 (addN y0 (l.length / z + m)) z true, (h.put b none).new (.rows i (l ++ new) e false), b) else none
          | none => none
        | _ => none
      | _ => none
    | _, _ => none
  | _ => none
def appendR (P : Program) (t : TypeId) (s x : CV) (h : CH) : Out :=
  match P.underlying t with
  | some (.slice e) => match szC P e, x with
    | some z, .gs bx kx y zx _ => match h.get bx with
      | some (.rows i l _ _) => match Dec.lenL i z with
        | some y0 =>
          bif Nat.beq kx 0 && Nat.beq z zx && l.all (·.cell) && Nat.beq (l.length % z) 0 && y.beq (addN y0 (l.length / z)) && askB .lss y0 (.c 65536) && Nat.blt (l.length / z) 65536 && Nat.ble (P.bytesOf e) 65536 && zeroFits P e z then
            match s with
            | .nils => some (.gs h.n 0 y z true, h.new (.rows i l e false), h.n + 1)
            | .sl b 0 0 z' => match h.get b with
              | some (.cells [] t' false) => bif Nat.beq t' e && Nat.beq z z' then some (.gs h.n 0 y z true, (h.put b none).new (.rows i l e false), b) else none
              | _ => none
            | _ => none
          else none
        | none => none
      | _ => none
    | _, _ => none
  | _ => none
def appendS (P : Program) (t : TypeId) (s x : CV) (h : CH) : Out :=
  match s with
  | .sl b o n z => match h.get b with
    | some (.cells l t' false) => match appendC0 P t s x (h.put b (some (.cells (l.take (o + n * z)) t' false))) with
      | some (c, h', lw) => some (c, h', min lw b)
      | none => none
    | _ => none
  | _ => none
def appendC (P : Program) (t : TypeId) (s x : CV) (h : CH) : Out :=
  match appendC0 P t s x h with
  | some r => some r
  | none => match appendR P t s x h with
    | some r => some r
    | none => appendS P t s x h
def appendZ (P : Program) (t : TypeId) (s x : CV) (h : CH) : Out :=
  match P.underlying t, s, x with
  | some (.slice e), .nils, .int .i64 n => match szC P e, zeroC P e with
    | some z, some zc => bif decide (0 < n) && decide (n < 65536) && Nat.beq zc.cells.length z && Nat.blt 0 z && Nat.ble (P.bytesOf e) 65536 then
        some (.sl h.n 0 n.toNat z, h.new (.cells (zerosC zc.cells n.toNat) e false), h.n + 1) else none
    | _, _ => none
  | _, _, _ => none
def capC (P : Program) (t : TypeId) (x : CV) : Option CV :=
  match P.underlying t, x with
  | some (.slice _), .nils => some (.int .i64 0)
  | _, _ => none
def copyC (P : Program) (t : TypeId) (d s : CV) (h : CH) : Out :=
  match P.underlying t, d, s with
  | some (.slice el), .sl b o n z, .sl b2 o2 n2 z2 => match szC P el, h.get b, readC h b2 o2 (min n2 n * z) with
    | some z', some (.cells l e false), some vs =>
      bif Nat.beq z z' && Nat.beq z z2 && Nat.blt 0 (min n2 n) && Nat.blt 0 z && Nat.ble (o + vs.length) l.length && vs.all (·.cell) then
        some (.int .i64 (min n2 n : Nat), h.put b (some (.cells (l.take o ++ vs ++ l.drop (o + vs.length)) e false)), b) else none
    | _, _, _ => none
  | _, _, _ => none
def lenC (P : Program) (t : TypeId) (x : CV) (h : CH) : Option CV :=
  match P.underlying t, x with
  | some (.slice _), .nils => some (.int .i64 0)
  | some (.slice _), .sl _ _ n _ => some (.int .i64 n)
  | some (.slice _), .gs _ _ (.c n) _ _ => some (.int .i64 n)
  | some (.slice _), .gs _ _ e _ _ => some (.sym .i64 e)
  | some .string, .str s => some (.int .i64 s.size)
  | some .string, .ss e => some (.sym .i64 (.sln e))
  | some (.map _ _), .nilm => some (.int .i64 0)
  | some (.map _ _), .map b => match h.get b with
    | some (.map l) => some (.int .i64 l.length)
    | _ => none
  | _, _ => none
def minFrom (mx : Bool) : CV → List CV → Option CV
  | a, [] => some a
  | a, b :: l => match exOf a, exOf b with
    | some (k, x), some (k', y) => if k = k' then match (bif mx then askO .lss x y else askO .lss y x) with
      | some r => minFrom mx (bif r then b else a) l
      | none => none
      else none
    | _, _ => none
def minC (mx : Bool) : List CV → Option CV
  | a :: l => match exOf a with
    | some _ => minFrom mx a l
    | none => none
  | _ => none
def optC (ts : Tr CV) : Option Operand → Option (Option CV)
  | none => some none
  | some x => match argC ts x with
    | some c => some (some c)
    | none => none
/-! Where code lies: a function, and the way into its body, the last step first. -/
def kidC : Code → Nat → Code
  | .seq a b, i => bif Nat.beq i 0 then a else b
  | .block _ a, _ => a
  | .cond _ a b, i => bif Nat.beq i 0 then a else b
  | .loop a, _ => a
  | .rangeFunc _ _ a b, i => bif Nat.beq i 0 then a else b
  | .scope a, _ => a
  | _, _ => .skip
def bodyC (P : Program) (f : Nat) : Code := match P.funcs[f]? with
  | some fn => match fn.body with
    | some c => c
    | none => .skip
  | none => .skip
def codeAt (P : Program) (f : Nat) : List Nat → Code
  | [] => bodyC P f
  | i :: p => kidC (codeAt P f p) i
def rangeAt (P : Program) (l : Nat × List Nat) : Code × Code := (kidC (codeAt P l.1 l.2) 0, kidC (codeAt P l.1 l.2) 1)
abbrev Loc := Option (Nat × List Nat)
def kidL (i : Nat) : Loc → Loc
  | some l => some (l.1, i :: l.2)
  | none => none
def LocOk (P : Program) : Loc → Code → Prop
  | some l, c => codeAt P l.1 l.2 = c
  | none, _ => True
theorem LocOk.kid {P : Program} {l : Loc} {c : Code} (h : LocOk P l c) (i : Nat) : LocOk P (kidL i l) (kidC c i) := by
  cases l with
  | none => trivial
  | some l => show kidC (codeAt P l.1 l.2) i = _; rw [show codeAt P l.1 l.2 = c from h]
abbrev Runs := Option Nat → Loc → Code → St → Option (CE × St)
def resC (P : Program) (s : St) : List ResultVar → Option (List CV)
  | [] => some []
  | .tmp t :: l => match s.ts.get t, resC P s l with
    | some c, some cs => some (c :: cs)
    | _, _ => none
  | .cell a t :: l => match (s.ts.get a).bind (loadC P s.h t), resC P s l with
    | some c, some cs => some (c :: cs)
    | _, _ => none
def setArgs : Tr CV → Nat → List CV → Tr CV
  | t, _, [] => t
  | t, k, c :: l => setArgs (t.put k (some c)) (k + 1) l
def one : List CV → CV
  | [c] => c
  | l => .tup l
def dfrs (lw : Nat) (h : CH) : List Nat → Option CH
  | [] => some h
  | d :: l => match h.get d with
    | some .dfr => bif Nat.ble lw d then dfrs lw (h.put d none) l else none
    | _ => none
def endC (P : Program) (fn : Func) (s : St) : Out :=
  match dfrs s.lw s.h s.df with
  | some h => match resC P { s with h := h } fn.results.toList with
    | some l => some (one l, h, s.lw)
    | none => none
  | none => none
def callC0 (P : Program) (run : Runs) (f : FuncId) (args : List CV) (h : CH) : Out :=
  match P.funcs[f]? with
  | some fn => match fn.body with
    | some c =>
      bif Nat.ble args.length fn.ntmps && !(fn.name == "runtime.NumGoroutine") then
      match run none (some (f, [])) c ⟨setArgs .e 0 args, fn.ntmps, [], h, h.n⟩ with
      | some (.normal, s) => endC P fn s
      | some (.ret, s) => endC P fn s
      | _ => none
      else none
    | none => none
  | none => none
def callC (P : Program) (run : Runs) (f : FuncId) (args : List CV) (h : CH) : Out :=
  match Dec.known f args h with
  | some r => some r
  | none => callC0 P run f args h
def setPars (nt : Nat) : Tr CV → List Tmp → List CV → Option (Tr CV)
  | t, [], [] => some t
  | t, p :: ps, c :: l => bif Nat.blt p nt then setPars nt (t.put p (some c)) ps l else none
  | _, _, _ => none
def yieldC (P : Program) (run : Runs) (b : Nat) (args : List CV) (h : CH) : Out :=
  match h.get b with
  | some (.loop _ _ ts nt ps l _) => match setPars nt ts ps args with
    | some ts' => match run (some b) (some (l.1, 0 :: l.2)) (rangeAt P l).1 ⟨ts', nt, [], h, h.n⟩ with
      | some (.normal, s1) => match s1.h.get b with
        | some (.loop .ready pe ts1 nt1 ps1 l1 df1) =>
          match run (some b) (some (l.1, 1 :: l.2)) (rangeAt P l).2 { s1 with h := s1.h.put b (some (.loop .busy pe ts1 nt1 ps1 l1 df1)) } with
          | some (e, s2) => match s2.h.get b with
            | some (.loop _ _ ts2 nt2 ps2 l2 df2) =>
              match e with
              | .normal => some (.bool true, s2.h.put b (some (.loop .ready none ts2 nt2 ps2 l2 df2)), min s2.lw b)
              | e => some (.bool false, s2.h.put b (some (.loop .done (some e) ts2 nt2 ps2 l2 df2)), min s2.lw b)
            | _ => none
          | none => none
        | _ => none
      | _ => none
    | none => none
  | _ => none
def invokeC (P : Program) (run : Runs) (f : CV) (args : List CV) (h : CH) : Out :=
  match f with
  | .fn g first cap => callC P run g (first ++ args ++ cap) h
  | .yield b => yieldC P run b args h
  | _ => none
def vC (h : CH) (c : Option CV) : Out :=
  match c with
  | some c => some (c, h, h.n)
  | none => none
def uC (c : Option (CH × Nat)) : Out :=
  match c with
  | some (h', b) => some (.tup [], h', b)
  | none => none
def opC (P : Program) (run : Runs) (op : Op) (ts : Tr CV) (h : CH) : Out :=
  match op with
  | .move x => vC h (argC ts x)
  | .assign x => vC h (argC ts x)
  | .pick c x y => match argC ts c with
    | some (.bool b) => vC h (bif b then argC ts x else argC ts y)
    | _ => none
  | .alloc t => match zeroC P t, szC P t with
    | some z, some n => bif Nat.beq z.cells.length n then some (.ptr h.n 0, h.new (.cells z.cells t false), h.n + 1) else none
    | _, _ => none
  | .box t x => match argC ts x with
    | some z => some (.ptr h.n 0, h.new (.cells z.cells t false), h.n + 1)
    | none => none
  | .build t ps => match partsC ts ps.toList with
    | some ps => vC h (buildC P t ps)
    | none => none
  | .buildSlice t n ps => match partsC ts ps.toList with
    | some ps => buildSliceC P t n ps h
    | none => none
  | .load t x => vC h ((argC ts x).bind (loadC P h t))
  | .store t x y => match argC ts x, argC ts y with
    | some p, some w => uC (storeC P h t w p)
    | _, _ => none
  | .nilCheck x => match argC ts x with
    | some (.ptr b o) => vC h (some (.ptr b o))
    | some (.fn f l m) => vC h (some (.fn f l m))
    | some (.yield b) => vC h (some (.yield b))
    | some (.gp b k x z d) => vC h (some (.gp b k x z d))
    | _ => none
  | .binOp op t x y _ => vC h (binX P op t x y ts)
  | .unOp op _ x => vC h ((argC ts x).bind (unC op))
  | .convert s d x => vC h ((argC ts x).bind (bif isStrT P d then bytesC P s h else convL P s d))
  | .makeFunc (.func f) first cap => match argsC ts first.toList, argsC ts cap.toList with
    | some l, some m => vC h (some (.fn f l m))
    | _, _ => none
  | .makeMap _ none => some (.map h.n, h.new (.map []), h.n + 1)
  | .makeSlice t l c => match argC ts l, argC ts c with
    | some l, some c => makeSliceC P t l c h
    | _, _ => none
  | .slice t x lo hi none => match argC ts x with
    | some x => match optC ts lo, optC ts hi with
      | some l, some u => vC h (sliceC P t x.nn l u h)
      | _, _ => none
    | none => none
  | .slice t x lo hi (some m) => match argC ts x, argC ts m with
    | some x, some m => match optC ts lo, optC ts hi with
      | some l, some u => vC h (slice3C P t x.nn l u m)
      | _, _ => none
    | _, _ => none
  | .fieldAddr s x f => vC h ((argC ts x).bind (fieldAddrC P s f))
  | .field t x f => vC h ((argC ts x).bind (fieldC P t f))
  | .sliceToArrayPointer t x => vC h ((argC ts x).bind (arrAtC P t))
  | .indexAddr t x i => match argC ts x, argC ts i with
    | some x, some i => vC h (indexAddrC P t x i)
    | _, _ => none
  | .index t x i => match argC ts x, argC ts i with
    | some x, some i => vC h (indexC P t x i)
    | _, _ => none
  | .lookup t m k ok => match argC ts m, argC ts k with
    | some m, some k => vC h (lookupC P t m k ok h)
    | _, _ => none
  | .insert t m k x => match argC ts m, argC ts k, argC ts x with
    | some m, some k, some x => uC (insertC P t m k x h)
    | _, _, _ => none
  | .mapUpdate t m k x => match argC ts m, argC ts k, argC ts x with
    | some m, some k, some x => uC (insertC P t m k x h)
    | _, _, _ => none
  | .range t x => match argC ts x with
    | some x => rangeMC P t x h
    | none => none
  | .next x false => match argC ts x with
    | some x => nextC h x
    | none => none
  | .entry x => vC h ((argC ts x).bind (entryC h))
  | .extract x i => match argC ts x with
    | some (.tup l) => vC h l[i]?
    | _ => none
  | .call c => match argsC ts c.args.toList with
    | some args => match c.callee with
      | .value f => match argC ts f with
        | some g => invokeC P run g args h
        | none => none
      | .builtin .len => match args, c.argTypes.toList with
        | [x], [t] => vC h (lenC P t x.nn h)
        | _, _ => none
      | .builtin .append => match args, c.argTypes.toList with
        | [s, x], [t, tx] => match P.underlying tx with
          | some (.slice _) => appendC P t s.nn x.nn h
          | some (.int _) => appendZ P t s.nn x.nn h
          | _ => none
        | _, _ => none
      | .builtin .cap => match args, c.argTypes.toList with
        | [x], [t] => vC h (capC P t x.nn)
        | _, _ => none
      | .builtin .copy => match args, c.argTypes.toList with
        | [d, s], [t, _] => copyC P t d.nn s.nn h
        | _, _ => none
      | .builtin .min => vC h (minC false args)
      | .builtin .max => vC h (minC true args)
      | .builtin .complex => vC h ((plainVs args).bind fun vs => litC P (Builtin.complex_ #[] 0 ⟨vs⟩))
      | .builtin .real => vC h ((plainVs args).bind fun vs => litC P (Builtin.real_ #[] 0 ⟨vs⟩))
      | .builtin .imag => vC h ((plainVs args).bind fun vs => litC P (Builtin.imag_ #[] 0 ⟨vs⟩))
      | _ => none
    | none => none
  | _ => none
def putC (s : St) (d : Option Tmp) (c : CV) : St :=
  match d with
  | some d => bif Nat.blt d s.nt then { s with ts := s.ts.put d (some c) } else s
  | none => s
def wantedC (ops : Array Oper) (ts : Tr CV) (o : Oper) : Option Bool :=
  match o.guard with
  | none => some true
  | some (j, want) => match (ops[j]?).bind (·.dst) with
    | some d => match (ts.get d).bind useC with
      | some (.bool b) => some (b == want)
      | some (.tup []) => some false
      | _ => none
    | none => none
def stepC (P : Program) (run : Runs) (ops : Array Oper) (o : Oper) (s : St) : Option (St × Nat) :=
  match wantedC ops s.ts o with
  | some true => match opC P run o.op s.ts s.h with
    | some (c, h, b) => some (putC { s with h := h, lw := min s.lw b } o.dst c, b)
    | none => none
  | some false => some (putC s o.dst (.tup []), s.h.n)
  | none => none
def opsC (P : Program) (run : Runs) (ops : Array Oper) : List Oper → St → Option St
  | [], s => some s
  | o :: l, s => match stepC P run ops o s with
    | some (s, _) => opsC P run ops l s
    | none => none
def silent : Op → Bool
  | .move _ => true
  | .assign _ => true
  | .pick .. => true
  | .build .. => true
  | .nilCheck _ => true
  | .binOp .. => true
  | .unOp .. => true
  | .makeFunc .. => true
  | .fieldAddr .. => true
  | .field .. => true
  | .sliceToArrayPointer .. => true
  | .indexAddr .. => true
  | .index .. => true
  | .extract .. => true
  | .call { callee := .builtin .min, .. } => true
  | .call { callee := .builtin .max, .. } => true
  | .call { callee := .builtin .complex, .. } => true
  | .call { callee := .builtin .real, .. } => true
  | .call { callee := .builtin .imag, .. } => true
  | _ => false
inductive Did where
  | none
  | looked
  | wrote
  | read
  | made
  deriving DecidableEq
def maker : Op → Bool
  | .alloc _ => true
  | .box .. => true
  | .buildSlice .. => true
  | .makeSlice .. => true
  | .makeMap _ none => true
  | _ => false
def belowC (n : Nat) : Nat → CV → Bool
  | 0, _ => false
  | d + 1, c => match c with
    | .ptr b _ => Nat.blt b n
    | .sl b _ _ _ => Nat.blt b n
    | .gs b _ _ _ _ => Nat.blt b n
    | .gp b _ _ _ _ => Nat.blt b n
    | .map b => Nat.blt b n
    | .yield b => Nat.blt b n
    | .fn _ l m => l.all (belowC n d) && m.all (belowC n d)
    | .agg l => l.all (belowC n d)
    | .tup l => l.all (belowC n d)
    | _ => true
def blockOf : CV → Option Nat
  | .ptr b _ => some b
  | .gp b _ _ _ _ => some b
  | _ => none
def readOf (P : Program) (n0 : Nat) (o : Oper) (s : St) : Option Nat :=
  match o.op with
  | .load t x => match argC s.ts x with
    | some p => match blockOf p, loadC P s.h t p with
      | some b, some c => bif Nat.blt b n0 && belowC n0 9 c then some b else none
      | _, _ => none
    | none => none
  | _ => none
def lenOk (P : Program) : Op → Bool
  | .call ⟨.builtin .len, _, ⟨[t]⟩⟩ => match P.underlying t with
    | some (.slice _) => true
    | some .string => true
    | _ => false
  | _ => false
def convOk (P : Program) : Op → Bool
  | .convert _ d _ => !isStrT P d
  | _ => false
def quiet (P : Program) (op : Op) : Bool := silent op || lenOk P op || convOk P op
def didOf (P : Program) (n0 : Nat) (o : Oper) (s : St) (b : Nat) : Did :=
  bif Nat.blt b s.h.n then .wrote else bif quiet P o.op then .none else bif maker o.op then .made else match readOf P n0 o s with
    | some _ => .read
    | none => .looked
structure Stp where
  d : Did
  r : Option Nat
  h : CH
  h1 : CH
def opsD (P : Program) (run : Runs) (ops : Array Oper) (n0 : Nat) : List Oper → St → Option (List Stp × St)
  | [], s => some ([], s)
  | o :: l, s => match stepC P run ops o s with
    | some (s1, b) => match opsD P run ops n0 l s1 with
      | some (ds, r) => some (⟨didOf P n0 o s b, readOf P n0 o s, s.h, s1.h⟩ :: ds, r)
      | none => none
    | none => none
def pairOk : Did → Did → Bool
  | .wrote, .looked => false
  | .wrote, .wrote => false
  | .looked, .wrote => false
  | _, _ => true
def dids : List Stp → List Did
  | [] => []
  | x :: l => x.d :: dids l
def maskOf (acc : List Nat) : List Edge → Nat
  | [] => 0
  | e :: l => (bif Region.binds .any e then 2 ^ e.on ||| acc.getD e.on 0 else 0) ||| maskOf acc l
def befL : List Oper → List Nat → List Nat
  | [], acc => acc
  | o :: l, acc => befL l (acc ++ [maskOf acc o.after.toList])
def bef (b : List Nat) (i j : Nat) : Bool := (b.getD i 0).testBit j
def pairsOk (b : List Nat) (ds : List Did) : Bool :=
  ds.zipIdx.all fun x => ds.zipIdx.all fun y => Nat.ble x.2 y.2 || pairOk y.1 x.1 || bef b x.2 y.2
def plainDids : List Did → Bool
  | [] => true
  | d :: l => (match d with | .wrote => false | _ => true) && plainDids l
def opTmps : List Operand → List Tmp
  | [] => []
  | .tmp t :: l => t :: opTmps l
  | _ :: l => opTmps l
def namesC (ops : Array Oper) (o : Oper) : List Tmp :=
  o.dst.toList ++ opTmps o.op.operands.toList ++ (match o.guard with | some (j, _) => ((ops[j]?).bind (·.dst)).toList | none => [])
def slotsOk (ops : Array Oper) (b : List Nat) : Bool :=
  ops.toList.zipIdx.all fun x => ops.toList.zipIdx.all fun y => match y.1.dst with
    | some t => Nat.beq x.2 y.2 || !(namesC ops x.1).contains t || bef b (max x.2 y.2) (min x.2 y.2)
    | none => true
def edgesOk (nt : Nat) (ops : Array Oper) : Bool :=
  ops.toList.zipIdx.all fun x => (x.1.after.toList.all fun e => !Region.binds .any e || Nat.blt e.on x.2) && (match x.1.dst with | some d => Nat.blt d nt | none => true)
def regionOk (nt : Nat) (ops : Array Oper) : Bool := edgesOk nt ops && slotsOk ops (befL ops.toList [])
/-! Equal by their looks. -/
def sameCs (f : CV → CV → Bool) : List CV → List CV → Bool
  | [], [] => true
  | a :: l, b :: m => f a b && sameCs f l m
  | _, _ => false
def sameC' : Nat → CV → CV → Bool
  | 0, _, _ => false
  | d + 1, a, b => match a, b with
    | .bool a, .bool b => a == b
    | .bs a, .bs b => a.beq b
    | .int k a, .int k' b => decide (k = k') && a == b
    | .sym k a, .sym k' b => decide (k = k') && a.beq b
    | .str a, .str b => decide (a = b)
    | .ss a, .ss b => a.beq b
    | .nilp, .nilp => true
    | .ptr b o, .ptr b' o' => Nat.beq b b' && Nat.beq o o'
    | .nils, .nils => true
    | .niln, .niln => true
    | .sl b o n z, .sl b' o' n' z' => Nat.beq b b' && Nat.beq o o' && Nat.beq n n' && Nat.beq z z'
    | .gs b k e z f, .gs b' k' e' z' f' => Nat.beq b b' && Nat.beq k k' && e.beq e' && Nat.beq z z' && f == f'
    | .gp b k x z o, .gp b' k' x' z' o' => Nat.beq b b' && Nat.beq k k' && x.beq x' && Nat.beq z z' && Nat.beq o o'
    | .nilm, .nilm => true
    | .map b, .map b' => Nat.beq b b'
    | .fn f l m, .fn f' l' m' => decide (f = f') && sameCs (sameC' d) l l' && sameCs (sameC' d) m m'
    | .yield b, .yield b' => Nat.beq b b'
    | .nilf, .nilf => true
    | .agg l, .agg m => sameCs (sameC' d) l m
    | .tup l, .tup m => sameCs (sameC' d) l m
    | _, _ => false
def sameNs : List Nat → List Nat → Bool
  | [], [] => true
  | a :: l, b :: m => Nat.beq a b && sameNs l m
  | _, _ => false
def sameOb : CObj → CObj → Bool
  | .cells l t r, .cells l' t' r' => sameCs (sameC' 9) l l' && Nat.beq t t' && r == r'
  | .rows i l t r, .rows i' l' t' r' => Nat.beq i i' && sameCs (sameC' 9) l l' && Nat.beq t t' && r == r'
  | .dfr, .dfr => true
  | .iter m s l k, .iter m' s' l' k' => Nat.beq m m' && Nat.beq s s' && sameNs l l' && Nat.beq k k'
  | .glob g k l, .glob g' k' l' => Nat.beq g g' && decide (k = k') && sameNs l l'
  | _, _ => false
def sameOpt {α : Type} (f : α → α → Bool) : Option α → Option α → Bool
  | none, none => true
  | some a, some b => f a b
  | _, _ => false
def sameTr {α : Type} (f : α → α → Bool) : Tr α → Tr α → Bool
  | .e, .e => true
  | .n v l r, .n v' l' r' => sameOpt f v v' && sameTr f l l' && sameTr f r r'
  | _, _ => false
def sameSt (s t : St) : Bool := sameTr (sameC' 9) s.ts t.ts && Nat.beq s.nt t.nt && sameNs s.df t.df && Nat.beq s.h.n t.h.n && sameTr sameOb s.h.m t.h.m && Nat.beq s.lw t.lw
def readsOk (b : List Nat) (ds : List Stp) : Bool :=
  ds.zipIdx.all fun x => match x.1.r with
    | none => true
    | some r => ds.zipIdx.all fun y => (match y.1.d with | .wrote => false | _ => true) || bef b x.2 y.2 || bef b y.2 x.2 || sameOpt sameOb (y.1.h.get r) (y.1.h1.get r)
def blocksSame (h h1 : CH) (a : Nat) : Nat → Bool
  | 0 => true
  | n + 1 => sameOpt sameOb (h1.get (a + n)) (h.get (a + n)) && blocksSame h h1 a n
def isWrote : Did → Bool
  | .wrote => true
  | _ => false
def makesOk (b : List Nat) (ds : List Stp) : Bool :=
  ds.zipIdx.all fun x => match x.1.d with
    | .made => ds.zipIdx.all fun y => Nat.ble y.2 x.2 || !isWrote y.1.d || bef b y.2 x.2 || blocksSame y.1.h y.1.h1 x.1.h.n (x.1.h1.n - x.1.h.n)
    | _ => true
def drawnOk (nt : Nat) (ops : Array Oper) (ds : List Stp) : Bool :=
  regionOk nt ops && (plainDids (dids ds) || (pairsOk (befL ops.toList []) (dids ds) && (readsOk (befL ops.toList []) ds && makesOk (befL ops.toList []) ds)))
def anyC (P : Program) (run : Runs) (ops : Array Oper) (fin : St) : Nat → Array Bool → St → Bool
  | 0, listed, s => (Region.ready .any ops listed).isEmpty && sameSt s fin
  | f + 1, listed, s => !(Region.ready .any ops listed).isEmpty && (Region.ready .any ops listed).all fun i => match ops[i]? with
    | some o => match stepC P run ops o s with
      | some (s1, _) => anyC P run ops fin f (listed.setIfInBounds i true) s1
      | none => false
    | none => false
def dfrC (rd : Option Nat) (s : St) : Option (Nat × St) :=
  match rd with
  | some l => match s.h.get l with
    | some (.loop _ _ _ _ _ _ df) => some (df, s)
    | _ => none
  | none => some (s.h.n, { s with h := s.h.new .dfr, df := s.h.n :: s.df })
def afterC (s : St) : Option CE → Option (CE × St)
  | none => some (.normal, s)
  | some e => some (e, s)
def endRangeC (b : Nat) (s : St) (h : CH) (lw : Nat) : Option (CE × St) :=
  match h.get b with
  | some (.loop st pe ts nt ps l df) => match st with
    | .busy => none
    | _ => afterC { s with h := h.put b (some (.loop .exhausted pe ts nt ps l df)), lw := min s.lw (min lw b) } pe
  | _ => none
def rangeC (P : Program) (run : Runs) (rd : Option Nat) (l : Loc) (f : Operand) (ps : List Tmp) (s : St) : Option (CE × St) :=
  match argC s.ts f, l with
  | some (.fn g first cap), some l => match dfrC rd s with
    | some (d, s1) => match callC P run g (first ++ [.yield s1.h.n] ++ cap) (s1.h.new (.loop .ready none s1.ts s1.nt ps l d)) with
      | some (_, h, lw) => endRangeC s1.h.n s1 h lw
      | none => none
    | none => none
  | _, _ => none
def scopeC (run : Runs) (rd : Option Nat) (c : Code) : Nat → Option (CE × St) → Option (CE × St)
  | 0, r => match r with
    | some (.goto _, _) => none
    | r => r
  | f + 1, r => match r with
    | some (.goto l, s) => match findLabel c l with
      | some x => scopeC run rd c f (run rd none x s)
      | none => some (.goto l, s)
    | r => r
def codeC (P : Program) : Nat → Runs
  | 0, _, _, _, _ => none
  | n + 1, rd, l, c, s =>
    match c with
    | .skip => some (.normal, s)
    | .label _ => some (.normal, s)
    | .ret => some (.ret, s)
    | .exit id => some (.exit id, s)
    | .goto l => some (.goto l, s)
    | .scope c => scopeC (codeC P n) rd c n (codeC P n rd (kidL 0 l) c s)
    | .region _ ops false => match opsC P (codeC P n) ops ops.toList s with
      | some s => some (.normal, s)
      | none => none
    | .region _ ops true => match opsD P (codeC P n) ops s.h.n ops.toList s with
      | some (ds, s') => bif drawnOk s'.nt ops ds || (Nat.ble ops.size 14 && anyC P (codeC P n) ops s' ops.size (Array.replicate ops.size false) s) then some (.normal, s') else none
      | none => none
    | .seq a b => match codeC P n rd (kidL 0 l) a s with
      | some (.normal, s) => codeC P n rd (kidL 1 l) b s
      | r => r
    | .cond x a b => match argC s.ts x with
      | some (.bool t) => codeC P n rd (kidL (bif t then 0 else 1) l) (bif t then a else b) s
      | _ => none
    | .block id c => match codeC P n rd (kidL 0 l) c s with
      | some (.exit i, s) => bif Nat.beq i id then some (.normal, s) else some (.exit i, s)
      | r => r
    | .loop c => match codeC P n rd (kidL 0 l) c s with
      | some (.normal, s) => codeC P n rd l (.loop c) s
      | r => r
    | .rangeFunc f ps _ _ => rangeC P (codeC P n) rd l f ps.toList s
    | _ => none
end Go.Proofs.YthffbfkcmbgghaaGreat.Cm
