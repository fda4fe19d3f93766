/-
  The document's answer: head.
-/
import Derived.Test.YtanknpmojblmcaaRefE
import Derived.Deep.RegionWith
set_option linter.unusedSimpArgs false
set_option linter.unusedVariables false
namespace Go.Proofs.Ytanknpmojblmcaa
open Go.RowKit

/-- A head, as the document's answer has it. -/
structure RV where
  name : List UInt8
  nodes : Int
  time : Int
  arr : Bool
  lo : Int
  hi : Int
  after : List UInt8
  want : List UInt8
  nameAt : Int
  nodesAt : Int
  timeAt : Int
  arrayAt : Int
  wantAt : Int

def kNodes : List UInt8 := [32, 110, 111, 100, 101, 115, 61]
def kTime : List UInt8 := [32, 116, 105, 109, 101, 61]
def kArray : List UInt8 := [32, 97, 114, 114, 97, 121, 61]
def kAfter : List UInt8 := [32, 97, 102, 116, 101, 114, 61]
def hiO (L : List UInt8) (b : Nat) : Option Nat → Int
  | none => 0
  | some p => numI L (behO L p b [45])
def wantO (L : List UInt8) (b : Nat) : Option Nat → List UInt8
  | none => []
  | some p => cut L p b
def aftO (L : List UInt8) (f b : Nat) : Option Nat → List UInt8
  | none => []
  | some p => plainI f (cut L p b)
def rhd (L : List UInt8) (f a b : Nat) : RV :=
  { name := cut L (a + 3) (pastI L (b - (a + 3)) (a + 3)), nodes := numI L (behO L a b kNodes), time := numI L (behO L a b kTime),
    arr := (behO L a b kArray).isSome, lo := numI L (behO L a b kArray), hi := hiO L b (behO L a b kArray),
    after := aftO L f b (behO L a b kAfter), want := wantO L b (behO L a b kAfter),
    nameAt := (a : Int) + 3, nodesAt := oi (behO L a b kNodes), timeAt := oi (behO L a b kTime), arrayAt := oi (behO L a b kArray), wantAt := oi (behO L a b kAfter) }
def rvC (h : RV) : Array Value := #[.string (bs h.name), .int .i64 h.nodes, .int .i64 h.time, .bool h.arr, .int .i64 h.lo, .int .i64 h.hi, .string (bs h.after), .string (bs h.want), .int .i64 h.nameAt, .int .i64 h.nodesAt, .int .i64 h.timeAt, .int .i64 h.arrayAt, .int .i64 h.wantAt]
def rvV (h : RV) : Value := .agg (rvC h)

theorem past_int (T : ByteArray) (a b : Nat) (x : Int) (hx : x = (a : Int)) (w : World) (hT : T.size ≤ 600) (hb : b ≤ T.size) (ha : a ≤ 1000) :
    Calls Try.prog 45 #[.string T, .int .i64 x, .int .i64 (b : Int)] w fun e w' => e = .returned (.int .i64 ((pastI T.data.toList (b - a) a : Nat) : Int)) ∧ w' = w := by
  subst hx; exact past_any T a b w hT hb ha

theorem behO_le {L key : List UInt8} {a b p : Nat} (h : behO L a b key = some p) : a + key.length ≤ p ∧ p ≤ b := by
  unfold behO at h
  have := behI_le L key _ a p h
  cases hn : b + 1 - key.length - a with
  | zero => rw [hn] at h; simp [behI] at h
  | succ n => omega
theorem beh_of (T K : ByteArray) (a b : Nat) (x : Int) (hx : x = (a : Int)) (o : Option Nat) (w : World) (hT : T.size ≤ 600) (hb : b ≤ T.size) (ha : a ≤ 1000) (hK : K.size ≤ 10) (ho : behO T.data.toList a b K.data.toList = o) :
    Calls Try.prog 46 #[.string T, .int .i64 x, .int .i64 (b : Int), .string K] w fun e w' => e = .returned (.int .i64 (oi o)) ∧ w' = w := by
  subst ho; subst hx; exact behind_any T K a b w hT hb ha hK
theorem num_of (T : ByteArray) (o : Option Nat) (x : Int) (hx : x = oi o) (v : Int) (hv : numI T.data.toList o = v) (w : World) (hT : T.size ≤ 600) (hp : ∀ p, o = some p → p ≤ 1000) :
    Calls Try.prog 47 #[.string T, .int .i64 x] w fun e w' => e = .returned (.int .i64 v) ∧ w' = w := by
  subst hv; subst hx; exact number_any T o w hT hp

theorem new_two (w : World) (o p : Obj) : (((w.alloc o).alloc p).drew).heap[w.heap.size]? = some o ∧ (((w.alloc o).alloc p).drew).heap[w.heap.size + 1]? = some p := by
  refine ⟨whole_alloc (whole_new w o) p, ?_⟩
  have := whole_new (w.alloc o) p
  rw [World.size_alloc] at this; exact this
theorem size_two (w : World) (o p : Obj) : (((w.alloc o).alloc p).drew).heap.size = w.heap.size + 2 := by simp [World.drew]
def rv0 : RV := ⟨[], 0, 0, false, 0, 0, [], [], 0, 0, 0, 0, 0⟩

end Go.Proofs.Ytanknpmojblmcaa
