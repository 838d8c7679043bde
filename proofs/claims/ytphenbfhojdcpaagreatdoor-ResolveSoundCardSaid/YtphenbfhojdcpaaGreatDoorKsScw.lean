/- pagewatchref09.Same of two configurations without lists. -/
import Derived.Test.YtphenbfhojdcpaaGreatDoorKsG15
namespace Go.Proofs.YtphenbfhojdcpaaGreatDoor
open Go.RowKit
set_option linter.unusedVariables false
set_option linter.unusedSimpArgs false
set_option maxRecDepth 100000
set_option maxHeartbeats 4000000 in
theorem same_no (A1 A2 A3 A4 B1 B2 B3 B4 : Option Addr) (k1 k2 k3 k4 m1 m2 m3 m4 : Nat) (w : World) :
    Calls Tryz.prog 14 #[.agg #[.slice A1 0 k1, .slice A2 0 k2, .slice A3 0 k3, .slice A4 0 k4], .agg #[.slice B1 0 m1, .slice B2 0 m2, .slice B3 0 m3, .slice B4 0 m4]] w fun e w' => e = .returned (.bool true) ∧ Below w.heap.size w w' := by
  have N1 := (BlkAt.new w #[.slice A1 0 k1, .slice A2 0 k2, .slice A3 0 k3, .slice A4 0 k4] 27).alloc (.cells #[.slice B1 0 m1, .slice B2 0 m2, .slice B3 0 m3, .slice B4 0 m4] 27)
  have B2' := ((Below.refl _ w).alloc (Nat.le_refl _) (.cells #[.slice A1 0 k1, .slice A2 0 k2, .slice A3 0 k3, .slice A4 0 k4] 27))
  have B2 := Lib.hid (B2'.alloc B2'.size (.cells #[.slice B1 0 m1, .slice B2 0 m2, .slice B3 0 m3, .slice B4 0 m4] 27))
  have HN := Lib.hid N1
  clear N1 B2'
  go_enter Tryz.func14, Tryz.ntmps14
  go_wp2_with fail
  go_loopw [5] (fun i wr => i = .int .i64 0 ∧ Hid (BlkAt wr w.heap.size #[.slice A1 0 k1, .slice A2 0 k2, .slice A3 0 k3, .slice A4 0 k4] 27) ∧ Hid (Below w.heap.size w wr)) (fun i _ => 0)
  case atStart => exact ⟨rfl, HN, B2⟩
  case round =>
    clear HN B2
    obtain ⟨rfl, HN, HB⟩ := hrel
    have c0 := HN.out.cell (i := 0) rfl
    go_wp2_with fail
    go_loopw [6] (fun i wr => i = .int .i64 0 ∧ Hid (BlkAt wr w.heap.size #[.slice A1 0 k1, .slice A2 0 k2, .slice A3 0 k3, .slice A4 0 k4] 27) ∧ Hid (Below w.heap.size w wr)) (fun i _ => 0)
    case atStart => exact ⟨rfl, HN, HB⟩
    case round =>
      clear HN HB c0
      obtain ⟨rfl, HN, HB⟩ := hrel
      have c0 := HN.out.cell (i := 1) rfl
      go_wp2_with fail
      go_loopw [9] (fun i wr => i = .int .i64 0 ∧ Hid (BlkAt wr w.heap.size #[.slice A1 0 k1, .slice A2 0 k2, .slice A3 0 k3, .slice A4 0 k4] 27) ∧ Hid (Below w.heap.size w wr)) (fun i _ => 0)
      case atStart => exact ⟨rfl, HN, HB⟩
      case round =>
        clear HN HB c0
        obtain ⟨rfl, HN, HB⟩ := hrel
        have c0 := HN.out.cell (i := 2) rfl
        go_wp2_with fail
        go_loopw [12] (fun i wr => i = .int .i64 0 ∧ Hid (BlkAt wr w.heap.size #[.slice A1 0 k1, .slice A2 0 k2, .slice A3 0 k3, .slice A4 0 k4] 27) ∧ Hid (Below w.heap.size w wr)) (fun i _ => 0)
        case atStart => exact ⟨rfl, HN, HB⟩
        case round =>
          clear HN HB c0
          obtain ⟨rfl, HN, HB⟩ := hrel
          have c0 := HN.out.cell (i := 3) rfl
          go_wp2_with fail
          go_ret
          exact ⟨rfl, HB.out⟩
end Go.Proofs.YtphenbfhojdcpaaGreatDoor
