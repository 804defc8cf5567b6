/-
  Parts of a proof, joined.
-/
import Derived.Test.YtdioiilmpjckfaaZt10
namespace Go.Proofs.Ytdioiilmpjckfaa
open Go.ChangeShapes Go.WideShapes Go.ChangeAt Go.RowKit
set_option linter.unusedVariables false
set_option maxRecDepth 100000
set_option maxHeartbeats 1600000 in
theorem Sq.timer (a0 a1 : Int) (a2 a3 : Bool) (b0 b1 : Int) (b2 b3 : Bool) (w : World) : (binOp .eql 31 (.agg #[.int .u16 a0, .int .u16 a1, .bool a2, .bool a3]) (.agg #[.int .u16 b0, .int .u16 b1, .bool b2, .bool b3])).run Try.prog w = .ok (.bool ((a0 == b0) && ((a1 == b1) && ((a2 == b2) && (a3 == b3))))) w := by
  have uu16 := Try.underlying22
  have xu16 := Try.isAgg22
  have zu16 := Try.sizeOf22
  have ubool := Try.underlying4
  have xbool := Try.isAgg4
  have zbool := Try.sizeOf4
  have hS : Try.prog.underlying 31 = some (.struct (Try.prog.fieldsOf 31)) := by kernel_rfl
  have hp : Try.prog.stoodInHeld 31 = false := by kernel_rfl
  rw [run_eql_struct, show (10000 : Nat) = 9999 + 1 from rfl, run_equalIn_agg w 9999 31 _ _ hS hp]
  simp only [Program.fieldsOf, Try.underlying31]
  cases q0 : (a0 == b0)
  · go_simp
  · skip
    cases q1 : (a1 == b1)
    · go_simp
    · skip
      cases q2 : (a2 == b2)
      · go_simp
      · skip
        cases q3 : (a3 == b3)
        · go_simp
        · go_simp
set_option maxHeartbeats 1600000 in
theorem Sq.beam (a0 a1 a3 : Int) (a2 : Bool) (b0 b1 b3 : Int) (b2 : Bool) (w : World) : (binOp .eql 38 (.agg #[.int .i64 a0, .int .i64 a1, .bool a2, .int .i64 a3]) (.agg #[.int .i64 b0, .int .i64 b1, .bool b2, .int .i64 b3])).run Try.prog w = .ok (.bool ((a0 == b0) && ((a1 == b1) && ((a2 == b2) && (a3 == b3))))) w := by
  have ui64 := Try.underlying3
  have xi64 := Try.isAgg3
  have zi64 := Try.sizeOf3
  have ubool := Try.underlying4
  have xbool := Try.isAgg4
  have zbool := Try.sizeOf4
  have hS : Try.prog.underlying 38 = some (.struct (Try.prog.fieldsOf 38)) := by kernel_rfl
  have hp : Try.prog.stoodInHeld 38 = false := by kernel_rfl
  rw [run_eql_struct, show (10000 : Nat) = 9999 + 1 from rfl, run_equalIn_agg w 9999 38 _ _ hS hp]
  simp only [Program.fieldsOf, Try.underlying38]
  cases q0 : (a0 == b0)
  · go_simp
  · skip
    cases q1 : (a1 == b1)
    · go_simp
    · skip
      cases q2 : (a2 == b2)
      · go_simp
      · skip
        cases q3 : (a3 == b3)
        · go_simp
        · go_simp
set_option maxHeartbeats 1600000 in
theorem Sq.pad (a0 a2 : Int) (a1 : Bool) (b0 b2 : Int) (b1 : Bool) (d : Nat) (w : World) : (Op.equalIn (d + 2) 28 (.agg #[.int .u8 a0, .bool a1, .int .u8 a2]) (.agg #[.int .u8 b0, .bool b1, .int .u8 b2])).run Try.prog w = .ok ((a0 == b0) && ((a1 == b1) && (a2 == b2))) w := by
  have uu8 := Try.underlying5
  have xu8 := Try.isAgg5
  have zu8 := Try.sizeOf5
  have ubool := Try.underlying4
  have xbool := Try.isAgg4
  have zbool := Try.sizeOf4
  have hS : Try.prog.underlying 28 = some (.struct (Try.prog.fieldsOf 28)) := by kernel_rfl
  have hp : Try.prog.stoodInHeld 28 = false := by kernel_rfl
  rw [run_equalIn_agg w (d + 1) 28 _ _ hS hp]
  simp only [Program.fieldsOf, Try.underlying28]
  cases q0 : (a0 == b0)
  · go_simp
  · skip
    cases q1 : (a1 == b1)
    · go_simp
    · skip
      cases q2 : (a2 == b2)
      · go_simp
      · go_simp
set_option maxHeartbeats 3200000 in
theorem Sq.arr8 (a0 a1 a2 a3 a4 a5 a6 a7 : Int) (b0 b1 b2 b3 b4 b5 b6 b7 : Int) (d : Nat) (w : World) : (Op.equalIn (d + 2) 23 (.agg #[.int .u16 a0, .int .u16 a1, .int .u16 a2, .int .u16 a3, .int .u16 a4, .int .u16 a5, .int .u16 a6, .int .u16 a7]) (.agg #[.int .u16 b0, .int .u16 b1, .int .u16 b2, .int .u16 b3, .int .u16 b4, .int .u16 b5, .int .u16 b6, .int .u16 b7])).run Try.prog w = .ok ((a0 == b0) && ((a1 == b1) && ((a2 == b2) && ((a3 == b3) && ((a4 == b4) && ((a5 == b5) && ((a6 == b6) && (a7 == b7)))))))) w := by
  have uu16 := Try.underlying22
  have xu16 := Try.isAgg22
  have zu16 := Try.sizeOf22
  have hU : Try.prog.cellsOf 22 = 1 := by kernel_rfl
  have hs : (Try.prog.info? 22).isSome = true := by kernel_rfl
  obtain ⟨i, hi⟩ := Option.isSome_iff_exists.1 hs
  rw [run_equalIn_array w (d + 1) _ _ Try.underlying23 hi, hU]
  simp only [List.range, List.range.loop, Op.eqItems]
  cases q0 : (a0 == b0)
  · go_simp
  · skip
    cases q1 : (a1 == b1)
    · go_simp
    · skip
      cases q2 : (a2 == b2)
      · go_simp
      · skip
        cases q3 : (a3 == b3)
        · go_simp
        · skip
          cases q4 : (a4 == b4)
          · go_simp
          · skip
            cases q5 : (a5 == b5)
            · go_simp
            · skip
              cases q6 : (a6 == b6)
              · go_simp
              · skip
                cases q7 : (a7 == b7)
                · go_simp
                · go_simp
set_option maxHeartbeats 3200000 in
theorem Sq.mail (a0 a1 : Int) (b0 b1 : Int) (w : World) : (binOp .eql 39 (.agg #[.int .u8 a0, .int .u8 a1]) (.agg #[.int .u8 b0, .int .u8 b1])).run Try.prog w = .ok (.bool ((a0 == b0) && (a1 == b1))) w := by
  have uu8 := Try.underlying5
  have xu8 := Try.isAgg5
  have zu8 := Try.sizeOf5
  have hU : Try.prog.cellsOf 5 = 1 := by kernel_rfl
  have hs : (Try.prog.info? 5).isSome = true := by kernel_rfl
  obtain ⟨i, hi⟩ := Option.isSome_iff_exists.1 hs
  rw [run_eql_struct, show (10000 : Nat) = 9999 + 1 from rfl, run_equalIn_array w 9999 _ _ Try.underlying39 hi, hU]
  simp only [List.range, List.range.loop, Op.eqItems]
  cases q0 : (a0 == b0)
  · go_simp
  · skip
    cases q1 : (a1 == b1)
    · go_simp
    · go_simp
set_option maxHeartbeats 1600000 in
theorem Sq.voice (a0 a1 a2 a4 : Int) (a3 : Bool) (b0 b1 b2 b4 : Int) (b3 : Bool) (d : Nat) (w : World) : (Op.equalIn (d + 2) 33 (.agg #[.int .u16 a0, .int .u16 a1, .int .u8 a2, .bool a3, .int .u16 a4]) (.agg #[.int .u16 b0, .int .u16 b1, .int .u8 b2, .bool b3, .int .u16 b4])).run Try.prog w = .ok ((a0 == b0) && ((a1 == b1) && ((a2 == b2) && ((a3 == b3) && (a4 == b4))))) w := by
  have uu16 := Try.underlying22
  have xu16 := Try.isAgg22
  have zu16 := Try.sizeOf22
  have uu8 := Try.underlying5
  have xu8 := Try.isAgg5
  have zu8 := Try.sizeOf5
  have ubool := Try.underlying4
  have xbool := Try.isAgg4
  have zbool := Try.sizeOf4
  have hS : Try.prog.underlying 33 = some (.struct (Try.prog.fieldsOf 33)) := by kernel_rfl
  have hp : Try.prog.stoodInHeld 33 = false := by kernel_rfl
  rw [run_equalIn_agg w (d + 1) 33 _ _ hS hp]
  simp only [Program.fieldsOf, Try.underlying33]
  cases q0 : (a0 == b0)
  · go_simp
  · skip
    cases q1 : (a1 == b1)
    · go_simp
    · skip
      cases q2 : (a2 == b2)
      · go_simp
      · skip
        cases q3 : (a3 == b3)
        · go_simp
        · skip
          cases q4 : (a4 == b4)
          · go_simp
          · go_simp
set_option maxHeartbeats 3200000 in
theorem Sq.pads (a0 a2 a3 a5 : Int) (a1 a4 : Bool) (b0 b2 b3 b5 : Int) (b1 b4 : Bool) (w : World) : (binOp .eql 29 (.agg #[.int .u8 a0, .bool a1, .int .u8 a2, .int .u8 a3, .bool a4, .int .u8 a5]) (.agg #[.int .u8 b0, .bool b1, .int .u8 b2, .int .u8 b3, .bool b4, .int .u8 b5])).run Try.prog w = .ok (.bool (((a0 == b0) && ((a1 == b1) && (a2 == b2))) && ((a3 == b3) && ((a4 == b4) && (a5 == b5))))) w := by
  have h0 := Sq.pad a0 a2 a1 b0 b2 b1 9997
  have h1 := Sq.pad a3 a5 a4 b3 b5 b4 9997
  have x3 := Try.isAgg28
  have z3 := Try.sizeOf28
  have hU : Try.prog.cellsOf 28 = 3 := by kernel_rfl
  have hs : (Try.prog.info? 28).isSome = true := by kernel_rfl
  obtain ⟨i, hi⟩ := Option.isSome_iff_exists.1 hs
  rw [run_eql_struct, show (10000 : Nat) = 9999 + 1 from rfl, run_equalIn_array w 9999 _ _ Try.underlying29 hi, hU]
  simp only [List.range, List.range.loop, Op.eqItems]
  cases q0 : ((a0 == b0) && ((a1 == b1) && (a2 == b2)))
  · simp only [q0] at h0
    go_simp
  · simp only [q0] at h0
    cases q1 : ((a3 == b3) && ((a4 == b4) && (a5 == b5)))
    · simp only [q1] at h1
      go_simp
    · simp only [q1] at h1
      go_simp
set_option maxHeartbeats 3200000 in
theorem Sq.three (a0 a1 a2 a4 a5 a6 a7 a9 a10 a11 a12 a14 : Int) (a3 a8 a13 : Bool) (b0 b1 b2 b4 b5 b6 b7 b9 b10 b11 b12 b14 : Int) (b3 b8 b13 : Bool) (d : Nat) (w : World) : (Op.equalIn (d + 3) 34 (.agg #[.int .u16 a0, .int .u16 a1, .int .u8 a2, .bool a3, .int .u16 a4, .int .u16 a5, .int .u16 a6, .int .u8 a7, .bool a8, .int .u16 a9, .int .u16 a10, .int .u16 a11, .int .u8 a12, .bool a13, .int .u16 a14]) (.agg #[.int .u16 b0, .int .u16 b1, .int .u8 b2, .bool b3, .int .u16 b4, .int .u16 b5, .int .u16 b6, .int .u8 b7, .bool b8, .int .u16 b9, .int .u16 b10, .int .u16 b11, .int .u8 b12, .bool b13, .int .u16 b14])).run Try.prog w = .ok (((a0 == b0) && ((a1 == b1) && ((a2 == b2) && ((a3 == b3) && (a4 == b4))))) && (((a5 == b5) && ((a6 == b6) && ((a7 == b7) && ((a8 == b8) && (a9 == b9))))) && ((a10 == b10) && ((a11 == b11) && ((a12 == b12) && ((a13 == b13) && (a14 == b14))))))) w := by
  have h0 := Sq.voice a0 a1 a2 a4 a3 b0 b1 b2 b4 b3 d
  have h1 := Sq.voice a5 a6 a7 a9 a8 b5 b6 b7 b9 b8 d
  have h2 := Sq.voice a10 a11 a12 a14 a13 b10 b11 b12 b14 b13 d
  have x3 := Try.isAgg33
  have z3 := Try.sizeOf33
  have hU : Try.prog.cellsOf 33 = 5 := by kernel_rfl
  have hs : (Try.prog.info? 33).isSome = true := by kernel_rfl
  obtain ⟨i, hi⟩ := Option.isSome_iff_exists.1 hs
  rw [run_equalIn_array w (d + 2) _ _ Try.underlying34 hi, hU]
  simp only [List.range, List.range.loop, Op.eqItems]
  cases q0 : ((a0 == b0) && ((a1 == b1) && ((a2 == b2) && ((a3 == b3) && (a4 == b4)))))
  · simp only [q0] at h0
    go_simp
  · simp only [q0] at h0
    cases q1 : ((a5 == b5) && ((a6 == b6) && ((a7 == b7) && ((a8 == b8) && (a9 == b9)))))
    · simp only [q1] at h1
      go_simp
    · simp only [q1] at h1
      cases q2 : ((a10 == b10) && ((a11 == b11) && ((a12 == b12) && ((a13 == b13) && (a14 == b14)))))
      · simp only [q2] at h2
        go_simp
      · simp only [q2] at h2
        go_simp
set_option maxHeartbeats 3200000 in
theorem Sq.cpu (a0 a1 a2 a3 a4 a5 a6 a7 a8 : Int) (a9 a10 a11 a12 a13 a14 : Bool) (b0 b1 b2 b3 b4 b5 b6 b7 b8 : Int) (b9 b10 b11 b12 b13 b14 : Bool) (w : World) : (binOp .eql 25 (.agg #[.int .u16 a0, .int .u16 a1, .int .u16 a2, .int .u16 a3, .int .u16 a4, .int .u16 a5, .int .u16 a6, .int .u16 a7, .int .u16 a8, .bool a9, .bool a10, .bool a11, .bool a12, .bool a13, .bool a14]) (.agg #[.int .u16 b0, .int .u16 b1, .int .u16 b2, .int .u16 b3, .int .u16 b4, .int .u16 b5, .int .u16 b6, .int .u16 b7, .int .u16 b8, .bool b9, .bool b10, .bool b11, .bool b12, .bool b13, .bool b14])).run Try.prog w = .ok (.bool (((a0 == b0) && ((a1 == b1) && ((a2 == b2) && ((a3 == b3) && ((a4 == b4) && ((a5 == b5) && ((a6 == b6) && (a7 == b7)))))))) && ((a8 == b8) && ((a9 == b9) && ((a10 == b10) && ((a11 == b11) && ((a12 == b12) && ((a13 == b13) && (a14 == b14))))))))) w := by
  have uu16 := Try.underlying22
  have xu16 := Try.isAgg22
  have zu16 := Try.sizeOf22
  have ubool := Try.underlying4
  have xbool := Try.isAgg4
  have zbool := Try.sizeOf4
  have x5 := Try.isAgg23
  have z5 := Try.sizeOf23
  have ha := Sq.arr8 a0 a1 a2 a3 a4 a5 a6 a7 b0 b1 b2 b3 b4 b5 b6 b7 9997
  have hS : Try.prog.underlying 25 = some (.struct (Try.prog.fieldsOf 25)) := by kernel_rfl
  have hp : Try.prog.stoodInHeld 25 = false := by kernel_rfl
  rw [run_eql_struct, show (10000 : Nat) = 9999 + 1 from rfl, run_equalIn_agg w 9999 25 _ _ hS hp]
  simp only [Program.fieldsOf, Try.underlying25]
  cases q0 : ((a0 == b0) && ((a1 == b1) && ((a2 == b2) && ((a3 == b3) && ((a4 == b4) && ((a5 == b5) && ((a6 == b6) && (a7 == b7))))))))
  · simp only [q0] at ha
    go_simp
  · simp only [q0] at ha
    cases q1 : (a8 == b8)
    · skip
      go_simp
    · skip
      cases q2 : (a9 == b9)
      · skip
        go_simp
      · skip
        cases q3 : (a10 == b10)
        · skip
          go_simp
        · skip
          cases q4 : (a11 == b11)
          · skip
            go_simp
          · skip
            cases q5 : (a12 == b12)
            · skip
              go_simp
            · skip
              cases q6 : (a13 == b13)
              · skip
                go_simp
              · skip
                cases q7 : (a14 == b14)
                · skip
                  go_simp
                · skip
                  go_simp
set_option maxHeartbeats 3200000 in
theorem Sq.sound (a0 a1 a2 a4 a5 a6 a7 a9 a10 a11 a12 a14 a15 : Int) (a3 a8 a13 : Bool) (b0 b1 b2 b4 b5 b6 b7 b9 b10 b11 b12 b14 b15 : Int) (b3 b8 b13 : Bool) (w : World) : (binOp .eql 36 (.agg #[.int .u16 a0, .int .u16 a1, .int .u8 a2, .bool a3, .int .u16 a4, .int .u16 a5, .int .u16 a6, .int .u8 a7, .bool a8, .int .u16 a9, .int .u16 a10, .int .u16 a11, .int .u8 a12, .bool a13, .int .u16 a14, .int .i64 a15]) (.agg #[.int .u16 b0, .int .u16 b1, .int .u8 b2, .bool b3, .int .u16 b4, .int .u16 b5, .int .u16 b6, .int .u8 b7, .bool b8, .int .u16 b9, .int .u16 b10, .int .u16 b11, .int .u8 b12, .bool b13, .int .u16 b14, .int .i64 b15])).run Try.prog w = .ok (.bool ((((a0 == b0) && ((a1 == b1) && ((a2 == b2) && ((a3 == b3) && (a4 == b4))))) && (((a5 == b5) && ((a6 == b6) && ((a7 == b7) && ((a8 == b8) && (a9 == b9))))) && ((a10 == b10) && ((a11 == b11) && ((a12 == b12) && ((a13 == b13) && (a14 == b14))))))) && (a15 == b15))) w := by
  have ui64 := Try.underlying3
  have xi64 := Try.isAgg3
  have zi64 := Try.sizeOf3
  have x5 := Try.isAgg34
  have z5 := Try.sizeOf34
  have ha := Sq.three a0 a1 a2 a4 a5 a6 a7 a9 a10 a11 a12 a14 a3 a8 a13 b0 b1 b2 b4 b5 b6 b7 b9 b10 b11 b12 b14 b3 b8 b13 9996
  have hS : Try.prog.underlying 36 = some (.struct (Try.prog.fieldsOf 36)) := by kernel_rfl
  have hp : Try.prog.stoodInHeld 36 = false := by kernel_rfl
  rw [run_eql_struct, show (10000 : Nat) = 9999 + 1 from rfl, run_equalIn_agg w 9999 36 _ _ hS hp]
  simp only [Program.fieldsOf, Try.underlying36]
  cases q0 : (((a0 == b0) && ((a1 == b1) && ((a2 == b2) && ((a3 == b3) && (a4 == b4))))) && (((a5 == b5) && ((a6 == b6) && ((a7 == b7) && ((a8 == b8) && (a9 == b9))))) && ((a10 == b10) && ((a11 == b11) && ((a12 == b12) && ((a13 == b13) && (a14 == b14)))))))
  · simp only [q0] at ha
    go_simp
  · simp only [q0] at ha
    cases q1 : (a15 == b15)
    · skip
      go_simp
    · skip
      go_simp
end Go.Proofs.Ytdioiilmpjckfaa
