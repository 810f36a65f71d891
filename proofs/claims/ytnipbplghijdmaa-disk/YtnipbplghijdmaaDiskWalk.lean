/-
  The section 'The disk' holds of the disk: the closed sentence 'Disk' answers true (a disk that was given whole: what is made sure of, lost, torn, and what fails); no condition.
-/
import Derived.Test.YtnipbplghijdmaaDiskCalls
import Derived.OpenShut
import Derived.Lib.SlBytesConst
namespace Go.Proofs.Ytnipbplghijdmaa
open Go.RowKit Go.Maps Go.WideShapes Go.Sort
set_option linter.unusedVariables false

set_option maxRecDepth 100000 in
set_option maxHeartbeats 40000000 in
theorem disk_walk (w : World) : Calls Try.prog 3 #[] w fun e w' => e = .returned (.bool true) ∧ Below w.heap.size w w' := by
  have kc := fun (w : World) (C : Array Value) (n c : Nat) => Lib.run_convert_bytes_const (P := Try.prog) w 27 5 C n c Try.underlying27 Try.underlying5
  go_enter Try.func3, Try.ntmps3
  go_wp2_with fail
  refine (c_new w).mono ?_
  rintro e w1 ⟨d, ρ1, rfl, C1⟩
  go_wp2_with fail
  refine (c_create C1 [97] rfl (by decide)).mono ?_
  rintro e w2 ⟨ρ2, S2, f, rfl, C2, I2'⟩
  have I2 : Is S2 f ⟨[], 0, []⟩ (E1 [97] f) (.map []) [⟨[97], [], [], some f⟩] (-1) (-1) := I2'
  clear I2'
  go_wp2_with fail
  refine (c_append C2 I2 (by refine ⟨⟨?_, ?_, ?_⟩, ?_, ?_⟩ <;> simp [Maps.size]) (by decide) [97, 98] #[.int .u8 97, .int .u8 98] (2, 3) 2 rfl rfl (by decide) (by decide) (by decide)).mono ?_
  rintro e w3 ⟨ρ3, S3, rfl, C3, I3'⟩
  have I3 : Is S3 f ⟨[97, 98], 0, [(0, 2)]⟩ (E1 [97] f) (.map []) [⟨[97], [], [], some f⟩] (-1) (-1) := I3'
  clear I3'
  go_wp2_with fail
  refine (c_sync C3 I3 (by decide) (by decide)).mono ?_
  rintro e w4 ⟨ρ4, S4, rfl, C4, I4'⟩
  have I4 : Is S4 f ⟨[97, 98], 2, []⟩ (E1 [97] f) (.map []) [⟨[97], [], [], some f⟩] (-1) (-1) := I4'
  clear I4'
  go_wp2_with fail
  refine (c_syncdir C4 I4 (by decide) (by simp [Maps.size])).mono ?_
  rintro e w5 ⟨ρ5, S5, rfl, C5, I5'⟩
  have I5 : Is S5 f ⟨[97, 98], 2, []⟩ (E1 [97] f) (E1 [97] f) [] (-1) (-1) := I5'
  clear I5'
  go_wp2_with fail
  refine (c_append C5 I5 (by refine ⟨⟨?_, ?_, ?_⟩, ?_, ?_⟩ <;> simp [Maps.size]) (by decide) [99, 100, 101, 102] #[.int .u8 99, .int .u8 100, .int .u8 101, .int .u8 102] (4, 5) 4 rfl rfl (by decide) (by decide) (by decide)).mono ?_
  rintro e w6 ⟨ρ6, S6, rfl, C6, I6'⟩
  have I6 : Is S6 f ⟨[97, 98, 99, 100, 101, 102], 2, [(2, 4)]⟩ (E1 [97] f) (E1 [97] f) [] (-1) (-1) := I6'
  clear I6'
  go_wp2_with fail
  refine (c_append C6 I6 (by refine ⟨⟨?_, ?_, ?_⟩, ?_, ?_⟩ <;> simp [Maps.size]) (by decide) [103, 104] #[.int .u8 103, .int .u8 104] (2, 3) 2 rfl rfl (by decide) (by decide) (by decide)).mono ?_
  rintro e w7 ⟨ρ7, S7, rfl, C7, I7'⟩
  have I7 : Is S7 f ⟨[97, 98, 99, 100, 101, 102, 103, 104], 2, [(2, 4), (6, 2)]⟩ (E1 [97] f) (E1 [97] f) [] (-1) (-1) := I7'
  clear I7'
  go_wp2_with fail
  refine (c_rename C7 I7 (by refine ⟨⟨?_, ?_, ?_⟩, ?_, ?_⟩ <;> simp [Maps.size]) [98] rfl (by decide) (by decide) (by decide)).mono ?_
  rintro e w8 ⟨ρ8, S8, rfl, C8, I8'⟩
  have I8 : Is S8 f ⟨[97, 98, 99, 100, 101, 102, 103, 104], 2, [(2, 4), (6, 2)]⟩ (E1 [98] f) (E1 [97] f) [⟨[], [97], [98], some f⟩] (-1) (-1) := I8'
  clear I8'
  go_wp2_with fail
  refine (c_size C8 I8 (by decide) (by decide)).mono ?_
  rintro e w9 ⟨ρ9, S9, rfl, C9, I9'⟩
  have I9 : Is S9 f ⟨[97, 98, 99, 100, 101, 102, 103, 104], 2, [(2, 4), (6, 2)]⟩ (E1 [98] f) (E1 [97] f) [⟨[], [97], [98], some f⟩] (-1) (-1) := I9'
  clear I9'
  go_wp2_with fail
  refine (c_read C9 I9 (by refine ⟨⟨?_, ?_, ?_⟩, ?_, ?_⟩ <;> simp [Maps.size]) (by decide) (by decide) 1 4 (by decide) (by decide)).mono ?_
  rintro e w10 ⟨ρ10, S10, qr, cr, rfl, C10, I10', hrow⟩
  have I10 : Is S10 f ⟨[97, 98, 99, 100, 101, 102, 103, 104], 2, [(2, 4), (6, 2)]⟩ (E1 [98] f) (E1 [97] f) [⟨[], [97], [98], some f⟩] (-1) (-1) := I10'
  clear I10'
  go_wp2_with fail
  refine (c_holds C10 I10 (by refine ⟨⟨?_, ?_, ?_⟩, ?_, ?_⟩ <;> simp [Maps.size]) (by decide) [97, 98, 99, 100, 101, 102, 103, 104] rfl (by decide)).mono ?_
  rintro e w11 ⟨rfl, C11, k11⟩
  have I11 := I10
  have hrow' := k11.row hrow (fun _ _ => id)
  have hconv : (convert 27 9 (.slice qr 4 cr)).run Try.prog w11 = .ok (.string ⟨#[98, 99, 100, 101]⟩) w11 := conv_row (l := [98, 99, 100, 101]) hrow' (by decide)
  go_wp2_with fail
  refine (c_crash (C11.laid _) I11 (by refine ⟨⟨?_, ?_, ?_⟩, ?_, ?_⟩ <;> simp [Maps.size]) (by simp [Maps.size]) (by refine ⟨by decide, ?_⟩; simp [Chain]) _ w11.heap.size [1, 0, 1, 0] (picks_new C11 [1, 0, 1, 0] #[.int .i64 1, .int .i64 0, .int .i64 1, .int .i64 0] rfl (by decide) (by decide)) [98] rfl ⟨[97, 98, 0, 0, 0, 0, 103, 104], 8, []⟩ rfl).mono ?_
  rintro e w12 ⟨ρ12, S12, rfl, C12, I12⟩
  go_wp2_with fail
  refine (c_holds C12 I12 (by refine ⟨⟨?_, ?_, ?_⟩, ?_, ?_⟩ <;> simp [Maps.size]) (by decide) [97, 98, 0, 0, 0, 0, 103, 104] rfl (by decide)).mono ?_
  rintro e w13 ⟨rfl, C13, k13⟩
  have I13 := I12
  go_wp2_with fail
  refine (c_append C13 I13 (by refine ⟨⟨?_, ?_, ?_⟩, ?_, ?_⟩ <;> simp [Maps.size]) (by decide) [105, 106, 107, 108] #[.int .u8 105, .int .u8 106, .int .u8 107, .int .u8 108] (4, 5) 4 rfl rfl (by decide) (by decide) (by decide)).mono ?_
  rintro e w14 ⟨ρ14, S14, rfl, C14, I14'⟩
  have I14 : Is S14 f ⟨[97, 98, 0, 0, 0, 0, 103, 104, 105, 106, 107, 108], 8, [(8, 4)]⟩ (E1 [98] f) (E1 [98] f) [] (-1) (-1) := I14'
  clear I14'
  go_wp2_with fail
  refine (c_append C14 I14 (by refine ⟨⟨?_, ?_, ?_⟩, ?_, ?_⟩ <;> simp [Maps.size]) (by decide) [109, 110] #[.int .u8 109, .int .u8 110] (2, 3) 2 rfl rfl (by decide) (by decide) (by decide)).mono ?_
  rintro e w15 ⟨ρ15, S15, rfl, C15, I15'⟩
  have I15 : Is S15 f ⟨[97, 98, 0, 0, 0, 0, 103, 104, 105, 106, 107, 108, 109, 110], 8, [(8, 4), (12, 2)]⟩ (E1 [98] f) (E1 [98] f) [] (-1) (-1) := I15'
  clear I15'
  go_wp2_with fail
  refine (c_rename C15 I15 (by refine ⟨⟨?_, ?_, ?_⟩, ?_, ?_⟩ <;> simp [Maps.size]) [99] rfl (by decide) (by decide) (by decide)).mono ?_
  rintro e w16 ⟨ρ16, S16, rfl, C16, I16'⟩
  have I16 : Is S16 f ⟨[97, 98, 0, 0, 0, 0, 103, 104, 105, 106, 107, 108, 109, 110], 8, [(8, 4), (12, 2)]⟩ (E1 [99] f) (E1 [98] f) [⟨[], [98], [99], some f⟩] (-1) (-1) := I16'
  clear I16'
  go_wp2_with fail
  refine (c_crash (C16.laid _) I16 (by refine ⟨⟨?_, ?_, ?_⟩, ?_, ?_⟩ <;> simp [Maps.size]) (by simp [Maps.size]) (by refine ⟨by decide, ?_⟩; simp [Chain]) _ w16.heap.size [0, 1, 1, 1] (picks_new C16 [0, 1, 1, 1] #[.int .i64 0, .int .i64 1, .int .i64 1, .int .i64 1] rfl (by decide) (by decide)) [98] rfl ⟨[97, 98, 0, 0, 0, 0, 103, 104, 105, 106, 107, 108, 109], 13, []⟩ rfl).mono ?_
  rintro e w17 ⟨ρ17, S17, rfl, C17, I17⟩
  go_wp2_with fail
  refine (c_holds C17 I17 (by refine ⟨⟨?_, ?_, ?_⟩, ?_, ?_⟩ <;> simp [Maps.size]) (by decide) [97, 98, 0, 0, 0, 0, 103, 104, 105, 106, 107, 108, 109] rfl (by decide)).mono ?_
  rintro e w18 ⟨rfl, C18, k18⟩
  have I18 := I17
  go_wp2_with fail
  refine (c_fail C18 I18 1 (by decide)).mono ?_
  rintro e w19 ⟨S19, rfl, C19, I19'⟩
  have I19 : Is S19 f ⟨[97, 98, 0, 0, 0, 0, 103, 104, 105, 106, 107, 108, 109], 13, []⟩ (E1 [98] f) (E1 [98] f) [] (1) (-1) := I19'
  clear I19'
  go_wp2_with fail
  refine (c_append C19 I19 (by refine ⟨⟨?_, ?_, ?_⟩, ?_, ?_⟩ <;> simp [Maps.size]) (by decide) [111] #[.int .u8 111] (1, 2) 1 rfl rfl (by decide) (by decide) (by decide)).mono ?_
  rintro e w20 ⟨ρ20, S20, rfl, C20, I20'⟩
  have I20 : Is S20 f ⟨[97, 98, 0, 0, 0, 0, 103, 104, 105, 106, 107, 108, 109, 111], 13, [(13, 1)]⟩ (E1 [98] f) (E1 [98] f) [] (0) (-1) := I20'
  clear I20'
  go_wp2_with fail
  refine (c_append_bad C20 I20 (by refine ⟨⟨?_, ?_, ?_⟩, ?_, ?_⟩ <;> simp [Maps.size]) (by decide) [112, 113, 114, 115] #[.int .u8 112, .int .u8 113, .int .u8 114, .int .u8 115] (4, 5) 4 rfl rfl (by decide) (by decide) (by decide)).mono ?_
  rintro e w21 ⟨ρ21, S21, rfl, C21, I21'⟩
  have I21 : Is S21 f ⟨[97, 98, 0, 0, 0, 0, 103, 104, 105, 106, 107, 108, 109, 111, 112, 113], 13, [(13, 1), (14, 2)]⟩ (E1 [98] f) (E1 [98] f) [] (-1) (-1) := I21'
  clear I21'
  go_wp2_with fail
  refine (c_sync_none C21 I21 [120] (by decide) (by decide) (by decide)).mono ?_
  rintro e w22 ⟨ρ22, S22, rfl, C22, I22'⟩
  have I22 : Is S22 f ⟨[97, 98, 0, 0, 0, 0, 103, 104, 105, 106, 107, 108, 109, 111, 112, 113], 13, [(13, 1), (14, 2)]⟩ (E1 [98] f) (E1 [98] f) [] (-1) (-1) := I22'
  clear I22'
  go_wp2_with fail
  refine (c_holds C22 I22 (by refine ⟨⟨?_, ?_, ?_⟩, ?_, ?_⟩ <;> simp [Maps.size]) (by decide) [97, 98, 0, 0, 0, 0, 103, 104, 105, 106, 107, 108, 109, 111, 112, 113] rfl (by decide)).mono ?_
  rintro e w23 ⟨rfl, C23, k23⟩
  have I23 := I22
  go_wp2_with fail
  refine (c_cut C23 I23 0 (by decide)).mono ?_
  rintro e w24 ⟨S24, rfl, C24, I24'⟩
  have I24 : Is S24 f ⟨[97, 98, 0, 0, 0, 0, 103, 104, 105, 106, 107, 108, 109, 111, 112, 113], 13, [(13, 1), (14, 2)]⟩ (E1 [98] f) (E1 [98] f) [] (-1) (0) := I24'
  clear I24'
  go_wp2_with fail
  refine (c_remove_bad C24 I24 (by refine ⟨⟨?_, ?_, ?_⟩, ?_, ?_⟩ <;> simp [Maps.size]) (by decide) (by decide)).mono ?_
  rintro e w25 ⟨ρ25, S25, rfl, C25, I25'⟩
  have I25 : Is S25 f ⟨[97, 98, 0, 0, 0, 0, 103, 104, 105, 106, 107, 108, 109, 111, 112, 113], 13, [(13, 1), (14, 2)]⟩ (E1 [98] f) (E1 [98] f) [] (-1) (0) := I25'
  clear I25'
  go_wp2_with fail
  refine (c_names_bad C25 I25 (by decide)).mono ?_
  rintro e w26 ⟨ρ26, S26, rfl, C26, I26'⟩
  have I26 : Is S26 f ⟨[97, 98, 0, 0, 0, 0, 103, 104, 105, 106, 107, 108, 109, 111, 112, 113], 13, [(13, 1), (14, 2)]⟩ (E1 [98] f) (E1 [98] f) [] (-1) (0) := I26'
  clear I26'
  go_wp2_with fail
  refine (c_crash C26 I26 (by refine ⟨⟨?_, ?_, ?_⟩, ?_, ?_⟩ <;> simp [Maps.size]) (by simp [Maps.size]) (by refine ⟨by decide, ?_⟩; simp [Chain]) _ _ [] (picks_none C26) [98] rfl ⟨[97, 98, 0, 0, 0, 0, 103, 104, 105, 106, 107, 108, 109], 13, []⟩ rfl).mono ?_
  rintro e w27 ⟨ρ27, S27, rfl, C27, I27⟩
  go_wp2_with fail
  refine (c_holds C27 I27 (by refine ⟨⟨?_, ?_, ?_⟩, ?_, ?_⟩ <;> simp [Maps.size]) (by decide) [97, 98, 0, 0, 0, 0, 103, 104, 105, 106, 107, 108, 109] rfl (by decide)).mono ?_
  rintro e w28 ⟨rfl, C28, k28⟩
  have I28 := I27
  go_wp2_with fail
  refine (c_remove C28 I28 (by refine ⟨⟨?_, ?_, ?_⟩, ?_, ?_⟩ <;> simp [Maps.size]) (by decide) (by decide)).mono ?_
  rintro e w29 ⟨ρ29, S29, rfl, C29, I29'⟩
  go_wp2_with fail
  refine (c_all_none C29 I29' (by refine ⟨⟨?_, ?_, ?_⟩, ?_, ?_⟩ <;> simp [Maps.size])).mono ?_
  rintro e w30 ⟨pz, cz, rfl, C30⟩
  go_wp2
  go_ret
  exact ⟨rfl, ⟨C30.keeps.os, C30.keeps.tape, C30.keeps.output, C30.keeps.size, fun i hi => C30.keeps.block i hi id⟩⟩
end Go.Proofs.Ytnipbplghijdmaa
