/-
  The disk's calls at a disk with one file.
-/
import Derived.Test.YtnipbplghijdmaaDiskSteps
import Derived.Test.YtnipbplghijdmaaRead
namespace Go.Proofs.Ytnipbplghijdmaa
open Go.RowKit Go.Maps Go.WideShapes Go.Sort
set_option linter.unusedVariables false

def Sz (a : FileA) (F : DataW Nat) (L : List ChangeA) : Prop := (a.bytes.length < 1099511627776 ∧ a.late.length < 1099511627776 ∧ a.safe < 1099511627776) ∧ Maps.size F < 1099511627776 ∧ L.length < 1099511627776

section
variable {W w : World} {O : Option Nat} {ρ : Nat → Role} {d : Nat} {S : DiskA} {f : Nat} {a : FileA} {F : DataW Nat} {L : List ChangeA} {fl ct : Int} {nm : Str}

theorem Is.sm (I : Is S f a (E1 nm f) F L fl ct) (z : Sz a F L) : Small S := I.small (by simp [Maps.size]) z.2.1 z.2.2 z.1

theorem c_new (W : World) : Calls Try.prog 4 #[] W fun e w' => ∃ d ρ, e = .returned (.pointer (some ⟨d, 0, none⟩)) ∧ Cur W w' ρ d DiskA.new none := by
  refine (new_any W).mono ?_
  rintro e w' ⟨rfl, R, K⟩
  exact ⟨_, _, rfl, R, K, fun i hi => (by simp only [newRole]; rw [if_neg (by omega), if_neg (by omega), if_neg (by omega)]), fun g hg => (by cases hg)⟩

theorem c_create (C : Cur W w ρ d DiskA.new O) (nm : Str) (h0 : nm.isEmpty = false) (hn : nm.length < 1099511627776) : Calls Try.prog 5 #[.pointer (some ⟨d, 0, none⟩), strV nm] w fun e w' =>
    ∃ ρ' S' f, e = .returned (.int .i64 0) ∧ Cur W w' ρ' d S' O ∧ Is S' f newFile (E1 nm f) (.map []) [⟨nm, [], [], some f⟩] (-1) (-1) := by
  have Z : Small DiskA.new := ⟨by simp [DiskA.new, Maps.size], by simp [DiskA.new, Maps.size], by simp [DiskA.new], fun f a h => by cases h⟩
  refine (create_any nm C.rep Z hn).mono ?_
  rintro e w' ⟨ρ', G, h⟩
  rcases h with ⟨hb, _⟩ | ⟨_, h1, _⟩ | ⟨_, _, rfl, f, hf, R⟩
  · exact absurd hb (by decide)
  · rw [h1] at h0; cases h0
  · refine ⟨ρ', _, f, rfl, C.step R G, ⟨?_, rfl, rfl, by simp [DiskA.named, DiskA.withFile, DiskA.called, DiskA.new], by simp [DiskA.named, DiskA.withFile, DiskA.called, DiskA.new], by simp [DiskA.named, DiskA.withFile], fun g b hb => ?_⟩⟩
    · exact do_make nm f h0
    · simp only [DiskA.named, DiskA.withFile, DiskA.called, DiskA.new] at hb
      split at hb
      · assumption
      · cases hb

theorem arg_new {src : List UInt8} (C : Cur W w ρ d S O) (cs : Array Value) (fz : Nat × Nat) (hcs : cs.toList = src.map byteV) : Arg (w.alloc (.cells cs 5 fz)) ρ (.slice (some ⟨w.heap.size, 0, none⟩) src.length src.length) src :=
  .inr ⟨_, _, rfl, Nat.le_refl _, C.fresh, cells_at (heap_alloc_top w _) hcs⟩
theorem picks_new (C : Cur W w ρ d S O) (l : List Int) (cs : Array Value) (hcs : cs.toList = l.map (Value.int .i64)) (hl : l.length ≤ maxLen) (hb : ∀ x ∈ l, -9223372036854775808 ≤ x ∧ x ≤ 9223372036854775807) :
    ArgPicks (w.alloc (.cells cs 3)) ρ (.slice (some ⟨w.heap.size, 0, none⟩) l.length l.length) w.heap.size l := by
  refine ⟨by simp, C.fresh, _, _, rfl, Nat.le_refl _, hl, hb, fun _ => ⟨0, rfl, fun j hj => ?_⟩⟩
  have h := cells_at (heap_alloc_top w (.cells cs 3)) hcs j (.int .i64 (l.getD j 0)) (by simp [List.getElem?_eq_getElem hj])
  rw [add_zero] at h
  rw [Nat.zero_add]
  exact h
theorem picks_none {g : Nat} (C : Cur W w ρ d S (some g)) : ArgPicks w ρ (.slice none 0 0) g [] :=
  ⟨(C.spare g rfl).1, (C.spare g rfl).2, none, 0, rfl, Nat.le_refl _, Nat.zero_le _, fun x hx => (by cases hx), fun h => absurd rfl h⟩

theorem c_append (C : Cur W w ρ d S O) (I : Is S f a (E1 nm f) F L fl ct) (z : Sz a F L) (hn : nm.length < 1099511627776) (src : List UInt8) (cs : Array Value) (fz : Nat × Nat) (n : Nat) (hcs : cs.toList = src.map byteV) (hln : n = src.length) (hpos : 0 < src.length)
    (hb : (fl == 0 || ct == 0) = false) (hz : src.length + a.bytes.length ≤ 20000) :
    Calls Try.prog 6 #[.pointer (some ⟨d, 0, none⟩), strV nm, .slice (some ⟨w.heap.size, 0, none⟩) n n] (w.alloc (.cells cs 5 fz)) fun e w' =>
      ∃ ρ' S', e = .returned (.int .i64 0) ∧ Cur W w' ρ' d S' (some w.heap.size) ∧ Is S' f (a.put src) (E1 nm f) F L (if 0 ≤ fl then fl - 1 else fl) (if 0 < ct then ct - 1 else ct) := by
  subst hln
  have C1 := C.laid (.cells cs 5 fz)
  have ht := I.total
  refine (append_some nm src ⟨w.heap.size, 0, none⟩ src.length C1.rep (I.sm z) hn (by rw [I.at]; exact at_E1 nm f) I.file hpos (by omega) (arg_new C cs fz hcs) (Nat.le_refl _) (by unfold maxLen; omega) (by rw [ht]; omega)).mono ?_
  rintro e w' ⟨ρ', G, h⟩
  rcases h with ⟨h1, _⟩ | ⟨_, _, rfl, R⟩
  · rcases h1 with h1 | h1
    · rw [I.bad, hb] at h1; cases h1
    · rw [ht] at h1; omega
  · exact ⟨ρ', _, rfl, C1.step R G, (I.called true).withFile _⟩

theorem c_append_bad (C : Cur W w ρ d S O) (I : Is S f a (E1 nm f) F L fl ct) (z : Sz a F L) (hn : nm.length < 1099511627776) (src : List UInt8) (cs : Array Value) (fz : Nat × Nat) (n : Nat) (hcs : cs.toList = src.map byteV) (hln : n = src.length) (hpos : 0 < src.length)
    (hb : (fl == 0 || ct == 0) = true) (hz : src.length + a.bytes.length ≤ 20000) :
    Calls Try.prog 6 #[.pointer (some ⟨d, 0, none⟩), strV nm, .slice (some ⟨w.heap.size, 0, none⟩) n n] (w.alloc (.cells cs 5 fz)) fun e w' =>
      ∃ ρ' S', e = .returned (.int .i64 1) ∧ Cur W w' ρ' d S' (some w.heap.size) ∧ Is S' f (a.put (src.take (src.length / 2))) (E1 nm f) F L (if 0 ≤ fl then fl - 1 else fl) (if 0 < ct then ct - 1 else ct) := by
  subst hln
  have C1 := C.laid (.cells cs 5 fz)
  have ht := I.total
  refine (append_some nm src ⟨w.heap.size, 0, none⟩ src.length C1.rep (I.sm z) hn (by rw [I.at]; exact at_E1 nm f) I.file hpos (by omega) (arg_new C cs fz hcs) (Nat.le_refl _) (by unfold maxLen; omega) (by rw [ht]; omega)).mono ?_
  rintro e w' ⟨ρ', G, h⟩
  rcases h with ⟨_, rfl, R⟩ | ⟨h1, _⟩
  · exact ⟨ρ', _, rfl, C1.step R G, (I.called true).withFile _⟩
  · rw [I.bad, hb] at h1; cases h1

theorem c_sync (C : Cur W w ρ d S O) (I : Is S f a (E1 nm f) F L fl ct) (hn : nm.length < 1099511627776) (hb : (fl == 0 || ct == 0) = false) :
    Calls Try.prog 7 #[.pointer (some ⟨d, 0, none⟩), strV nm] w fun e w' => ∃ ρ' S', e = .returned (.int .i64 0) ∧ Cur W w' ρ' d S' O ∧ Is S' f a.synced (E1 nm f) F L (if 0 ≤ fl then fl - 1 else fl) (if 0 < ct then ct - 1 else ct) := by
  refine (sync_any nm C.rep hn).mono ?_
  rintro e w' ⟨ρ', G, h⟩
  rcases h with ⟨h1, _⟩ | ⟨_, h1, _⟩ | ⟨_, rfl, f', a', h1, h2, R⟩
  · rw [I.bad, hb] at h1; cases h1
  · rw [I.at, at_E1] at h1; cases h1
  · rw [I.at, at_E1] at h1
    cases h1
    rw [I.file] at h2
    cases h2
    exact ⟨ρ', _, rfl, C.step R G, (I.called true).withFile _⟩

theorem c_sync_none (C : Cur W w ρ d S O) (I : Is S f a (E1 nm f) F L fl ct) (x : Str) (hx : nm ≠ x) (hn : x.length < 1099511627776) (hb : (fl == 0 || ct == 0) = false) :
    Calls Try.prog 7 #[.pointer (some ⟨d, 0, none⟩), strV x] w fun e w' => ∃ ρ' S', e = .returned (.int .i64 2) ∧ Cur W w' ρ' d S' O ∧ Is S' f a (E1 nm f) F L (if 0 ≤ fl then fl - 1 else fl) (if 0 < ct then ct - 1 else ct) := by
  refine (sync_any x C.rep hn).mono ?_
  rintro e w' ⟨ρ', G, h⟩
  rcases h with ⟨h1, _⟩ | ⟨_, _, rfl, R⟩ | ⟨_, rfl, f', a', h1, h2, R⟩
  · rw [I.bad, hb] at h1; cases h1
  · exact ⟨ρ', _, rfl, C.step R G, I.called true⟩
  · rw [I.at, at_E1_ne f hx] at h1; cases h1

theorem c_syncdir (C : Cur W w ρ d S O) (I : Is S f a (E1 nm f) F L fl ct) (hb : (fl == 0 || ct == 0) = false) (hz : Maps.size F + L.length < 1099511627776) :
    Calls Try.prog 8 #[.pointer (some ⟨d, 0, none⟩)] w fun e w' => ∃ ρ' S', e = .returned (.int .i64 0) ∧ Cur W w' ρ' d S' O ∧ Is S' f a (E1 nm f) (L.foldl doA F) [] (if 0 ≤ fl then fl - 1 else fl) (if 0 < ct then ct - 1 else ct) := by
  refine (syncdir_some C.rep (by rw [I.bad]; exact hb) (by rw [I.safe, I.late]; exact hz)).mono ?_
  rintro e w' ⟨rfl, ρ', G, R⟩
  have I' := I.called true
  exact ⟨ρ', _, rfl, C.step R G, ⟨I'.names, by show (S.called true).late.foldl doA (S.called true).safe = _; rw [I'.late, I'.safe], rfl, I'.fail, I'.cut, I'.file, I'.only⟩⟩

theorem c_rename (C : Cur W w ρ d S O) (I : Is S f a (E1 nm f) F L fl ct) (z : Sz a F L) (x : Str) (hx : x.isEmpty = false) (hn : nm.length < 1099511627776) (hxl : x.length < 1099511627776) (hb : (fl == 0 || ct == 0) = false) :
    Calls Try.prog 9 #[.pointer (some ⟨d, 0, none⟩), strV nm, strV x] w fun e w' => ∃ ρ' S', e = .returned (.int .i64 0) ∧ Cur W w' ρ' d S' O ∧ Is S' f a (doA (E1 nm f) ⟨[], nm, x, some f⟩) F (L ++ [⟨[], nm, x, some f⟩]) (if 0 ≤ fl then fl - 1 else fl) (if 0 < ct then ct - 1 else ct) := by
  refine (rename_any nm x C.rep (I.sm z) hn hxl).mono ?_
  rintro e w' ⟨ρ', G, h⟩
  rcases h with ⟨h1, _⟩ | ⟨_, h1, _⟩ | ⟨_, _, rfl, f', h1, R⟩
  · rw [I.bad, hb] at h1; cases h1
  · rcases h1 with h1 | h1
    · rw [I.at, at_E1] at h1; cases h1
    · rw [h1] at hx; cases hx
  · rw [I.at, at_E1] at h1
    cases h1
    exact ⟨ρ', _, rfl, C.step R G, (I.called true).named _⟩

theorem c_size (C : Cur W w ρ d S O) (I : Is S f a (E1 nm f) F L fl ct) (hn : nm.length < 1099511627776) (hb : (fl == 0 || ct == 0) = false) :
    Calls Try.prog 10 #[.pointer (some ⟨d, 0, none⟩), strV nm] w fun e w' => ∃ ρ' S', e = .returned (.tuple #[.int .i64 a.bytes.length, .int .i64 0]) ∧ Cur W w' ρ' d S' O ∧ Is S' f a (E1 nm f) F L (if 0 ≤ fl then fl - 1 else fl) (if 0 < ct then ct - 1 else ct) := by
  refine (size_any nm C.rep hn).mono ?_
  rintro e w' ⟨G, R, h⟩
  rcases h with ⟨h1, _⟩ | ⟨_, h1, _⟩ | ⟨_, f', a', h1, h2, rfl⟩
  · rw [I.bad, hb] at h1; cases h1
  · rw [I.at, at_E1] at h1; cases h1
  · rw [I.at, at_E1] at h1
    cases h1
    rw [I.file] at h2
    cases h2
    exact ⟨ρ, _, rfl, C.step R G, I.called false⟩

theorem c_read (C : Cur W w ρ d S O) (I : Is S f a (E1 nm f) F L fl ct) (z : Sz a F L) (hn : nm.length < 1099511627776) (hb : (fl == 0 || ct == 0) = false) (p k : Nat) (hp : p + k ≤ a.bytes.length) (hk : 0 < k) :
    Calls Try.prog 11 #[.pointer (some ⟨d, 0, none⟩), strV nm, .int .i64 p, .int .i64 k] w fun e w' => ∃ ρ' S' q c, e = .returned (.tuple #[.slice q k c, .int .i64 0]) ∧ Cur W w' ρ' d S' O ∧ Is S' f a (E1 nm f) F L (if 0 ≤ fl then fl - 1 else fl) (if 0 < ct then ct - 1 else ct) ∧
      w'.ownsRow w.heap.size 5 1 (.slice q k c) k (((a.bytes.drop p).take k).map byteV) := by
  refine (read_some nm p k C.rep (I.sm z) hn (by rw [I.bad]; exact hb) (by rw [I.at]; exact at_E1 nm f) I.file hp (by omega)).mono ?_
  rintro e w' ⟨G, R, q, c, rfl, h⟩
  exact ⟨ρ, _, q, c, rfl, C.step R G, I.called false, h⟩

theorem c_holds (C : Cur W w ρ d S O) (I : Is S f a (E1 nm f) F L fl ct) (z : Sz a F L) (hn : nm.length < 1099511627776) (s : Str) (hs : a.bytes = s) (hpos : 0 < s.length) :
    Calls Try.prog 12 #[.pointer (some ⟨d, 0, none⟩), strV nm, strV s] w fun e w' => e = .returned (.bool true) ∧ Cur W w' ρ d S O ∧ Keeps w w' (fun _ => False) := by
  subst hs
  refine (holds_true nm C.rep (I.sm z) hn (by rw [I.keys]; exact keys_E1 nm f) (by rw [I.at]; exact at_E1 nm f) I.file hpos).mono ?_
  rintro e w' ⟨rfl, k⟩
  exact ⟨rfl, C.other k, k⟩

theorem c_fail (C : Cur W w ρ d S O) (I : Is S f a (E1 nm f) F L fl ct) (n : Int) (hn : n ≤ 9223372036854775807) : Calls Try.prog 14 #[.pointer (some ⟨d, 0, none⟩), .int .i64 n] w fun e w' => ∃ S', e = .returned (.tuple #[]) ∧ Cur W w' ρ d S' O ∧ Is S' f a (E1 nm f) F L (max n (-1)) ct := by
  refine (fail_any n hn C.rep).mono ?_
  rintro e w' ⟨rfl, R, G⟩
  exact ⟨_, rfl, C.step R G, ⟨I.names, I.safe, I.late, rfl, I.cut, I.file, I.only⟩⟩
theorem c_cut (C : Cur W w ρ d S O) (I : Is S f a (E1 nm f) F L fl ct) (n : Int) (hn : n ≤ 9223372036854775807) : Calls Try.prog 15 #[.pointer (some ⟨d, 0, none⟩), .int .i64 n] w fun e w' => ∃ S', e = .returned (.tuple #[]) ∧ Cur W w' ρ d S' O ∧ Is S' f a (E1 nm f) F L fl (max n (-1)) := by
  refine (cut_any n hn C.rep).mono ?_
  rintro e w' ⟨rfl, R, G⟩
  exact ⟨_, rfl, C.step R G, ⟨I.names, I.safe, I.late, I.fail, rfl, I.file, I.only⟩⟩

theorem c_remove_bad (C : Cur W w ρ d S O) (I : Is S f a (E1 nm f) F L fl ct) (z : Sz a F L) (hn : nm.length < 1099511627776) (hb : (fl == 0 || ct == 0) = true) :
    Calls Try.prog 16 #[.pointer (some ⟨d, 0, none⟩), strV nm] w fun e w' => ∃ ρ' S', e = .returned (.int .i64 1) ∧ Cur W w' ρ' d S' O ∧ Is S' f a (E1 nm f) F L (if 0 ≤ fl then fl - 1 else fl) (if 0 < ct then ct - 1 else ct) := by
  refine (remove_any nm C.rep (I.sm z) hn).mono ?_
  rintro e w' ⟨ρ', G, h⟩
  rcases h with ⟨_, rfl, R⟩ | ⟨h1, _⟩ | ⟨h1, _⟩
  · exact ⟨ρ', _, rfl, C.step R G, I.called true⟩
  · rw [I.bad, hb] at h1; cases h1
  · rw [I.bad, hb] at h1; cases h1
theorem c_remove (C : Cur W w ρ d S O) (I : Is S f a (E1 nm f) F L fl ct) (z : Sz a F L) (hn : nm.length < 1099511627776) (hb : (fl == 0 || ct == 0) = false) :
    Calls Try.prog 16 #[.pointer (some ⟨d, 0, none⟩), strV nm] w fun e w' => ∃ ρ' S', e = .returned (.int .i64 0) ∧ Cur W w' ρ' d S' O ∧ Is S' f a (.map []) F (L ++ [⟨[], nm, [], none⟩]) (if 0 ≤ fl then fl - 1 else fl) (if 0 < ct then ct - 1 else ct) := by
  refine (remove_any nm C.rep (I.sm z) hn).mono ?_
  rintro e w' ⟨ρ', G, h⟩
  rcases h with ⟨h1, _⟩ | ⟨_, h1, _⟩ | ⟨_, rfl, f', h1, R⟩
  · rw [I.bad, hb] at h1; cases h1
  · rw [I.at, at_E1] at h1; cases h1
  · have I' := (I.called true).named ⟨[], nm, [], none⟩
    rw [do_rm] at I'
    exact ⟨ρ', _, rfl, C.step R G, I'⟩
theorem c_names_bad (C : Cur W w ρ d S O) (I : Is S f a (E1 nm f) F L fl ct) (hb : (fl == 0 || ct == 0) = true) :
    Calls Try.prog 17 #[.pointer (some ⟨d, 0, none⟩)] w fun e w' => ∃ ρ' S', e = .returned (.tuple #[.slice none 0 0, .int .i64 1]) ∧ Cur W w' ρ' d S' O ∧ Is S' f a (E1 nm f) F L (if 0 ≤ fl then fl - 1 else fl) (if 0 < ct then ct - 1 else ct) := by
  refine (names_bad C.rep (by rw [I.bad]; exact hb)).mono ?_
  rintro e w' ⟨rfl, G, R⟩
  exact ⟨ρ, _, rfl, C.step R G, I.called false⟩
theorem c_all_none (C : Cur W w ρ d S O) (I : Is S f a (.map []) F L fl ct) (z : Sz a F L) :
    Calls Try.prog 18 #[.pointer (some ⟨d, 0, none⟩)] w fun e w' => ∃ p c, e = .returned (.slice p 0 c) ∧ Cur W w' ρ d S O := by
  have hk : S.keys = [] := by rw [I.keys]; simp [strKeys]
  refine (all_any C.rep (I.small (by simp [Maps.size]) z.2.1 z.2.2 z.1)).mono ?_
  rintro e w' ⟨k, p, c, rfl, _⟩
  exact ⟨p, c, by rw [hk]; rfl, C.other k⟩

/-- The crash, where the names that are sure then are one. -/
theorem c_crash (C : Cur W w ρ d S O) (I : Is S f a (E1 nm f) F L fl ct) (z : Sz a F L) (hz : Maps.size F + L.length < 1099511627776) (hwf : a.Wf) (v : Value) (pg : Nat) (ch : List Int) (hv : ArgPicks w ρ v pg ch) (x : Str)
    (hx : safeTo F L (pickOf (ch.headD 0) (L.length + 1)) = E1 x f) (a' : FileA) (ha' : a.settled ch.tail = a') :
    Calls Try.prog 13 #[.pointer (some ⟨d, 0, none⟩), v] w fun e w' => ∃ ρ' S', e = .returned (.tuple #[]) ∧ Cur W w' ρ' d S' O ∧ Is S' f a' (E1 x f) (E1 x f) [] (-1) (-1) := by
  refine (crash_any v pg ch C.rep (I.sm z) (I.wf hwf) (by rw [I.safe, I.late]; exact hz) hv).mono ?_
  rintro e w' ⟨rfl, ρ', R, G⟩
  have I1 : Is (S.cutTo (pickOf (ch.headD 0) (S.late.length + 1))) f a (E1 x f) (E1 x f) [] fl ct := by
    refine ⟨?_, ?_, rfl, I.fail, I.cut, I.file, I.only⟩
    · show safeTo S.safe S.late _ = _
      rw [I.safe, I.late]; exact hx
    · show safeTo S.safe S.late _ = _
      rw [I.safe, I.late]; exact hx
  refine ⟨ρ', _, rfl, C.step R G, ?_⟩
  unfold DiskA.crashed
  simp only
  have hk : (S.cutTo (pickOf (ch.headD 0) (S.late.length + 1))).keys = [x] := by rw [I1.keys]; exact keys_E1 x f
  rw [hk]
  have hone : settleAll [x] (S.cutTo (pickOf (ch.headD 0) (S.late.length + 1))) ch.tail = ((S.cutTo (pickOf (ch.headD 0) (S.late.length + 1))).withFile f (a.settled ch.tail), a.left ch.tail) := by
    unfold settleAll
    simp only [List.foldl_cons, List.foldl_nil]
    exact settleOne_eq ch.tail (by rw [I1.at]; exact at_E1 x f) I1.file
  rw [hone, ha']
  have I2 := I1.withFile a'
  exact ⟨I2.names, I2.safe, I2.late, rfl, rfl, I2.file, I2.only⟩
end
end Go.Proofs.Ytnipbplghijdmaa
