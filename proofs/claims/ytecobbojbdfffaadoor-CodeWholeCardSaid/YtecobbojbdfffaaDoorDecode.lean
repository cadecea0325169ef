/-
  The instruction of eight bytes, the program's and the document's.
-/
import Derived.Test.YtecobbojbdfffaaDoorBytes
import Derived.Laws.BitsAllLaws
import Derived.Laws.BitsLemmas
namespace Go.Proofs.YtecobbojbdfffaaDoor
open Go.RowKit
theorem ofInt_u32 (a : Nat) (ha : a < 4294967296) : (BitVec.ofInt 32 (a : Int)).toNat = a := by
  rw [BitVec.ofInt_natCast, BitVec.toNat_ofNat]; exact Nat.mod_eq_of_lt (by omega)
theorem u32_or_nat (a b : Nat) (ha : a < 4294967296) (hb : b < 4294967296) : bits .or .u32 (a : Int) (b : Int) = ((a ||| b : Nat) : Int) := by
  have hx : a ||| b < 2 ^ 32 := Nat.or_lt_two_pow (by omega) (by omega)
  show IntKind.u32.wrap ((BitVec.ofInt 32 (a : Int) ||| BitVec.ofInt 32 (b : Int)).toNat : Int) = _
  rw [BitVec.toNat_or, ofInt_u32 a ha, ofInt_u32 b hb, IntKind.wrap_u32]
  omega
/-- Bits that lie apart. -/
theorem u32_or_sum (k : Nat) (x y : Int) (hx : 0 ≤ x) (hy : 0 ≤ y) (hy2 : y < (2 ^ k : Nat)) (hm : x * (2 ^ k : Nat) < 4294967296) (hyb : y < 4294967296) : bits .or .u32 (x * (2 ^ k : Nat)) y = x * (2 ^ k : Nat) + y := by
  obtain ⟨a, rfl⟩ := Int.eq_ofNat_of_zero_le hx
  obtain ⟨b, rfl⟩ := Int.eq_ofNat_of_zero_le hy
  have e := u32_or_nat (a * 2 ^ k) b (by have : ((a * 2 ^ k : Nat) : Int) < 4294967296 := by rw [Int.natCast_mul]; exact hm
                                         omega) (by omega)
  rw [Int.natCast_mul] at e
  rw [e, ← Int.natCast_mul, ← Int.natCast_add]
  congr 1
  have := Nat.two_pow_add_eq_or_of_lt (i := k) (b := b) (by omega) a
  rw [Nat.mul_comm, this]

def decN (a b c d : Int) : Int := a * 16777216 + b * 65536 + c * 256 + d

theorem bits4 (a b c d : Int) (ha : 0 ≤ a ∧ a ≤ 255) (hb : 0 ≤ b ∧ b ≤ 255) (hc : 0 ≤ c ∧ c ≤ 255) (hd : 0 ≤ d ∧ d ≤ 255) :
    bits .or .u32 (bits .or .u32 (bits .or .u32 (a * 16777216) (b * 65536)) (c * 256)) d = decN a b c d := by
  have e1 := u32_or_sum 24 a (b * 65536) (by omega) (by omega) (by omega) (by omega) (by omega)
  have e2 := u32_or_sum 16 (a * 256 + b) (c * 256) (by omega) (by omega) (by omega) (by omega) (by omega)
  have e3 := u32_or_sum 8 (a * 65536 + b * 256 + c) d (by omega) (by omega) (by omega) (by omega) (by omega)
  simp only [Nat.reducePow, Int.cast_ofNat_Int] at e1 e2 e3
  rw [e1, show a * 16777216 + b * 65536 = (a * 256 + b) * 65536 by omega, e2, show (a * 256 + b) * 65536 + c * 256 = (a * 65536 + b * 256 + c) * 256 by omega, e3]
  unfold decN
  omega
def sgn (n : Int) : Int := if 2147483648 ≤ n then n - 4294967296 else n

theorem sgn_wrap (n : Int) (h0 : 0 ≤ n) (h1 : n < 4294967296) : IntKind.i32.wrap n = sgn n := by
  unfold sgn
  rw [IntKind.wrap_i32]
  split <;> omega

theorem decN_bound {a b c d : Int} (ha : 0 ≤ a ∧ a ≤ 255) (hb : 0 ≤ b ∧ b ≤ 255) (hc : 0 ≤ c ∧ c ≤ 255) (hd : 0 ≤ d ∧ d ≤ 255) : 0 ≤ decN a b c d ∧ decN a b c d < 4294967296 := by
  unfold decN
  omega

theorem sgn_bound {n : Int} (h0 : 0 ≤ n) (h1 : n < 4294967296) : -2147483648 ≤ sgn n ∧ sgn n ≤ 2147483647 := by
  unfold sgn
  split <;> omega

theorem fr_set5 (w : World) (g : Nat) (a b c d e : Value) : Fr (fun k => k = g) w (((((w.setCell ⟨g, 0, none⟩ a).setCell ⟨g, 1, none⟩ b).setCell ⟨g, 2, none⟩ c).setCell ⟨g, 3, none⟩ d).setCell ⟨g, 4, none⟩ e) :=
  have h : ∀ (W : World) (j : Nat) (v : Value), Fr (fun k => k = g) W (W.setCell ⟨g, j, none⟩ v) := fun W j v => Fr.setCell (S := fun k => k = g) W ⟨g, j, none⟩ v rfl
  ((((h _ _ _).trans (h _ _ _)).trans (h _ _ _)).trans (h _ _ _)).trans (h _ _ _)

theorem blk_set5 {w : World} {g : Nat} {x0 x1 x2 x3 x4 : Value} (h : Blk w g #[x0, x1, x2, x3, x4]) (a b c d e : Value) : Blk (((((w.setCell ⟨g, 0, none⟩ a).setCell ⟨g, 1, none⟩ b).setCell ⟨g, 2, none⟩ c).setCell ⟨g, 3, none⟩ d).setCell ⟨g, 4, none⟩ e) g #[a, b, c, d, e] :=
  ((((h.set 0 a).set 1 b).set 2 c).set 3 d).set 4 e

set_option maxRecDepth 100000 in
set_option maxHeartbeats 2000000 in
theorem decode_raw (b o cap : Nat) (x0 x1 x2 x3 x4 x5 x6 x7 N M y : Int) (w : World) (ht : Tabs w) (hb : b < w.heap.size)
    (p0 : w.cell? ⟨b, o, none⟩ = some (.int .u8 x0)) (p1 : w.cell? ⟨b, o + 1, none⟩ = some (.int .u8 x1)) (p2 : w.cell? ⟨b, o + 2, none⟩ = some (.int .u8 x2)) (p3 : w.cell? ⟨b, o + 3, none⟩ = some (.int .u8 x3)) (p4 : w.cell? ⟨b, o + 4, none⟩ = some (.int .u8 x4)) (p5 : w.cell? ⟨b, o + 5, none⟩ = some (.int .u8 x5)) (p6 : w.cell? ⟨b, o + 6, none⟩ = some (.int .u8 x6)) (p7 : w.cell? ⟨b, o + 7, none⟩ = some (.int .u8 x7))
    (h0 : 0 ≤ x0 ∧ x0 ≤ 255) (h1 : 0 ≤ x1 ∧ x1 ≤ 255) (h2 : 0 ≤ x2 ∧ x2 ≤ 255) (h3 : 0 ≤ x3 ∧ x3 ≤ 255) (h4 : 0 ≤ x4 ∧ x4 ≤ 255) (h5 : 0 ≤ x5 ∧ x5 ≤ 255) (h6 : 0 ≤ x6 ∧ x6 ≤ 255) (h7 : 0 ≤ x7 ∧ x7 ≤ 255)
    (hN : bits .or .u32 (bits .or .u32 (bits .or .u32 (x4 * 16777216) (x5 * 65536)) (x6 * 256)) x7 = N) (hM : IntKind.i32.wrap N = M) (hM0 : -2147483648 ≤ M) (hM1 : M ≤ 2147483647) (hy : chk ⟨x0, x1, x2, x3, M⟩ = y) :
    Calls Tryd.prog 19 #[.slice (some ⟨b, o, none⟩) 8 cap] w fun e w' => e = .returned (.tuple #[Ins.val (if y = 0 then ⟨x0, x1, x2, x3, M⟩ else Ins.zero), .int .i64 y]) ∧ Fr (fun _ => False) w w' := by
  have HC := hid (check_any ⟨x0, x1, x2, x3, M⟩)
  rw [hy] at HC
  have HN := hid hN
  have HM := hid hM
  clear hN hM hy
  have hA := Fr.alloc (fun _ => False) w (.cells #[.int .i64 0, .int .i64 0, .int .i64 0, .int .i64 0, .int .i64 0] 23)
  go_enter Tryd.func19, Tryd.ntmps19
  go_wp2_with fail
  go_quiet (fail)
  go_wp2_with fail
  have hm := HM.out
  have hn := HN.out
  simp only [hn]
  obtain ⟨w1, hw1⟩ : ∃ w1, w1 = (w.alloc (.cells #[.int .i64 0, .int .i64 0, .int .i64 0, .int .i64 0, .int .i64 0] 23)).drewN nq := ⟨_, rfl⟩
  have hF1 : Fr (fun _ => False) w w1 := by rw [hw1]; exact hA.trans (Fr.drewN _ _ _)
  have hB1 : Blk w1 w.heap.size #[.int .i64 0, .int .i64 0, .int .i64 0, .int .i64 0, .int .i64 0] := by rw [hw1]; exact (Blk.new _ _ _).drewN _
  rw [← hw1]
  have c0 := (cell_keep hF1 (p := ⟨b, o, none⟩) hb (fun h => h)).trans p0
  have c1 := (cell_keep hF1 (p := ⟨b, o + 1, none⟩) hb (fun h => h)).trans p1
  have c2 := (cell_keep hF1 (p := ⟨b, o + 2, none⟩) hb (fun h => h)).trans p2
  have c3 := (cell_keep hF1 (p := ⟨b, o + 3, none⟩) hb (fun h => h)).trans p3
  have n0 := World.new_ne w1 _ c0
  have v0 : IntKind.i64.wrap x0 = x0 := IntWalk.i64_in _ (by omega)
  have v1 : IntKind.i64.wrap x1 = x1 := IntWalk.i64_in _ (by omega)
  have v2 : IntKind.i64.wrap x2 = x2 := IntWalk.i64_in _ (by omega)
  have v3 : IntKind.i64.wrap x3 = x3 := IntWalk.i64_in _ (by omega)
  have v4 : IntKind.i64.wrap M = M := IntWalk.i64_in _ (by omega)
  clear p0 p1 p2 p3 p4 p5 p6 p7 hn HN h4 h5 h6 h7 hw1
  go_region_held3 (fun w' => w'.cell? ⟨b, o, none⟩ = some (.int .u8 x0) ∧ w'.cell? ⟨b, o + 1, none⟩ = some (.int .u8 x1) ∧ w'.cell? ⟨b, o + 2, none⟩ = some (.int .u8 x2) ∧ w'.cell? ⟨b, o + 3, none⟩ = some (.int .u8 x3))
    (go_keep) (first | fail)
  go_wp2_with fail
  have hF2 : Fr (fun _ => False) w1 (w1.alloc (.cells #[.int .i64 x0, .int .i64 x1, .int .i64 x2, .int .i64 x3, .int .i64 M] 23)).drew := (Fr.alloc _ _ _).trans (Fr.drew _ _)
  have hB2 : Blk (w1.alloc (.cells #[.int .i64 x0, .int .i64 x1, .int .i64 x2, .int .i64 x3, .int .i64 M] 23)).drew w1.heap.size #[.int .i64 x0, .int .i64 x1, .int .i64 x2, .int .i64 x3, .int .i64 M] := (Blk.new _ _ _).drew
  refine (HC.out _ (ht.same (hF1.trans hF2))).mono ?_
  rintro e w2 ⟨rfl, hF3⟩
  have hB3 := hB2.keep hF3 (fun h => h)
  have hB4 := hB1.keep (hF2.trans hF3) (fun h => h)
  have hFF := (hF1.trans hF2).trans hF3
  have l3 := hB3.lt
  have l4 := hB4.lt
  clear hB2 hF2 hF3 c0 c1 c2 c3 n0
  have nn : w.heap.size ≠ w1.heap.size := by have := hB1.lt; omega
  obtain ⟨d0, d1, d2, d3, d4⟩ := hB3.five (i := ⟨x0, x1, x2, x3, M⟩)
  obtain ⟨f0, f1, f2, f3, f4⟩ := hB4.five (i := Ins.zero)
  simp only [Ins.zero] at d0 d1 d2 d3 d4 f0 f1 f2 f3 f4
  have z0 := hB4.frozen 0
  have z1 := hB4.frozen 1
  have z2 := hB4.frozen 2
  have z3 := hB4.frozen 3
  have z4 := hB4.frozen 4
  by_cases hy0 : y = 0
  · subst hy0
    go_wp2_with fail
    obtain ⟨w3, hw3⟩ : ∃ w3, w3 = ((((w2.setCell ⟨w.heap.size, 0, none⟩ (.int .i64 x0)).setCell ⟨w.heap.size, 1, none⟩ (.int .i64 x1)).setCell ⟨w.heap.size, 2, none⟩ (.int .i64 x2)).setCell ⟨w.heap.size, 3, none⟩ (.int .i64 x3)).setCell ⟨w.heap.size, 4, none⟩ (.int .i64 M) := ⟨_, rfl⟩
    have hF3 : Fr (fun _ => False) w w3 := by rw [hw3]; exact hFF.since (fr_set5 _ _ _ _ _ _ _) (fun i hi hl => by omega)
    have hB5 : Blk w3 w.heap.size #[.int .i64 x0, .int .i64 x1, .int .i64 x2, .int .i64 x3, .int .i64 M] := by rw [hw3]; exact blk_set5 hB4 _ _ _ _ _
    rw [← hw3]
    clear hw3
    obtain ⟨g0, g1, g2, g3, g4⟩ := hB5.five (i := ⟨x0, x1, x2, x3, M⟩)
    simp only at g0 g1 g2 g3 g4
    refine bodyPost_ret (v := .tuple #[Ins.val ⟨x0, x1, x2, x3, M⟩, .int .i64 0]) (by simp [results, Tryd.results19, go_sem, g0, g1, g2, g3, g4]; try rfl) rfl ⟨?_, hF3⟩
    rfl
  · have t1 : (y != 0) = true := by simpa using hy0
    go_wp2_with fail
    obtain ⟨w3, hw3⟩ : ∃ w3, w3 = ((((w2.setCell ⟨w.heap.size, 0, none⟩ (.int .i64 0)).setCell ⟨w.heap.size, 1, none⟩ (.int .i64 0)).setCell ⟨w.heap.size, 2, none⟩ (.int .i64 0)).setCell ⟨w.heap.size, 3, none⟩ (.int .i64 0)).setCell ⟨w.heap.size, 4, none⟩ (.int .i64 0) := ⟨_, rfl⟩
    have hF3 : Fr (fun _ => False) w w3 := by rw [hw3]; exact hFF.since (fr_set5 _ _ _ _ _ _ _) (fun i hi hl => by omega)
    have hB5 : Blk w3 w.heap.size #[.int .i64 0, .int .i64 0, .int .i64 0, .int .i64 0, .int .i64 0] := by rw [hw3]; exact blk_set5 hB4 _ _ _ _ _
    rw [← hw3]
    clear hw3
    obtain ⟨g0, g1, g2, g3, g4⟩ := hB5.five (i := ⟨0, 0, 0, 0, 0⟩)
    simp only at g0 g1 g2 g3 g4
    refine bodyPost_ret (v := .tuple #[Ins.val ⟨0, 0, 0, 0, 0⟩, .int .i64 y]) (by simp [results, Tryd.results19, go_sem, g0, g1, g2, g3, g4]; try rfl) rfl ⟨?_, hF3⟩
    rfl

/-- The instruction of eight bytes. -/
def dec (l : List Int) : Ins := ⟨l.getD 0 0, l.getD 1 0, l.getD 2 0, l.getD 3 0, sgn (decN (l.getD 4 0) (l.getD 5 0) (l.getD 6 0) (l.getD 7 0))⟩
def decErr (l : List Int) : Int := if l.length = 8 then chk (dec l) else 11
def decIns (l : List Int) : Ins := if decErr l = 0 then dec l else Ins.zero

def AllB (l : List Int) : Prop := ∀ x ∈ l, 0 ≤ x ∧ x ≤ 255

theorem AllB.getD {l : List Int} (h : AllB l) (k : Nat) : 0 ≤ l.getD k 0 ∧ l.getD k 0 ≤ 255 := by
  rw [List.getD_eq_getElem?_getD]
  cases hk : l[k]? with
  | none => exact ⟨by decide, by decide⟩
  | some x => exact h x (List.mem_of_getElem? hk)

set_option maxRecDepth 100000 in
set_option maxHeartbeats 1000000 in
theorem decode_short (A : Option Addr) (n cap : Nat) (w : World) (h : n ≠ 8) :
    Calls Tryd.prog 19 #[.slice A n cap] w fun e w' => e = .returned (.tuple #[Ins.val Ins.zero, .int .i64 11]) ∧ Fr (fun _ => False) w w' := by
  have t1 : ((n : Int) != 8) = true := by simpa using (by omega : ¬ (n : Int) = 8)
  have hB1 := Blk.new w #[.int .i64 0, .int .i64 0, .int .i64 0, .int .i64 0, .int .i64 0] 23
  go_enter Tryd.func19, Tryd.ntmps19
  go_wp2_with fail
  obtain ⟨g0, g1, g2, g3, g4⟩ := hB1.five (i := Ins.zero)
  simp only [Ins.zero] at g0 g1 g2 g3 g4
  exact bodyPost_ret (v := .tuple #[Ins.val Ins.zero, .int .i64 11]) (by simp [results, Tryd.results19, go_sem, g0, g1, g2, g3, g4]; try rfl) rfl ⟨rfl, Fr.alloc _ _ _⟩

theorem decode_any (A : Option Addr) (n cap : Nat) (l : List Int) (w : World) (ht : Tabs w) (hb : Bys w w.heap.size A l) (hn : l.length = n) (hl : AllB l) :
    Calls Tryd.prog 19 #[.slice A n cap] w fun e w' => e = .returned (.tuple #[Ins.val (decIns l), .int .i64 (decErr l)]) ∧ Fr (fun _ => False) w w' := by
  by_cases h8 : n = 8
  · subst h8
    obtain ⟨b, o, rfl, hbl, hc⟩ := hb (by omega)
    have hcell : ∀ k, k < 8 → w.cell? ⟨b, o + k, none⟩ = some (.int .u8 (l.getD k 0)) := fun k hk => hc k _ (by rw [List.getD_eq_getElem?_getD, List.getElem?_eq_getElem (by omega)]; rfl)
    have hbn := decN_bound (hl.getD 4) (hl.getD 5) (hl.getD 6) (hl.getD 7)
    have hsn := sgn_bound hbn.1 hbn.2
    have e : decErr l = chk (dec l) := by unfold decErr; rw [if_pos hn]
    have := decode_raw b o cap _ _ _ _ _ _ _ _ _ _ _ w ht hbl (hcell 0 (by omega)) (hcell 1 (by omega)) (hcell 2 (by omega)) (hcell 3 (by omega)) (hcell 4 (by omega)) (hcell 5 (by omega)) (hcell 6 (by omega)) (hcell 7 (by omega))
      (hl.getD 0) (hl.getD 1) (hl.getD 2) (hl.getD 3) (hl.getD 4) (hl.getD 5) (hl.getD 6) (hl.getD 7) (bits4 _ _ _ _ (hl.getD 4) (hl.getD 5) (hl.getD 6) (hl.getD 7)) (sgn_wrap _ hbn.1 hbn.2) hsn.1 hsn.2 rfl
    unfold decIns
    rw [e]
    exact this
  · have e : decErr l = 11 := by unfold decErr; rw [if_neg (by omega)]
    unfold decIns
    rw [e, if_neg (by decide)]
    exact decode_short A n cap w h8

end Go.Proofs.YtecobbojbdfffaaDoor
