/-
  The reference's Cut.
-/
import Derived.Test.YtepbnneggpcbcaaDoorRefForms
import Derived.Test.YtepbnneggpcbcaaDoorRefMath
namespace Go.Proofs.YtepbnneggpcbcaaDoor
open Go.RowKit

def OwnS (w : World) (B : Nat) (A : Option Addr) (n cap : Nat) (l : List Bs) : Prop := OwnR w B 9 1 A n cap (strs l)

def CuRel (w : World) (B : Nat) (c : UInt8) (l : Bs) (out frm i : Value) (d : Nat) (wr : World) : Prop :=
  ∃ (k f n cap : Nat) (A : Option Addr) (pre : List Bs), k ≤ l.length ∧ d = l.length - k ∧ i = .int .i64 k ∧ frm = .int .i64 f ∧ f ≤ k ∧ out = .slice A n cap ∧ n ≤ k ∧ pre.length = n ∧ OwnS wr B A n cap pre ∧ c ∉ (l.take k).drop f ∧ cut c l = pre ++ cut c (l.drop f) ∧ Fr (fun k => B ≤ k) w wr

def CuPost (w : World) (L : List Bs) (e : Ending) (w' : World) : Prop := ∃ A cap, e = .returned (.slice A L.length cap) ∧ OwnS w' w.heap.size A L.length cap L ∧ Fr (fun _ => False) w w'

theorem bs_extract (l : Bs) (f k : Nat) : (bs l).extract f k = bs ((l.take k).drop f) := by
  unfold bs
  apply ByteArray.ext
  simp [List.drop_take]

theorem bs_tail (b : UInt8) (r : Bs) : (bs (b :: r)).extract 1 (bs (b :: r)).size = bs r := by
  rw [bs_extract, bs_size, List.take_length]
  rfl

theorem strs_snoc (pre : List Bs) (x : Bs) : strs pre ++ [.string (bs x)] = strs (pre ++ [x]) := by simp [strs]

theorem cut_post {w w2 : World} {B n c2 : Nat} {A2 : Option Addr} {c : UInt8} {l : Bs} {pre : List Bs} {x : Bs} {e : Ending} (hB : B = w.heap.size) (hn : pre.length = n) (hc : cut c l = pre ++ [x]) (he : e = .returned (.slice A2 (n + 1) c2))
    (ho : OwnR w2 B 9 1 A2 (n + 1) c2 (strs pre ++ [.string (bs x)])) (hF : Fr (fun k => B ≤ k) w w2) : CuPost w (cut c l) e w2 := by
  subst hB
  have hl : (cut c l).length = n + 1 := by rw [hc]; simp [hn]
  refine ⟨A2, c2, by rw [he, hl], ?_, hF.all⟩
  rw [hl, hc]
  unfold OwnS
  rw [← strs_snoc]
  exact ho

set_option maxRecDepth 100000 in
set_option maxHeartbeats 2000000 in
theorem cut_any (c : UInt8) (ch : Int) (hch : ch = (c.toNat : Int)) (l : Bs) (hl : l.length ≤ 1000000) (w : World) : Calls Tryd.prog 32 #[.string (bs l), .int .u8 ch] w (CuPost w (cut c l)) := by
  obtain ⟨i0, hi, hz⟩ := Option.map_eq_some_iff.1 Tryd.infos
  simp only [Prod.mk.injEq] at hz
  obtain ⟨hz0, hz1, hz2⟩ := hz
  have HI := hid hi
  have HZ0 := hid hz0
  have HZ1 := hid hz1
  have HZ2 := hid hz2
  have HCH := hid hch
  obtain ⟨B, hB⟩ : ∃ B, B = w.heap.size := ⟨_, rfl⟩
  have HB := hid hB
  have hBl : B ≤ w.heap.size := by omega
  obtain ⟨S, hS⟩ : ∃ S, bs l = S := ⟨_, rfl⟩
  have HS := hid hS
  have s2 : S.size ≤ 1000000 := by rw [← hS]; exact hl
  have HG := hid (show ∀ k (hk : k < S.size), l[k]? = some S[k] from fun k hk => by
    subst hS
    exact List.getElem?_eq_getElem hk)
  have HL := hid (show l.length = S.size by rw [← hS]; rfl)
  rw [hS]
  clear hi hz0 hz1 hz2 hch hB hS hl
  go_enter Tryd.func32, Tryd.ntmps32
  go_wp2_with fail
  go_loopg [5, 6, 7] l.length (fun d out frm i wr => CuRel w B c l out frm i d wr)
  case atStart => exact ⟨0, 0, 0, 0, none, [], by omega, by omega, rfl, rfl, by omega, rfl, by omega, rfl, OwnR.nil _ _ _ _, by simp, rfl, Fr.refl _ _⟩
  case round =>
    obtain ⟨k, f, n, cap, A, pre, hk, hd, rfl, rfl, hf, rfl, hn, hpl, ho, hno, hcut, hF⟩ := hrel
    rw [HL.out] at hk
    have HD := hid hd
    have HO := hid ho
    have HNO := hid hno
    have HCUT := hid hcut
    have HPL := hid hpl
    have hBr : B ≤ wr.heap.size := Nat.le_trans hBl hF.size
    clear hd ho hno hcut hpl
    by_cases hlt : k < S.size
    · have hv := HG.out k hlt
      by_cases hc : S[k] = c
      · have t : ((S[k].toNat : Int) == ch) = true := by rw [HCH.out, hc]; simp
        have HNX := hid (cut_step hf (by rw [hv, hc]) HNO.out HCUT.out)
        have HE := hid (show S.extract f k = bs ((l.take k).drop f) by rw [← HS.out]; exact bs_extract l f k)
        clear hv hc
        have HN1 := hid (news8 wr 9 [.string (S.extract f k)])
        have HO1 := hid (OwnR.same HO.out (Fr.alloc _ wr (.cells #[.string (S.extract f k)] 9)))
        go_wp2_with (at_builtin; refine wpList_append_own _ rfl _ _ 50 rfl B 9 i0 (.string ⟨#[]⟩) 1 16 Tryd.underlying50 HI.out HZ0.out HZ1.out HZ2.out rfl (by decide) (.slice A n cap) n _ rfl HO1.out ⟨wr.heap.size, 0, none⟩ 1 1 [.string (S.extract f k)] rfl rfl HN1.out (by simp [Value.oneCell']) (by unfold maxLen; omega) (by omega) (by simp; omega) ?_; intro v2 w2 hown2 hgrow2 hnil2; clear hnil2; obtain ⟨A2, c2, rfl, ho2⟩ := OwnR.form hown2; have hF2 := ((Fr.alloc (fun _ => False) wr (.cells #[.string (S.extract f k)] 9)).mono (fun _ h => h.elim)).trans (Fr.of_grown' hgrow2); have HO2 := hid ho2; clear hown2 hgrow2 ho2)
        go_roundg (l.length - (k + 1))
        case rel =>
          refine ⟨k + 1, k + 1, n + 1, c2, A2, pre ++ [(l.take k).drop f], by rw [HL.out]; omega, rfl, by go_num, by go_num, by omega, rfl, by omega, by simp [HPL.out], ?_, ?_, HNX.out, hF.trans (hF2.mono (fun k h => (OwnR.lt HO.out k h).1))⟩
          · unfold OwnS
            rw [← strs_snoc, ← HE.out]
            exact HO2.out
          · rw [List.drop_of_length_le (by rw [List.length_take]; omega)]
            simp
        case measure => have := HD.out; have := HL.out; omega
      · have t : ((S[k].toNat : Int) == ch) = false := by
          rw [HCH.out]
          simp only [beq_eq_false_iff_ne, ne_eq, Int.natCast_inj]
          exact fun h => hc (UInt8.toNat_inj.1 h)
        have HNX := hid (cut_not hf hv hc HNO.out)
        clear hv hc
        go_wp2_with fail
        go_roundg (l.length - (k + 1))
        case rel => exact ⟨k + 1, f, n, cap, A, pre, by rw [HL.out]; omega, rfl, by go_num, rfl, by omega, rfl, by omega, HPL.out, HO.out, HNX.out, HCUT.out, hF⟩
        case measure => have := HD.out; have := HL.out; omega
    · have hk' : k = l.length := by rw [HL.out]; omega
      have HEND := hid (cut_end (by have := HNO.out; rw [hk', List.take_length] at this; exact this) HCUT.out)
      have HE := hid (show S.extract f S.size = bs (l.drop f) by
        have := bs_extract l f l.length
        rw [List.take_length, HS.out, HL.out] at this
        exact this)
      clear hk'
      have hf2 : f ≤ S.size := by omega
      have HN1 := hid (news8 wr 9 [.string (S.extract f S.size)])
      have HO1 := hid (OwnR.same HO.out (Fr.alloc _ wr (.cells #[.string (S.extract f S.size)] 9)))
      go_wp2_with (at_builtin; refine wpList_append_own _ rfl _ _ 50 rfl B 9 i0 (.string ⟨#[]⟩) 1 16 Tryd.underlying50 HI.out HZ0.out HZ1.out HZ2.out rfl (by decide) (.slice A n cap) n _ rfl HO1.out ⟨wr.heap.size, 0, none⟩ 1 1 [.string (S.extract f S.size)] rfl rfl HN1.out (by simp [Value.oneCell']) (by unfold maxLen; omega) (by omega) (by simp; omega) ?_; intro v2 w2 hown2 hgrow2 hnil2; clear hnil2; obtain ⟨A2, c2, rfl, ho2⟩ := OwnR.form hown2; have hF2 := ((Fr.alloc (fun _ => False) wr (.cells #[.string (S.extract f S.size)] 9)).mono (fun _ h => h.elim)).trans (Fr.of_grown' hgrow2); have HO2 := hid ho2; clear hown2 hgrow2 ho2)
      go_ret
      refine cut_post HB.out HPL.out HEND.out rfl ?_ (hF.trans (hF2.mono (fun k h => (OwnR.lt HO.out k h).1)))
      rw [← HE.out]
      exact HO2.out

end Go.Proofs.YtepbnneggpcbcaaDoor
