/-
  A clock: what Clone does (walk).
-/
import Derived.Test.YtpgbhgkikpmhiaaCl
namespace Go.Proofs.Ytpgbhgkikpmhiaa
open Go.RowKit
set_option linter.unusedVariables false

theorem ck_clone_nil (w : World) : Calls Try.prog 17 #[.pointer none] w fun e w' => e = .returned (.pointer none) ∧ w = w' := by
  go_enter Try.func17, Try.ntmps17
  go_wp2
  go_ret
  exact ⟨rfl, rfl⟩

theorem made_clock {w W : World} {now : Int} {T L : List Due} {A : Option Addr} {cap b n : Nat} {m : Int → Option Int} (hn : L.length = n) (hP : Plc m L) (hH : Hp L.length L) (hT : L.Perm T) (hS : Srt T) (F : Fr (fun _ => False) w W) (hO : OwnR W w.heap.size 64 2 A n cap (dues L)) (hM : IsPm W b m) (hb : w.heap.size ≤ b) :
    MadePost now T w (.returned (.pointer (some ⟨W.heap.size, 0, none⟩))) (W.alloc (.cells #[.int .i64 now, .slice A n cap, .map (some b)] 58)) := by
  subst hn
  have FA : Fr (fun _ => False) W (W.alloc (.cells #[.int .i64 now, .slice A L.length cap, .map (some b)] 58)) := Fr.alloc _ _ _
  have hk : IsK (W.alloc (.cells #[.int .i64 now, .slice A L.length cap, .map (some b)] 58)) W.heap.size now A cap b L := ⟨TBlk.new _ _ _, OwnR.less (OwnR.same hO FA) (Nat.zero_le _), m, hM.fr FA id, hP⟩
  refine ⟨ownK W.heap.size A b, W.heap.size, rfl, ⟨⟨A, cap, b, L, hk, hH, hT, fun _ h => h⟩, hS, hk.own_lt⟩, F.trans FA, ?_⟩
  rintro k (rfl | rfl | hk2)
  · exact F.size
  · exact hb
  · exact (OwnR.lt hO k hk2).1

theorem MadePost.drew {now : Int} {T : List Due} {w : World} {e : Ending} {w' : World} (h : MadePost now T w e w') : MadePost now T w e w'.drew := by
  obtain ⟨O, c, h1, h2, h3, h4⟩ := h
  exact ⟨O, c, h1, h2.same (Fr.drew _ _), h3.trans (Fr.drew _ _), h4⟩

theorem made_at {now : Int} {T : List Due} {w v : World} {e : Ending} {w' : World} (F : Fr (fun _ => False) w v) (h : MadePost now T v e w') : MadePost now T w e w' := by
  obtain ⟨O, c, h1, h2, h3, h4⟩ := h
  exact ⟨O, c, h1, h2, F.trans h3, fun k hk => Nat.le_trans F.size (h4 k hk)⟩

set_option maxRecDepth 100000 in
set_option maxHeartbeats 1600000 in
theorem ck_clone {c : Nat} {now : Int} {O : Nat → Prop} {T : List Due} (w : World) (h : Ckm w O c now T) (hs : T.length < 80000) : Calls Try.prog 17 #[.pointer (some ⟨c, 0, none⟩)] w (MadePost now T w) := by
  obtain ⟨A, cap, b, L, k1, k2, k3, k4⟩ := h.ex
  obtain ⟨m, hm, hP⟩ := k1.map
  have HLC := hid (fun W (F : Fr (fun _ => False) w W) => ln_clone W (k1.same F) (hm.fr F id) (by rw [k3.length_eq]; omega))
  have HS := hid (show ∀ W, Fr (fun _ => False) w W → W.cell? ⟨c, 0, none⟩ = some (.int .i64 now) from fun W F => (k1.same F).c0)
  have HMK := hid (show ∀ (v W : World) (A' : Option Addr) (cap' b' : Nat), Fr (fun _ => False) w v → Fr (fun _ => False) v W → OwnR W v.heap.size 64 2 A' L.length cap' (dues L) → IsPm W b' m → v.heap.size ≤ b' → MadePost now T w (.returned (.pointer (some ⟨W.heap.size, 0, none⟩))) (W.alloc (.cells #[.int .i64 now, .slice A' L.length cap', .map (some b')] 58)) from
    fun v W A' cap' b' F G hO hM hb => made_at F (made_clock rfl hP k2 k3 h.srt G hO hM hb))
  have hl := k1.hc.lt
  obtain ⟨n, hn⟩ : ∃ n, L.length = n := ⟨_, rfl⟩
  rw [hn] at HLC HMK
  clear h k1 k2 k3 k4 hm hP hs hn
  go_enter Try.func17, Try.ntmps17
  go_upto_region 3 with fail
  have HFd := hid (Fr.refl (fun _ => False) w)
  go_region_held3 (fun W => W.cell? ⟨c, 0, none⟩ = some (.int .i64 now))
    (first | exact HS.out _ HFd.out | exact HS.out _ (HFd.out.trans (Fr.drew _ _)) | exact HS.out _ (HFd.out.trans (Fr.alloc _ _ _)) | exact HS.out _ ((HFd.out.trans (Fr.alloc _ _ _)).trans (Fr.drew _ _)) | exact HS.out _ ((HFd.out.trans (Fr.drew _ _)).trans (Fr.alloc _ _ _)))
    (first
      | (go_at_call 27; (with_reducible refine (HLC.out _ (by first | exact HFd.out | exact HFd.out.trans (Fr.drew _ _))).mono ?_); rintro e w6 ⟨A', cap', b', rfl, hO, hM, hF6, hb'⟩; have HX := hid (HMK.out _ _ A' cap' b' (by first | exact HFd.out | exact HFd.out.trans (Fr.drew _ _)) hF6 hO hM hb'); have HFd := hid (Fr.trans (by first | exact HFd.out | exact HFd.out.trans (Fr.drew _ _)) hF6); clear hO hM hF6 hb'))
  all_goals
    go_wp2_with fail
    go_ret
    first | exact HX.out | exact HX.out.drew
end Go.Proofs.Ytpgbhgkikpmhiaa
