/-
  The four tells of an instruction where it stands, all kinds of instruction at once.
-/
import Derived.Test.YtpjcdjooiaefdaaDoorVSite2
import Derived.Test.YtpjcdjooiaefdaaDoorVParts
import Derived.Test.YtpjcdjooiaefdaaDoorVPlain
namespace Go.Proofs.YtpjcdjooiaefdaaDoor
open Go.RowKit

theorem goalS_eq {P : List Fn} {f : Fn} {x : Ins} (F : Option Addr) {nf : Nat} (cf : Nat) (k j : Int) (D : Option Addr) {nd : Nat} (cd : Nat) (H : Int) (hn : P.length = nf) (hl : f.code.length = nd) : goalS ⟨F, nf, cf, k, j, x, D, nd, cd, H⟩ = goalW P f x := by
  subst hn hl
  rfl

theorem endS_eq {f : Fn} {x : Ins} (F : Option Addr) (nf cf : Nat) (k : Int) (j : Nat) (D : Option Addr) {nd : Nat} (cd : Nat) (H : Int) (hl : f.code.length = nd) : endS ⟨F, nf, cf, k, (j : Nat), x, D, nd, cd, H⟩ = endW f j x := by
  subst hl
  unfold endS endW
  congr 1
  rw [decide_eq_decide]
  simp only
  omega

theorem scope_all {P : List Fn} {f : Fn} (x : Ins) (F : Option Addr) (nf cf : Nat) (k : Int) (j : Nat) (D : Option Addr) (nd cd : Nat) (H : Int) (w : World) (hD : Nums w w.heap.size D (dep 0 f.code)) (hl : f.code.length = nd) (hx : f.code[j]? = some x) (hg : goalW P f x = false) :
    Calls Tryd.prog 46 #[Sit.val ⟨F, nf, cf, k, (j : Nat), x, D, nd, cd, H⟩] w (FltPost w (toldF ⟨F, nf, cf, k, (j : Nat), x, D, nd, cd, H⟩ (scopeW f j x) 15)) := by
  have hj := (List.getElem?_eq_some_iff.1 hx).1
  have hk := depN_at hj
  have hdl : (dep 0 f.code).length = nd := by rw [dep_len, hl]
  have hgo : isJ x = true → 0 ≤ x.n ∧ x.n < f.code.length := fun h => by
    unfold goalW at hg
    rw [h, Bool.true_and, Bool.or_eq_false_iff] at hg
    simpa using hg.1
  obtain ⟨op, a, b, c, n⟩ := x
  by_cases h12 : op = 12
  · subst h12
    exact scope_12 F nf cf k j a b c n D nd cd H _ _ w hD hdl hk _ (by unfold scopeW isJ; simp)
  by_cases h13 : op = 13
  · subst h13
    exact scope_13 F nf cf k j a b c n D nd cd H _ _ w hD hdl hk _ (by unfold scopeW isJ; simp)
  by_cases h16 : op = 16
  · subst h16
    exact scope_16 F nf cf k j a b c n D nd cd H _ _ w hD hdl hk _ (by unfold scopeW isJ; simp)
  by_cases h6 : op = 6
  · subst h6
    have hn := hgo rfl
    simp only at hn
    obtain ⟨m, rfl⟩ : ∃ m : Nat, n = m := ⟨n.toNat, by omega⟩
    exact scope_6 F nf cf k j a b c D nd cd H _ _ w hD hdl hk m _ (depN_at (show m < f.code.length by omega)) _ (by unfold scopeW isJ; simp)
  by_cases h7 : op = 7
  · subst h7
    have hn := hgo rfl
    simp only at hn
    obtain ⟨m, rfl⟩ : ∃ m : Nat, n = m := ⟨n.toNat, by omega⟩
    exact scope_7 F nf cf k j a b c D nd cd H _ _ w hD hdl hk m _ (depN_at (show m < f.code.length by omega)) _ (by unfold scopeW isJ; simp)
  · exact scope_other F nf cf k j op a b c n D nd cd H _ _ w hD hdl hk h12 h13 h16 h6 h7 _ (by unfold scopeW isJ; simp [h12, h13, h16, h6, h7])

theorem handle_all {P : List Fn} {f : Fn} (x : Ins) (F : Option Addr) (nf cf : Nat) (k : Int) (j : Nat) (D : Option Addr) (nd cd : Nat) (w : World) (hp : Prg w w.heap.size F P) (hn : P.length = nf) (hc : chk x = 0) (hg : goalW P f x = false) (hne : ∀ (k : Nat) g, P[k]? = some g → 0 ≤ g.needs ∧ g.needs ≤ 255) :
    Calls Tryd.prog 47 #[Sit.val ⟨F, nf, cf, k, (j : Nat), x, D, nd, cd, (heldN f j : Nat)⟩] w (FltPost w (toldF ⟨F, nf, cf, k, (j : Nat), x, D, nd, cd, (heldN f j : Nat)⟩ (handW P f j x) 16)) := by
  obtain ⟨op, a, b, c, n⟩ := x
  by_cases h9 : op = 9
  · subst h9
    have h := chk_9 hc rfl
    simp only at h
    obtain ⟨m, rfl⟩ : ∃ m : Nat, b = m := ⟨b.toNat, by omega⟩
    exact handle_9 F nf cf k j a m c n D nd cd (heldN f j) w (by omega) _ (by unfold handW takes; simp)
  by_cases h10 : op = 10
  · subst h10
    have h := chk_10 hc rfl
    simp only at h
    obtain ⟨m, rfl⟩ : ∃ m : Nat, c = m := ⟨c.toNat, by omega⟩
    exact handle_10 F nf cf k j a m b n D nd cd (heldN f j) w (by omega) _ (by unfold handW takes; simp)
  by_cases h8 : op = 8
  · subst h8
    have h : 0 ≤ n ∧ n < P.length := by
      unfold goalW at hg
      rw [Bool.or_eq_false_iff] at hg
      simpa using hg.2
    obtain ⟨m, rfl⟩ : ∃ m : Nat, n = m := ⟨n.toNat, by omega⟩
    have hm : m < P.length := by omega
    obtain ⟨g, hgm⟩ : ∃ g, P[m]? = some g := ⟨_, List.getElem?_eq_getElem hm⟩
    obtain ⟨bb, o, rfl, hb, hcell⟩ := hp (by omega)
    obtain ⟨A', c', p0, _, _⟩ := hcell m g hgm
    have h2 := hne m g hgm
    exact handle_8' bb o nf cf k j a b c m D nd cd (heldN f j) g.needs w hb p0 (by omega) h2.1 h2.2 _ (by unfold handW takes; simp [hgm])
  · have e : handW P f j ⟨op, a, b, c, n⟩ = false := by
      unfold handW takes
      simp [h9, h10, h8, less]
    rw [e]
    exact handle_other F nf cf k j op a b c n D nd cd (heldN f j) w h9 h10 h8

theorem tells_eq (P : List Fn) (f : Fn) (k : Nat) (j : Nat) (x : Ins) (s : Sit) (hk : s.k = k) (hj : s.at_ = j) (r : Value) (f1 f2 f3 f4 : Nat) :
    firstT [⟨f1, r, toldF s (goalW P f x) 10⟩, ⟨f2, r, toldF s (endW f j x) 11⟩, ⟨f3, r, toldF s (scopeW f j x) 15⟩, ⟨f4, r, toldF s (handW P f j x) 16⟩] = flt k j (wrongAt P f j x) := by
  unfold firstT toldF flt wrongAt
  rw [hk, hj]
  cases goalW P f x <;> cases endW f j x <;> cases scopeW f j x <;> cases handW P f j x <;> simp [firstT, Flt.none]

end Go.Proofs.YtpjcdjooiaefdaaDoor
