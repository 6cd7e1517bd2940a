/- step, whole. -/
import Derived.Test.YtmedpcldfpfpnaaGreatD16o
import Derived.Test.YtmedpcldfpfpnaaGreatD16p
import Derived.Test.YtmedpcldfpfpnaaGreatD16q
import Derived.Test.YtmedpcldfpfpnaaGreatD16r
namespace Go.Proofs.YtmedpcldfpfpnaaGreat
open Go.RowKit

variable {W w : World} {K : List (Nat × Obj)} {P Q D N : Nat} {V : PV}
set_option maxRecDepth 100000 in
set_option maxHeartbeats 16000000 in
theorem step_none (h : HH W K P Q D V V w) (hk : PVok V N) (hN : N + 301 ≤ 1000000) (s : ST) (ho : StOK W s) (hs : StShort s) (lk : Int) (n1 : s.kind ≠ 1) (n2 : s.kind ≠ 2) (n3 : s.kind ≠ 3) (n4 : s.kind ≠ 4) :
    Calls Tryz.prog 13 #[.pointer (some ⟨P, 0, none⟩), .pointer (some ⟨Q, 0, none⟩), .pointer (some ⟨D, 0, none⟩), .agg (stL s).toArray, .int .i64 lk] w fun e w' => e = .returned (.bool true) ∧ HH W K P Q D (V) (V) w' := by
  obtain ⟨W1, hW1⟩ : ∃ W1, w.alloc (.cells (stL s).toArray 45) = W1 := ⟨_, rfl⟩
  have h1 : W1.heap[w.heap.size]? = some (.cells (stL s).toArray 45 (0, 0)) := by rw [← hW1]; exact heap_new _ _
  have hb1 : Below w.heap.size w W1 := by rw [← hW1]; exact (Below.refl _ _).alloc (Nat.le_refl _) _
  have h2 : HH W (SBx w.heap.size s :: K) P Q D V V W1 := h.add hb1 (Nat.le_refl _) h1
  obtain ⟨c0, c20, c21, c22, c23, c24, cr⟩ := stL_at h1
  have b1 : (s.kind == 1) = false := by simpa using n1
  have b2 : (s.kind == 2) = false := by simpa using n2
  have b3 : (s.kind == 3) = false := by simpa using n3
  have b4 : (s.kind == 4) = false := by simpa using n4
  have H2 := Lib.hid h2
  have hall := And.intro hk (And.intro hN (And.intro ho hs))
  clear hall
  clear h h1 hb1 h2 hk hN ho hs cr n1 n2 n3 n4
  generalize s.kind = kk at *
  go_enter Tryz.func13, Tryz.ntmps13
  go_upto_region 1 with fail
  (try rw [hW1])
  clear hW1
  go_wp2_with fail
  go_ret
  exact ⟨rfl, H2.out.drop⟩
theorem step_any (h : HH W K P Q D V V w) (hk : PVok V N) (hN : N + 301 ≤ 1000000) (s : ST) (ho : StOK W s) (hs : StShort s) (hx : StX s) (hf : StF s) (lk : Int) (hl : 0 ≤ lk ∧ lk ≤ 15) :
    Calls Tryz.prog 13 #[.pointer (some ⟨P, 0, none⟩), .pointer (some ⟨Q, 0, none⟩), .pointer (some ⟨D, 0, none⟩), .agg (stL s).toArray, .int .i64 lk] w fun e w' => e = .returned (.bool true) ∧ HH W K P Q D (actV V s) (actV V s) w' := by
  have wr : ∀ k : Int, 0 < k → IntKind.i64.wrap (lk.tdiv k) = lk.tdiv k := fun k hk => by
    have h1 : 0 ≤ lk.tdiv k := Int.tdiv_nonneg hl.1 (by omega)
    have h2 : lk.tdiv k ≤ lk := Int.tdiv_le_self k hl.1
    simp only [IntKind.wrap, IntKind.signed, IntKind.bits]
    simp
    omega
  unfold actV
  by_cases k1 : s.kind = 1
  · simp only [if_pos k1]
    exact step_hear h hk hN s ho hs lk hx hf k1 _ rfl
  · simp only [if_neg k1]
    by_cases k2 : s.kind = 2
    · simp only [if_pos k2]
      exact step_take h hk hN s ho hs lk k2 _ rfl (wr 2 (by omega))
    · simp only [if_neg k2]
      by_cases k3 : s.kind = 3
      · exact step_find h hk hN s ho hs lk k3 _ rfl (wr 4 (by omega))
      · by_cases k4 : s.kind = 4
        · exact step_tell h hk hN s ho hs lk k4 _ rfl (wr 8 (by omega))
        · exact step_none h hk hN s ho hs lk k1 k2 k3 k4
end Go.Proofs.YtmedpcldfpfpnaaGreat
