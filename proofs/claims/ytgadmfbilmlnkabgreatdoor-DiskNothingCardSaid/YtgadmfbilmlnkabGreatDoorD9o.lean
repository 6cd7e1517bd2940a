/- disk: tear, its walk. -/
import Derived.Test.YtgadmfbilmlnkabGreatDoorD9n
namespace Go.Proofs.YtgadmfbilmlnkabGreatDoor
open Go.RowKit Go.Lib
open Go.ChangeMaps (setBlock)

theorem tear_step {F F1 F2 : List FE} {f f2 : FE} {seen : Array Nat} {T : PF → PF} (hb : (F1 ++ f :: F2).map FE.born = F.map FE.born) (hp : (F1 ++ f :: F2).map FE.pl = F.map fun g => if seen.contains g.born then T g.pl else g.pl) (hnd : (F.map FE.born).Nodup)
    (hf : seen.contains f.born = false) (h2 : f2.born = f.born) (hpl : f2.pl = T f.pl) :
    (F1 ++ f2 :: F2).map FE.born = F.map FE.born ∧ ((F1 ++ f2 :: F2).map FE.pl = F.map fun g => if (seen.push f.born).contains g.born then T g.pl else g.pl) ∧ F.countP (fun g => !(seen.push f.born).contains g.born) < F.countP (fun g => !seen.contains g.born) := by
  rw [List.map_append, List.map_cons] at hb
  obtain ⟨G1, G', rfl, e1, e2⟩ := List.map_eq_append_iff.1 hb.symm
  obtain ⟨g, G2, rfl, e3, e4⟩ := List.map_eq_cons_iff.1 e2
  rw [List.map_append, List.map_cons, List.map_append, List.map_cons] at hp
  have hl : F1.length = G1.length := by have := congrArg List.length e1; simpa using this.symm
  obtain ⟨p1, p2⟩ := List.append_inj hp (by simpa using hl)
  have p3 := (List.cons.inj p2).1
  have p4 := (List.cons.inj p2).2
  rw [List.map_append, List.map_cons, List.nodup_append, List.nodup_cons] at hnd
  have n1 : ∀ x, x ∈ G1 → x.born ≠ f.born := fun x hx => by rw [← e3]; exact hnd.2.2 _ (List.mem_map.2 ⟨x, hx, rfl⟩) _ (by simp)
  have n2 : ∀ x, x ∈ G2 → x.born ≠ f.born := fun x hx e => hnd.2.1.1 (by rw [e3, ← e]; exact List.mem_map.2 ⟨x, hx, rfl⟩)
  have hc : ∀ x : Nat, x ≠ f.born → (seen.push f.born).contains x = seen.contains x := by
    intro x hx
    simp [hx]
  have hcs : (seen.push f.born).contains f.born = true := by simp
  refine ⟨?_, ?_, ?_⟩
  · rw [List.map_append, List.map_cons, h2, ← hb]
  · rw [List.map_append, List.map_cons, List.map_append, List.map_cons, p1, p4, hpl, e3, hcs]
    rw [e3, hf] at p3
    simp only [Bool.false_eq_true, if_false] at p3
    rw [if_pos rfl, ← p3]
    congr 1
    · exact List.map_congr_left (fun x hx => by rw [hc _ (n1 x hx)])
    · congr 1
      exact List.map_congr_left (fun x hx => by rw [hc _ (n2 x hx)])
  · have q1 : G1.countP (fun g => !(seen.push f.born).contains g.born) = G1.countP (fun g => !seen.contains g.born) := List.countP_congr (fun x hx => by rw [hc _ (n1 x hx)])
    have q2 : G2.countP (fun g => !(seen.push f.born).contains g.born) = G2.countP (fun g => !seen.contains g.born) := List.countP_congr (fun x hx => by rw [hc _ (n2 x hx)])
    rw [List.countP_append, List.countP_append, List.countP_cons, List.countP_cons, q1, q2, e3, hcs, hf]
    simp
/-- The rest of a round, behind the step. -/
theorem Tearing.torn {B d m clk r : Nat} {sv : Value} {S : DS} {F : List FE} {rest : Int} {w : World} {seen : Array Nat} {F1 F2 : List FE} {f : FE} {X X1 X2 : World} (h : Tearing B d m clk r sv S F rest w seen (F1 ++ f :: F2) X) (hX1 : X1 = X ∨ X1 = X.drew) (hf : seen.contains f.born = false) (hnd : (F.map FE.born).Nodup)
    (f1 : FE) (hn : f1.name = f.name) (hbo : f1.born = f.born) (hdat : f1.data = f.data.take (leftP rest f.pl)) (hlen : f1.data.length = leftP rest f.pl) (hD : DiskAt B d m clk sv S (F1 ++ f1 :: F2) X2)
    (hS : Stays (fpOf d m sv (F1 ++ f :: F2)) (putObj X1 r (.mapIter (some m) clk (seen.push f.born) clk)) X2) (hfp : ∀ b, b ∈ fpOf d m sv (F1 ++ f1 :: F2) → b ∈ fpOf d m sv (F1 ++ f :: F2) ∨ X1.heap.size ≤ b) :
    Tearing B d m clk r sv S F rest w (seen.push f.born) (F1 ++ { f1 with dur := f1.data.length } :: F2) (X2.setCell ⟨f1.blk, 1, none⟩ (.int .i64 (f1.data.length : Int))) ∧ F.countP (fun g => !(seen.push f.born).contains g.born) < F.countP (fun g => !seen.contains g.born) := by
  have hz : X1.heap.size = X.heap.size := by rcases hX1 with rfl | rfl <;> rfl
  obtain ⟨hD2, hS2, hfp2⟩ := sync_world hD
  have hst := tear_step (f2 := { f1 with dur := f1.data.length }) h.borns h.files hnd hf hbo (by
    show (⟨f1.name, f1.data, f1.data.length⟩ : PF) = tornP rest f.pl
    unfold tornP
    rw [hn, hlen, hdat]
    rfl)
  have hrl : r < X.heap.size := lt_of_heap h.iter
  have hro : r ∉ fpOf d m sv (F1 ++ f1 :: F2) := fun e => by
    rcases hfp r e with e' | e'
    · exact h.out e'
    · omega
  have hSX : Stays (r :: fpOf d m sv (F1 ++ f :: F2)) X (putObj X1 r (.mapIter (some m) clk (seen.push f.born) clk)) := by
    have h0 : Stays (r :: fpOf d m sv (F1 ++ f :: F2)) X X1 := by rcases hX1 with rfl | rfl <;> first | exact Stays.refl _ _ | exact (Stays.refl _ _).drew
    exact h0.put (.inl (by simp)) _
  have hS3 : Stays (r :: fpOf d m sv (F1 ++ f :: F2)) X X2 := hSX.trans hS (fun b hb => .inl (by simp [hb]))
  have hS4 : Stays (r :: fpOf d m sv (F1 ++ f :: F2)) X (X2.setCell ⟨f1.blk, 1, none⟩ (.int .i64 (f1.data.length : Int))) := hS3.trans hS2 (fun b hb => by
    rcases hfp b hb with e | e
    · exact .inl (by simp [e])
    · exact .inr (by omega))
  refine ⟨⟨hD2, ?_, hst.1, hst.2.1, by rw [hfp2]; exact hro, h.new, h.stays.trans hS4 (fun b hb => ?_), ?_⟩, hst.2.2⟩
  · have hrb : r ≠ f1.blk := fun e => hro (e ▸ mem_fp_file (f := f1) (by simp) (by simp [FE.blks]))
    rw [Below.heap_setCell _ _ _ _ hrb, hS.block r (by rw [putObj_size]; omega) h.out, putObj_at _ (by omega)]
  · rcases List.mem_cons.1 hb with rfl | hb
    · exact .inr h.new
    · exact h.fp b hb
  · intro b hb
    rw [hfp2] at hb
    rcases hfp b hb with e | e
    · exact h.fp b e
    · exact .inr (by have := h.stays.size; omega)
theorem leftOf_mem {F : List FE} {seen : Array Nat} {e : MapEntry} (he : e ∈ (leftOf (F.map FE.entry).toArray seen).toList) : ∃ F1 f F2, F = F1 ++ f :: F2 ∧ e = f.entry ∧ seen.contains f.born = false := by
  simp only [leftOf, Array.toList_filter, List.mem_filter, List.mem_map] at he
  obtain ⟨⟨f, hf, rfl⟩, hs⟩ := he
  obtain ⟨F1, F2, rfl⟩ := List.append_of_mem hf
  exact ⟨F1, f, F2, rfl, rfl, by simpa [FE.entry] using hs⟩
theorem leftOf_none {F : List FE} {seen : Array Nat} (h : (leftOf (F.map FE.entry).toArray seen).size = 0) : ∀ f, f ∈ F → seen.contains f.born = true := by
  intro f hf
  have h0 : (leftOf (F.map FE.entry).toArray seen) = #[] := Array.eq_empty_of_size_eq_zero h
  cases hc : seen.contains f.born with
  | true => rfl
  | false =>
    exfalso
    have : f.entry ∈ (leftOf (F.map FE.entry).toArray seen).toList := by
      simp only [leftOf, Array.toList_filter, List.mem_filter]
      exact ⟨List.mem_map.2 ⟨f, hf, rfl⟩, by simp [FE.entry] at hc ⊢; exact hc⟩
    rw [h0] at this
    cases this
theorem Tearing.end {B d m clk r : Nat} {sv : Value} {S : DS} {F : List FE} {rest : Int} {w : World} {seen : Array Nat} {F' : List FE} {X : World} (h : Tearing B d m clk r sv S F rest w seen F' X) (h0 : (leftOf (F'.map FE.entry).toArray seen).size = 0) :
    Did B d m sv { S with runs := false } F w ((F.map FE.pl).map (tornP rest)) (X.setCell ⟨d, 3, none⟩ (.bool false)) := by
  have hall := leftOf_none h0
  refine ⟨clk, F', h.disk.turn { S with runs := false } rfl rfl h.disk.steps ?_ (by simp [World.setCell]) (fun b _ hb => Below.heap_setCell _ _ _ _ hb), ?_, Stays.setCell (p := ⟨d, 3, none⟩) h.stays (.inl mem_fp_self) _, h.fp⟩
  · have hs := h.disk.self
    unfold selfObj at hs
    rw [heap_setCell_at _ hs]
    rfl
  · rw [h.files, List.map_map]
    refine List.map_congr_left (fun g hg => ?_)
    have : g.born ∈ F'.map FE.born := by rw [h.borns]; exact List.mem_map.2 ⟨g, hg, rfl⟩
    obtain ⟨f, hf, e⟩ := List.mem_map.1 this
    rw [← e, hall f hf]
    rfl
end Go.Proofs.YtgadmfbilmlnkabGreatDoor
