/- disk: tear. -/
import Derived.Test.YtbnicjpkfldcdaaDoorD9k
import Derived.Maps.RangeRun
namespace Go.Proofs.YtbnicjpkfldcdaaDoor
open Go.RowKit Go.Lib
open Go.ChangeMaps (setBlock)

theorem run_rangeM {w : World} {m clk : Nat} {es : Array MapEntry} (h : w.heap[m]? = some (.map es clk)) :
    (Instr.range 52 (.map (some m))).run Tryd.prog w = .ok (.pointer (some ⟨w.heap.size, 0, none⟩)) (w.alloc (.mapIter (some m) clk #[] clk)) := by
  simp [Instr.range, run_underlying Tryd.underlying52, Go.MapKept.run_getObj_map h, Sem.run_bind, Result.andThen]
/-- How much of a file a stop leaves. -/
def leftP (rest : Int) (p : PF) : Nat := p.dur + (wth rest ((p.data.length : Int) - (p.dur : Int))).toNat
def tornP (rest : Int) (p : PF) : PF := ⟨p.name, p.data.take (leftP rest p), leftP rest p⟩
theorem wth_bd (n k : Int) (hk : 0 ≤ k) : 0 ≤ wth n k ∧ wth n k ≤ k := by unfold wth; omega
theorem leftP_le (rest : Int) (p : PF) (h : p.dur ≤ p.data.length) : leftP rest p ≤ p.data.length ∧ p.dur ≤ leftP rest p ∧ ((leftP rest p : Nat) : Int) = (p.dur : Int) + wth rest ((p.data.length : Int) - (p.dur : Int)) := by
  have := wth_bd rest ((p.data.length : Int) - (p.dur : Int)) (by omega)
  unfold leftP
  omega
/-- All bytes of a file are durable. -/
theorem sync_world {B d m clk : Nat} {sv : Value} {S : DS} {F1 F2 : List FE} {f : FE} {w : World} (h : DiskAt B d m clk sv S (F1 ++ f :: F2) w) :
    DiskAt B d m clk sv S (F1 ++ { f with dur := f.data.length } :: F2) (w.setCell ⟨f.blk, 1, none⟩ (.int .i64 (f.data.length : Int))) ∧ Stays (fpOf d m sv (F1 ++ f :: F2)) w (w.setCell ⟨f.blk, 1, none⟩ (.int .i64 (f.data.length : Int))) ∧
    fpOf d m sv (F1 ++ { f with dur := f.data.length } :: F2) = fpOf d m sv (F1 ++ f :: F2) := by
  have hf := h.files f (by simp)
  obtain ⟨hdb, hrd, hrb, hmd, hmb, hrm⟩ := apart_self h
  have hu : usedF (F1 ++ { f with dur := f.data.length } :: F2) = usedF (F1 ++ f :: F2) := by rw [usedF_mid, usedF_mid]
  refine ⟨h.refile { f with dur := f.data.length } rfl rfl rfl ?_ ?_ (Nat.le_refl _) (fun b e => .inl e) ?_ (by simp [World.setCell]) ?_ (by rw [hu]; exact h.fits), ?_, ?_⟩
  · have hob := hf.obj
    unfold FE.obj at hob
    rw [heap_setCell_at _ hob]
    rfl
  · exact ownsRow_same hf.row (fun b hb => Below.heap_setCell _ _ _ _ (fun e => hrb (by rw [hb, e])))
  · rw [Below.heap_setCell _ _ _ _ hdb, hu]; exact h.self
  · intro b _ _ h2 _
    exact Below.heap_setCell _ _ _ _ h2
  · exact Stays.setCell (p := ⟨f.blk, 1, none⟩) (Stays.refl _ _) (.inl (mem_fp_file (f := f) (by simp) (by simp [FE.blks]))) _
  · simp [fpOf, FE.blks]
/-- A file's cells. -/
structure FileC (k : Nat) (a : Option Addr) (n c dur : Nat) (w : World) : Prop where
  c0 : w.cell? ⟨k, 0, none⟩ = some (.slice a n c)
  c1 : w.cell? ⟨k, 1, none⟩ = some (.int .i64 (dur : Int))
  f1 : w.frozen? ⟨k, 1, none⟩ = false
theorem DiskAt.fileC {B d m clk : Nat} {sv : Value} {S : DS} {F : List FE} {f : FE} {w : World} (h : DiskAt B d m clk sv S F w) (hf : f ∈ F) : ∃ a c, f.row = .slice a f.data.length c ∧ FileC f.blk a f.data.length c f.dur w := by
  have hF := h.files f hf
  obtain ⟨a, c, hsh⟩ := ownsRow_shape hF.row
  have hob := hF.obj
  unfold FE.obj at hob
  rw [hsh] at hob
  exact ⟨a, c, hsh, cell_of hob 0, cell_of hob 1, frozen_of hob 1⟩
theorem setBlock_put (w : World) (b : Nat) (o : Obj) : setBlock w b o = putObj w b o := rfl
/-- What a tear has done so far. -/
structure Tearing (B d m clk r : Nat) (sv : Value) (S : DS) (F : List FE) (rest : Int) (w : World) (seen : Array Nat) (F' : List FE) (X : World) : Prop where
  disk : DiskAt B d m clk sv S F' X
  iter : X.heap[r]? = some (.mapIter (some m) clk seen clk)
  borns : F'.map FE.born = F.map FE.born
  files : F'.map FE.pl = F.map fun f => if seen.contains f.born then tornP rest f.pl else f.pl
  out : r ∉ fpOf d m sv F'
  new : w.heap.size ≤ r
  stays : Stays (fpOf d m sv F) w X
  fp : ∀ b, b ∈ fpOf d m sv F' → b ∈ fpOf d m sv F ∨ w.heap.size ≤ b
end Go.Proofs.YtbnicjpkfldcdaaDoor

/- disk: tear, its walk. -/
namespace Go.Proofs.YtbnicjpkfldcdaaDoor
open Go.RowKit Go.Lib
open Go.ChangeMaps (setBlock)

theorem tear_step {F F1 F2 : List FE} {f f2 : FE} {seen : Array Nat} {T : PF → PF} (hb : (F1 ++ f :: F2).map FE.born = F.map FE.born) (hp : (F1 ++ f :: F2).map FE.pl = F.map fun g => if seen.contains g.born then T g.pl else g.pl) (hnd : (F.map FE.born).Nodup)
    (hf : seen.contains f.born = false) (h2 : f2.born = f.born) (hpl : f2.pl = T f.pl) :
    (F1 ++ f2 :: F2).map FE.born = F.map FE.born ∧ ((F1 ++ f2 :: F2).map FE.pl = F.map fun g => if (seen.push f.born).contains g.born then T g.pl else g.pl) ∧ F.countP (fun g => !(seen.push f.born).contains g.born) < F.countP (fun g => !seen.contains g.born) := by
  rw [List.map_append, List.map_cons] at hb
  obtain ⟨G1, G', rfl, e1, e2⟩ := List.map_eq_append_iff.1 hb.symm
  obtain ⟨g, G2, rfl, e3, e4⟩ := List.map_eq_cons_iff.1 e2
  rw [List.map_append, List.map_cons, List.map_append, List.map_cons] at hp
  have hl : F1.length = G1.length := by have := congrArg List.length e1; simpa using this.symm
  obtain ⟨p1, p2⟩ := List.append_inj hp (by simpa using hl)
  have p3 := (List.cons.inj p2).1
  have p4 := (List.cons.inj p2).2
  rw [List.map_append, List.map_cons, List.nodup_append, List.nodup_cons] at hnd
  have n1 : ∀ x, x ∈ G1 → x.born ≠ f.born := fun x hx => by rw [← e3]; exact hnd.2.2 _ (List.mem_map.2 ⟨x, hx, rfl⟩) _ (by simp)
  have n2 : ∀ x, x ∈ G2 → x.born ≠ f.born := fun x hx e => hnd.2.1.1 (by rw [e3, ← e]; exact List.mem_map.2 ⟨x, hx, rfl⟩)
  have hc : ∀ x : Nat, x ≠ f.born → (seen.push f.born).contains x = seen.contains x := by
    intro x hx
    simp [hx]
  have hcs : (seen.push f.born).contains f.born = true := by simp
  refine ⟨?_, ?_, ?_⟩
  · rw [List.map_append, List.map_cons, h2, ← hb]
  · rw [List.map_append, List.map_cons, List.map_append, List.map_cons, p1, p4, hpl, e3, hcs]
    rw [e3, hf] at p3
    simp only [Bool.false_eq_true, if_false] at p3
    rw [if_pos rfl, ← p3]
    congr 1
    · exact List.map_congr_left (fun x hx => by rw [hc _ (n1 x hx)])
    · congr 1
      exact List.map_congr_left (fun x hx => by rw [hc _ (n2 x hx)])
  · have q1 : G1.countP (fun g => !(seen.push f.born).contains g.born) = G1.countP (fun g => !seen.contains g.born) := List.countP_congr (fun x hx => by rw [hc _ (n1 x hx)])
    have q2 : G2.countP (fun g => !(seen.push f.born).contains g.born) = G2.countP (fun g => !seen.contains g.born) := List.countP_congr (fun x hx => by rw [hc _ (n2 x hx)])
    rw [List.countP_append, List.countP_append, List.countP_cons, List.countP_cons, q1, q2, e3, hcs, hf]
    simp
/-- The rest of a round, behind the step. -/
theorem Tearing.torn {B d m clk r : Nat} {sv : Value} {S : DS} {F : List FE} {rest : Int} {w : World} {seen : Array Nat} {F1 F2 : List FE} {f : FE} {X X1 X2 : World} (h : Tearing B d m clk r sv S F rest w seen (F1 ++ f :: F2) X) (hX1 : X1 = X ∨ X1 = X.drew) (hf : seen.contains f.born = false) (hnd : (F.map FE.born).Nodup)
    (f1 : FE) (hn : f1.name = f.name) (hbo : f1.born = f.born) (hdat : f1.data = f.data.take (leftP rest f.pl)) (hlen : f1.data.length = leftP rest f.pl) (hD : DiskAt B d m clk sv S (F1 ++ f1 :: F2) X2)
    (hS : Stays (fpOf d m sv (F1 ++ f :: F2)) (putObj X1 r (.mapIter (some m) clk (seen.push f.born) clk)) X2) (hfp : ∀ b, b ∈ fpOf d m sv (F1 ++ f1 :: F2) → b ∈ fpOf d m sv (F1 ++ f :: F2) ∨ X1.heap.size ≤ b) :
    Tearing B d m clk r sv S F rest w (seen.push f.born) (F1 ++ { f1 with dur := f1.data.length } :: F2) (X2.setCell ⟨f1.blk, 1, none⟩ (.int .i64 (f1.data.length : Int))) ∧ F.countP (fun g => !(seen.push f.born).contains g.born) < F.countP (fun g => !seen.contains g.born) := by
  have hz : X1.heap.size = X.heap.size := by rcases hX1 with rfl | rfl <;> rfl
  obtain ⟨hD2, hS2, hfp2⟩ := sync_world hD
  have hst := tear_step (f2 := { f1 with dur := f1.data.length }) h.borns h.files hnd hf hbo (by
    show (⟨f1.name, f1.data, f1.data.length⟩ : PF) = tornP rest f.pl
    unfold tornP
    rw [hn, hlen, hdat]
    rfl)
  have hrl : r < X.heap.size := lt_of_heap h.iter
  have hro : r ∉ fpOf d m sv (F1 ++ f1 :: F2) := fun e => by
    rcases hfp r e with e' | e'
    · exact h.out e'
    · omega
  have hSX : Stays (r :: fpOf d m sv (F1 ++ f :: F2)) X (putObj X1 r (.mapIter (some m) clk (seen.push f.born) clk)) := by
    have h0 : Stays (r :: fpOf d m sv (F1 ++ f :: F2)) X X1 := by rcases hX1 with rfl | rfl <;> first | exact Stays.refl _ _ | exact (Stays.refl _ _).drew
    exact h0.put (.inl (by simp)) _
  have hS3 : Stays (r :: fpOf d m sv (F1 ++ f :: F2)) X X2 := hSX.trans hS (fun b hb => .inl (by simp [hb]))
  have hS4 : Stays (r :: fpOf d m sv (F1 ++ f :: F2)) X (X2.setCell ⟨f1.blk, 1, none⟩ (.int .i64 (f1.data.length : Int))) := hS3.trans hS2 (fun b hb => by
    rcases hfp b hb with e | e
    · exact .inl (by simp [e])
    · exact .inr (by omega))
  refine ⟨⟨hD2, ?_, hst.1, hst.2.1, by rw [hfp2]; exact hro, h.new, h.stays.trans hS4 (fun b hb => ?_), ?_⟩, hst.2.2⟩
  · have hrb : r ≠ f1.blk := fun e => hro (e ▸ mem_fp_file (f := f1) (by simp) (by simp [FE.blks]))
    rw [Below.heap_setCell _ _ _ _ hrb, hS.block r (by rw [putObj_size]; omega) h.out, putObj_at _ (by omega)]
  · rcases List.mem_cons.1 hb with rfl | hb
    · exact .inr h.new
    · exact h.fp b hb
  · intro b hb
    rw [hfp2] at hb
    rcases hfp b hb with e | e
    · exact h.fp b e
    · exact .inr (by have := h.stays.size; omega)
theorem leftOf_mem {F : List FE} {seen : Array Nat} {e : MapEntry} (he : e ∈ (leftOf (F.map FE.entry).toArray seen).toList) : ∃ F1 f F2, F = F1 ++ f :: F2 ∧ e = f.entry ∧ seen.contains f.born = false := by
  simp only [leftOf, Array.toList_filter, List.mem_filter, List.mem_map] at he
  obtain ⟨⟨f, hf, rfl⟩, hs⟩ := he
  obtain ⟨F1, F2, rfl⟩ := List.append_of_mem hf
  exact ⟨F1, f, F2, rfl, rfl, by simpa [FE.entry] using hs⟩
theorem leftOf_none {F : List FE} {seen : Array Nat} (h : (leftOf (F.map FE.entry).toArray seen).size = 0) : ∀ f, f ∈ F → seen.contains f.born = true := by
  intro f hf
  have h0 : (leftOf (F.map FE.entry).toArray seen) = #[] := Array.eq_empty_of_size_eq_zero h
  cases hc : seen.contains f.born with
  | true => rfl
  | false =>
    exfalso
    have : f.entry ∈ (leftOf (F.map FE.entry).toArray seen).toList := by
      simp only [leftOf, Array.toList_filter, List.mem_filter]
      exact ⟨List.mem_map.2 ⟨f, hf, rfl⟩, by simp [FE.entry] at hc ⊢; exact hc⟩
    rw [h0] at this
    cases this
theorem Tearing.end {B d m clk r : Nat} {sv : Value} {S : DS} {F : List FE} {rest : Int} {w : World} {seen : Array Nat} {F' : List FE} {X : World} (h : Tearing B d m clk r sv S F rest w seen F' X) (h0 : (leftOf (F'.map FE.entry).toArray seen).size = 0) :
    Did B d m sv { S with runs := false } F w ((F.map FE.pl).map (tornP rest)) (X.setCell ⟨d, 3, none⟩ (.bool false)) := by
  have hall := leftOf_none h0
  refine ⟨clk, F', h.disk.turn { S with runs := false } rfl rfl h.disk.steps ?_ (by simp [World.setCell]) (fun b _ hb => Below.heap_setCell _ _ _ _ hb), ?_, Stays.setCell (p := ⟨d, 3, none⟩) h.stays (.inl mem_fp_self) _, h.fp⟩
  · have hs := h.disk.self
    unfold selfObj at hs
    rw [heap_setCell_at _ hs]
    rfl
  · rw [h.files, List.map_map]
    refine List.map_congr_left (fun g hg => ?_)
    have : g.born ∈ F'.map FE.born := by rw [h.borns]; exact List.mem_map.2 ⟨g, hg, rfl⟩
    obtain ⟨f, hf, e⟩ := List.mem_map.1 this
    rw [← e, hall f hf]
    rfl
end Go.Proofs.YtbnicjpkfldcdaaDoor

/- disk: tear, the loop. -/
namespace Go.Proofs.YtbnicjpkfldcdaaDoor
open Go.RowKit Go.Lib
open Go.ChangeMaps (setBlock)

theorem wr64 (k : Int) (h1 : -9223372036854775808 ≤ k) (h2 : k ≤ 9223372036854775807) : IntKind.i64.wrap k = k := by simp [IntKind.wrap, IntKind.bits, IntKind.signed]; omega
theorem cut_any {B d m clk : Nat} {sv : Value} {S : DS} {F1 F2 : List FE} {f : FE} {w : World} (h : DiskAt B d m clk sv S (F1 ++ f :: F2) w) (k : Nat) (hk : k ≤ f.data.length) (q : Int) (hq : q = (k : Int)) :
    Calls Tryd.prog 51 #[.pointer (some ⟨d, 0, none⟩), .pointer (some ⟨f.blk, 0, none⟩), .int .i64 q] w fun e w' => e = .returned (.tuple #[]) ∧ ∃ v, DiskAt B d m clk sv S (F1 ++ f.cutTo k v :: F2) w' ∧ Stays (fpOf d m sv (F1 ++ f :: F2)) w w' ∧
      ∀ b, b ∈ fpOf d m sv (F1 ++ f.cutTo k v :: F2) → b ∈ fpOf d m sv (F1 ++ f :: F2) ∨ w.heap.size ≤ b := by
  subst hq
  by_cases hl : k < f.data.length
  · exact cut_part h k hl
  · have e : k = f.data.length := by omega
    subst e
    have hd := (h.files f (by simp)).dur
    have ef : f.cutTo f.data.length f.row = f := by
      unfold FE.cutTo
      rw [List.take_of_length_le (Nat.le_refl _), Nat.min_eq_left hd]
    refine (cut_whole h).mono ?_
    rintro e w' ⟨rfl, rfl⟩
    exact ⟨rfl, f.row, by rw [ef]; exact h, Stays.refl _ _, fun b hb => by rw [ef] at hb; exact .inl hb⟩
theorem Tearing.step {B d m clk r : Nat} {sv : Value} {S : DS} {F : List FE} {rest : Int} {w : World} {seen : Array Nat} {F1 F2 : List FE} {f : FE} {X X1 : World} (h : Tearing B d m clk r sv S F rest w seen (F1 ++ f :: F2) X) (hX1 : X1 = X ∨ X1 = X.drew) :
    DiskAt B d m clk sv S (F1 ++ f :: F2) (putObj X1 r (.mapIter (some m) clk (seen.push f.born) clk)) ∧ (Instr.entry (.pointer (some ⟨r, 0, none⟩))).run Tryd.prog (putObj X1 r (.mapIter (some m) clk (seen.push f.born) clk)) = .ok (.tuple #[.string f.name, .pointer (some ⟨f.blk, 0, none⟩)]) (putObj X1 r (.mapIter (some m) clk (seen.push f.born) clk)) := by
  have hz : X1.heap.size = X.heap.size := by rcases hX1 with rfl | rfl <;> rfl
  have hh : ∀ b : Nat, X1.heap[b]? = X.heap[b]? := by rcases hX1 with rfl | rfl <;> exact fun _ => rfl
  have hrl : r < X.heap.size := lt_of_heap h.iter
  have hD : DiskAt B d m clk sv S (F1 ++ f :: F2) (putObj X1 r (.mapIter (some m) clk (seen.push f.born) clk)) := h.disk.same (by rw [putObj_size]; omega) (fun b hb => by rw [putObj_ne (b := b) _ (fun e => h.out (by rw [← e]; exact hb)), hh])
  refine ⟨hD, ?_⟩
  have := run_entry_at (P := Tryd.prog) (putObj X1 r (.mapIter (some m) clk (seen.push f.born) clk)) r m clk seen ((F1 ++ f :: F2).map FE.entry).toArray clk f.entry (putObj_at _ (by omega)) hD.map (by simp) (by
    have hb := h.disk.borns
    simpa [FE.entry, Function.comp_def] using hb)
  exact this
set_option maxHeartbeats 4000000 in
theorem tear_any {B d m clk : Nat} {sv : Value} {S : DS} {F : List FE} {w : World} (h : DiskAt B d m clk sv S F w) (rest : Int) (hr1 : -9223372036854775808 ≤ rest) (hr2 : rest ≤ 9223372036854775807) :
    Calls Tryd.prog 56 #[.pointer (some ⟨d, 0, none⟩), .int .i64 rest] w fun e w' => e = .returned (.tuple #[]) ∧ Did B d m sv { S with runs := false } F w ((F.map FE.pl).map (tornP rest)) w' := by
  have c5 := h.cells.c5
  have hrg := run_rangeM h.map
  have hbn := h.borns
  have HN := Lib.hid hbn
  have hT0 : Tearing B d m clk w.heap.size sv S F rest w #[] F (w.alloc (.mapIter (some m) clk #[] clk)) := ⟨h.alloc _, heap_alloc_new w _, rfl, by simp, fun e => Nat.lt_irrefl _ (h.lt e), Nat.le_refl _, (Stays.refl _ _).alloc _, fun b hb => .inl hb⟩
  have HT0 := Lib.hid hT0
  clear h hbn hT0
  generalize w.heap.size = r at *
  go_enter Tryd.func56, Tryd.ntmps56
  go_wp2
  go_loopg [5] (F.countP (fun g => !(#[] : Array Nat).contains g.born)) (fun gg _ wr => ∃ (seen : Array Nat) (F' : List FE) (X : World), X = wr ∧ F.countP (fun g => !seen.contains g.born) ≤ gg ∧ Tearing B d m clk r sv S F rest w seen F' X)
  case atStart => exact ⟨#[], F, _, rfl, Nat.le_refl _, HT0.out⟩
  case round =>
    obtain ⟨seen, F', X, hX, hgg, hT⟩ := hrel
    subst hX
    have c3 := hT.disk.cells.c3
    have f3 := hT.disk.cells.f3
    rcases run_next_at (P := Tryd.prog) X 0 r m clk clk seen (F'.map FE.entry).toArray clk hT.iter hT.disk.map (by
      intro x hx
      simp only [List.mem_map] at hx
      obtain ⟨f, hf, rfl⟩ := hx
      exact hT.disk.born f hf) (Nat.le_refl _) with ⟨h0, hnx⟩ | ⟨e, he, w1, hw1, hnx⟩
    · have HE := Lib.hid (hT.end h0)
      clear hT h0
      go_wp2
      first | refine bodyPost_end (results_none rfl _ _ _) rfl ?_ | refine bodyPost_ret (results_none rfl _ _ _) rfl ?_
      exact ⟨rfl, HE.out⟩
    · obtain ⟨F1, f, F2, rfl, rfl, hun⟩ := leftOf_mem he
      obtain ⟨hDY, hent⟩ := hT.step hw1
      obtain ⟨Y, hY⟩ : ∃ Y, Y = putObj w1 r (.mapIter (some m) clk (seen.push f.born) clk) := ⟨_, rfl⟩
      have hn2 : (Instr.next (.pointer (some ⟨r, 0, none⟩)) false 0).run Tryd.prog X = .ok (.tuple #[.bool true, .string f.name, .pointer (some ⟨f.blk, 0, none⟩)]) Y := by rw [hY]; exact hnx
      rw [← hY] at hDY hent
      obtain ⟨a, c, _, ⟨c0, c1, _⟩⟩ := hDY.fileC (f := f) (by simp)
      have hd := (hDY.files f (by simp)).dur
      have hub : f.data.length ≤ 1048576 := by
        have h1 := hDY.fits
        have h2 := hDY.quota
        rw [usedF_mid] at h1
        omega
      obtain ⟨l1, l2, l3⟩ := leftP_le rest f.pl hd
      have HW := Lib.hid (fun W => within_any rest ((f.data.length : Int) - (f.dur : Int)) W hr1 hr2 (by omega) (by omega))
      have HC := Lib.hid (fun W (hW : DiskAt B d m clk sv S (F1 ++ f :: F2) W) => cut_any hW (leftP rest f.pl) l1 _ l3.symm)
      obtain ⟨hq0, hq1⟩ := wth_bd rest ((f.data.length : Int) - (f.dur : Int)) (by omega)
      have HTo := Lib.hid (fun X2 f1 hn hbo hdat hlen hD hS hfp => hT.torn (X2 := X2) hw1 hun HN.out f1 hn hbo hdat hlen hD hS hfp)
      have HDY := Lib.hid hDY
      have HY := Lib.hid hY
      have HL : Hid ((f.data.take (leftP rest f.pl)).length = leftP rest f.pl) := Lib.hid (by rw [List.length_take]; exact Nat.min_eq_left l1)
      have hdz : (f.dur : Int) ≤ (f.data.length : Int) := by omega
      clear hT hun hnx hDY hY he l1 l2 l3 c5 hrg
      change Hid (∀ W, Calls _ _ _ W _) at HW
      change Hid (∀ W (_ : DiskAt B d m clk sv S (F1 ++ f :: F2) W), Calls Tryd.prog 51 #[_, _, .int .i64 ((f.dur : Int) + wth rest ((f.data.length : Int) - (f.dur : Int)))] W _) at HC
      generalize wth rest ((f.data.length : Int) - (f.dur : Int)) = q at *
      have hwr : IntKind.i64.wrap ((f.dur : Int) + q) = (f.dur : Int) + q := wr64 _ (by omega) (by omega)
      go_wp2
      go_region
      go_wp2_with fail
      go_region_with (first | (go_at_call 38; refine (HW.out _).mono ?_; rintro e w3 ⟨rfl, rfl⟩) | (go_at_call 51; refine (HC.out _ HDY.out.drew.drew).mono ?_; rintro e X2 ⟨rfl, v, hD2, hS2, hM2⟩))
      all_goals
        obtain ⟨a2, c2, _, ⟨d0, d1, dz⟩⟩ := hD2.fileC (f := f.cutTo (leftP rest f.pl) v) (by simp)
        have hSY : Stays (fpOf d m sv (F1 ++ f :: F2)) Y X2 := ((Stays.refl _ Y).drew.drew).trans hS2 (fun b hb => .inl hb)
        have hR := HTo.out X2 (f.cutTo (leftP rest f.pl) v) rfl rfl rfl HL.out hD2 (by rw [← HY.out]; exact hSY) (fun b hb => by
          rcases hM2 b hb with e | e
          · exact .inl e
          · exact .inr (by have : Y.drew.drew.heap.size = w1.heap.size := by rw [HY.out]; exact putObj_size _
                           omega))
        have HR := Lib.hid hR
        have hn3 : (f.cutTo (leftP rest f.pl) v).blk = f.blk := rfl
        rw [hn3] at d0 d1 dz
        clear hD2 hS2 hM2 hSY hR HTo hn3
        go_wp2_with fail
        go_roundg (F.countP (fun g => !(seen.push f.born).contains g.born))
        case rel => exact ⟨_, _, _, rfl, Nat.le_refl _, HR.out.1⟩
        case measure => exact Nat.lt_of_lt_of_le HR.out.2 hgg
end Go.Proofs.YtbnicjpkfldcdaaDoor
