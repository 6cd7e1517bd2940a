/- The statement EventFormed: its walk where all are flags, behind the second loop (e11mgen.py out of E11m.src). -/
import Derived.Test.YtbncaiocmklgnaaGreatDoorE11k0
import Derived.Test.YtbncaiocmklgnaaGreatDoorE11g
namespace Go.Proofs.YtbncaiocmklgnaaGreatDoor
open Go.RowKit Go.Lib

theorem szM {ss : List ByteArray} (h : ∀ f, f ∈ ss → f.size ≤ 140737488355328) : ∀ i, i < ss.length → (ss.getD i ByteArray.empty).size ≤ 140737488355328 := by
  intro i hi
  rw [List.getD_eq_getElem?_getD, List.getElem?_eq_getElem hi]
  exact h _ (List.getElem_mem hi)
def fromRegion (n : Nat) : Code → Option Code
  | .seq (.region m o d) b => if m = n then some (.seq (.region m o d) b) else fromRegion n b
  | .seq _ b => fromRegion n b
  | _ => none
def firstC : Code → Code
  | .seq a _ => a
  | c => c
def restC : Code → Code
  | .seq _ b => b
  | c => c
noncomputable def formedFrom (n : Nat) : Code := ((Tryz.f3.body.bind (fromRegion n)).getD .skip)
noncomputable def formed33 : Code := firstC (formedFrom 33)
noncomputable def formedRest : Code := restC (formedFrom 33)
noncomputable def formed54 : Code := firstC (formedFrom 54)
noncomputable def formedTurn : Code := restC (formedFrom 54)
def anyLow (l : List ByteArray) (x : ByteArray) : Bool := l.any (fun f => (lowB f).toList == (lowB x).toList)
theorem anyLow_snoc (l : List ByteArray) (f x : ByteArray) : anyLow (l ++ [f]) x = (anyLow l x || ((lowB f).toList == (lowB x).toList)) := by
  unfold anyLow
  rw [List.any_append, List.any_cons, List.any_nil, Bool.or_false]
theorem anyLow_of (l : List ByteArray) (f x : ByteArray) (hf : f ∈ l) (h : lower (L f) = lower (L x)) : anyLow l x = true := by
  unfold anyLow
  rw [List.any_eq_true]
  exact ⟨f, hf, by unfold lowB; rw [h]; exact beq_self_eq_true _⟩
def anyLowR (l : List ByteArray) (f : ByteArray) : Bool := l.any (fun x => (lowB f).toList == (lowB x).toList)
theorem anyLowR_snoc (l : List ByteArray) (f x : ByteArray) : anyLowR (l ++ [x]) f = (anyLowR l f || ((lowB f).toList == (lowB x).toList)) := by
  unfold anyLowR
  rw [List.any_append, List.any_cons, List.any_nil, Bool.or_false]
theorem anyLowR_of (l : List ByteArray) (f x : ByteArray) (hf : x ∈ l) (h : lower (L f) = lower (L x)) : anyLowR l f = true := by
  unfold anyLowR
  rw [List.any_eq_true]
  exact ⟨x, hf, by unfold lowB; rw [h]; exact beq_self_eq_true _⟩
theorem Strs.dropK {w : World} {b off n cap : Nat} {ss : List ByteArray} (h : Strs w (.slice (some ⟨b, off, none⟩) n cap) ss) (hn : ss.length = n) (h1 : 1 ≤ n) (k c : Nat) (hk : k ≤ n) : Strs w (.slice (some ⟨b, off + k, none⟩) (n - k) c) (ss.drop k) := by
  rcases h with ⟨rfl, _⟩ | ⟨b', off', cap', e, h0, hb, hc⟩
  · simp at hn; omega
  · cases e
    refine .inr ⟨b, off + k, c, by rw [List.length_drop], by rw [List.length_drop]; omega, hb, fun i hi => ?_⟩
    rw [List.length_drop] at hi
    have := hc (k + i) (by omega)
    rw [Nat.add_assoc, this, List.getD_eq_getElem?_getD, List.getD_eq_getElem?_getD, List.getElem?_drop]
theorem Strs.takeK {w : World} {b off n cap : Nat} {ss : List ByteArray} (h : Strs w (.slice (some ⟨b, off, none⟩) n cap) ss) (hn : ss.length = n) (h1 : 1 ≤ n) (k c : Nat) (hk : k ≤ n) : Strs w (.slice (some ⟨b, off, none⟩) k c) (ss.take k) := by
  rcases h with ⟨rfl, _⟩ | ⟨b', off', cap', e, h0, hb, hc⟩
  · simp at hn; omega
  · cases e
    have hl : (ss.take k).length = k := by rw [List.length_take]; omega
    refine .inr ⟨b, off, c, by rw [hl], by omega, hb, fun i hi => ?_⟩
    rw [hl] at hi
    have := hc i (by omega)
    rw [this, List.getD_eq_getElem?_getD, List.getD_eq_getElem?_getD, List.getElem?_take, if_pos hi]
theorem turn_perm (ss : List ByteArray) (k : Nat) : (ss.drop k ++ ss.take k).Perm ss := by
  have h := List.perm_append_comm (l₁ := ss.drop k) (l₂ := ss.take k)
  rw [List.take_append_drop] at h
  exact h
theorem low_size (f : ByteArray) : (lowB f).size = f.size := by
  unfold lowB
  rw [S_size]
  unfold lower
  rw [List.length_map]
  exact (Lib.size_eq f).symm
/-- What is left of a number. -/
theorem spot_of (sw : Int) (n : Nat) (hn : 2 ≤ n) (h0 : 0 ≤ sw) : ∃ k : Nat, k < n ∧ sw.tmod (n : Int) = (k : Int) := by
  refine ⟨(sw % (n : Int)).toNat, ?_, ?_⟩
  · have := Int.emod_lt_of_pos sw (show (0 : Int) < n by omega)
    have := Int.emod_nonneg sw (show (n : Int) ≠ 0 by omega)
    omega
  · rw [Int.tmod_eq_emod_of_nonneg h0]
    have := Int.emod_nonneg sw (show (n : Int) ≠ 0 by omega)
    omega
set_option maxHeartbeats 8000000 in
set_option maxRecDepth 20000 in
theorem formed_turn (ss fs : List ByteArray) (b1 o1 cap : Nat) (a2 : Option Addr) (c2 n m : Nat) (w W : World) (HE : Hid (Env2 w)) (HB : Hid (Below w.heap.size w W)) (HS1 : Hid (Strs w (.slice (some ⟨b1, o1, none⟩) n cap) ss)) (HSa : Hid (Strs W (.slice a2 m c2) fs)) (HN : Hid (ss.length = n)) (HM : Hid (fs.length = m)) (hl8 : n ≤ 8) (hn2 : 2 ≤ n) (hmn : n ≤ m) (hm13 : m ≤ 13) (hcap : n ≤ cap) (HZ : Hid (∀ f, f ∈ ss → f.size ≤ 140737488355328)) (HFs : Hid (formL ss = fs)) (HKeys : Hid (∀ f, f ∈ kwsL ss → isKey (L f) = true)) (k : Nat) (hkn : k < n) (s1 s2 s3 s4 s6 s7 s8 s9 s10 s11 s12 s13 s14 s15 s16 s17 s18 s19 s20 s21 s23 s24 s25 s26 s27 s28 s29 s30 s31 s32 s33 s34 s35 s36 s37 s38 s39 s40 s41 s42 s43 s44 s45 s46 s47 s48 s49 s50 s51 s52 s53 s54 s55 s56 s57 s58 s59 s60 s61 s62 s63 s64 s65 s66 s67 s68 s69 s70 s71 s72 s73 s74 s75 s76 s77 s78 s79 s80 s81 s82 s83 s84 s85 s86 s87 s88 s89 s90 s91 s92 s93 s94 s95 s96 s97 s98 s99 s100 s101 s102 s103 s104 s105 s106 s107 s108 s109 s110 s111 s112 s113 s114 s115 s116 s117 s118 s119 s120 s121 s122 s123 s124 s125 s126 s127 s128 s129 s130 s131 s132 s133 s134 s135 s136 s137 s138 s139 s140 s141 s142 s143 s144 s145 s146 s147 s148 s149 s150 s151 s152 s153 s154 s155 s156 s157 s158 s159 s160 s161 s162 s163 s164 s165 s166 s167 s168 s169 s170 s171 s172 s173 s174 s175 s176 s177 s178 s179 s180 s181 s182 s183 s184 s185 s186 s187 s188 s189 s190 s191 s192 s193 s194 s195 s196 s197 s198 s199 s200 s201 s202 s203 s204 s205 s206 s207 s208 s209 s210 s211 s212 s213 s214 s215 s216 s217 s218 s219 s220 s221 s222 s223 s224 s225 s226 s227 s228 s229 s230 s231 s232 s233 s234 s235 s236 s237 s238 s239 s240 s241 s242 s243 s244 s245 s246 s247 s248 s249 s250 s251 s252 s253 s254 s255 s256 s257 s258 s259 s260 s261 s262 s263 s264 s265 s266 : Value) (K : Act → World → Prop) (hK : ∀ a w1, Code.wp Tryz.prog formedTurn (bodyPost Tryz.prog Tryz.f3 (fun e w' => e = .returned (.bool true) ∧ Below w.heap.size w w')) a w1 → K a w1) :
    Code.wp Tryz.prog formed54 (Exit.then K (bodyPost Tryz.prog Tryz.f3 (fun e w' => e = .returned (.bool true) ∧ Below w.heap.size w w'))) ⟨#[.slice (some ⟨b1, o1, none⟩) n cap, s1, s2, s3, s4, .slice a2 m c2, s6, s7, s8, s9, s10, s11, s12, s13, s14, s15, s16, s17, s18, s19, s20, s21, .int .i64 (k : Int), s23, s24, s25, s26, s27, s28, s29, s30, s31, s32, s33, s34, s35, s36, s37, s38, s39, s40, s41, s42, s43, s44, s45, s46, s47, s48, s49, s50, s51, s52, s53, s54, s55, s56, s57, s58, s59, s60, s61, s62, s63, s64, s65, s66, s67, s68, s69, s70, s71, s72, s73, s74, s75, s76, s77, s78, s79, s80, s81, s82, s83, s84, s85, s86, s87, s88, s89, s90, s91, s92, s93, s94, s95, s96, s97, s98, s99, s100, s101, s102, s103, s104, s105, s106, s107, s108, s109, s110, s111, s112, s113, s114, s115, s116, s117, s118, s119, s120, s121, s122, s123, s124, s125, s126, s127, s128, s129, s130, s131, s132, s133, s134, s135, s136, s137, s138, s139, s140, s141, s142, s143, s144, s145, s146, s147, s148, s149, s150, s151, s152, s153, s154, s155, s156, s157, s158, s159, s160, s161, s162, s163, s164, s165, s166, s167, s168, s169, s170, s171, s172, s173, s174, s175, s176, s177, s178, s179, s180, s181, s182, s183, s184, s185, s186, s187, s188, s189, s190, s191, s192, s193, s194, s195, s196, s197, s198, s199, s200, s201, s202, s203, s204, s205, s206, s207, s208, s209, s210, s211, s212, s213, s214, s215, s216, s217, s218, s219, s220, s221, s222, s223, s224, s225, s226, s227, s228, s229, s230, s231, s232, s233, s234, s235, s236, s237, s238, s239, s240, s241, s242, s243, s244, s245, s246, s247, s248, s249, s250, s251, s252, s253, s254, s255, s256, s257, s258, s259, s260, s261, s262, s263, s264, s265, s266], []⟩ W := by
  conv => arg 2; whnf
  have HK := Lib.hid hK
  clear hK
  go_wp2_with fail
  refine HK.out _ _ ?_
  clear HK K
  conv => arg 2; whnf
  have hki : (k : Int) < (n : Int) := by omega
  have hk0 : (0 : Int) ≤ (k : Int) := by omega
  have hkn1 : (k : Int) ≤ (n : Int) := by omega
  have hkc : (k : Int) ≤ (cap : Int) := by omega
  have hnc : (n : Int) ≤ (cap : Int) := by omega
  have hn0 : (0 : Int) ≤ (n : Int) := by omega
  have HD : Hid (∀ X c, Below w.heap.size w X → Strs X (.slice (some ⟨b1, o1 + k, none⟩) (n - k) c) (ss.drop k)) := Lib.hid (fun X c hX => (HS1.out.on hX).dropK HN.out (by omega) k c (by omega))
  have HT : Hid (∀ X c, Below w.heap.size w X → Strs X (.slice (some ⟨b1, o1, none⟩) k c) (ss.take k)) := Lib.hid (fun X c hX => (HS1.out.on hX).takeK HN.out (by omega) k c (by omega))
  have HLd : Hid ((ss.drop k).length = n - k) := Lib.hid (by rw [List.length_drop, HN.out])
  have HLt : Hid ((ss.take k).length = k) := Lib.hid (by rw [List.length_take, HN.out]; omega)
  have HF : Hid (flagsE (ss.drop k ++ ss.take k) = 0 ∧ flagsL (ss.drop k ++ ss.take k) = fs) := Lib.hid (by
    have h := form_turn ss (by rw [HN.out]; exact hl8) HKeys.out (by rw [HFs.out, HM.out, HN.out]; exact hmn) (ss.drop k ++ ss.take k) (turn_perm ss k)
    rw [HFs.out] at h
    exact h)
  have HZo : Hid (∀ f, f ∈ ss.drop k ++ ss.take k → f.size ≤ 140737488355328) := Lib.hid (fun f hf => HZ.out f ((turn_perm ss k).mem_iff.1 hf))
  go_upto_region 56 with (at_builtin; refine appTsE rfl _ _ rfl (OwnT.nil (B := W.heap.size) (W0 := W) (Below.refl _ _) (Nat.le_refl _)) (HD.out _ _ HB.out) (fun c e => by cases e) rfl rfl (by rw [HLd.out]; simp; omega) ?_; intro v5 w5 ho5; rw [List.nil_append] at ho5; obtain ⟨a5, k5, hv5⟩ := ho5.shape; rw [HLd.out] at hv5; subst hv5; have HO5 := Lib.hid ho5; have HB5 := Lib.hid (HB.out.trans (ho5.below.mono HB.out.size)); have HSa5 := Lib.hid (HSa.out.on ho5.below); clear ho5)
  go_upto_region 57 with (at_builtin; refine appTsE rfl _ _ rfl HO5.out (HT.out _ _ HB5.out) (fun c e => by cases e) rfl rfl (by rw [HLd.out, HLt.out]; omega) ?_; intro v6 w6 ho6; obtain ⟨a6, k6, hv6⟩ := ho6.shape; obtain ⟨N6, hN6⟩ : ∃ N6, (ss.drop k ++ ss.take k).length = N6 := ⟨_, rfl⟩; rw [hN6] at hv6; subst hv6; have HN6 := Lib.hid hN6; clear hN6; have HO6 := Lib.hid (show Strs w6 (.slice a6 N6 k6) (ss.drop k ++ ss.take k) from ho6.strs (by rw [List.length_append, HLd.out, HLt.out]; omega)); have HB6 := Lib.hid (HB.out.trans (ho6.below.mono HB.out.size)); have HSa6 := Lib.hid (HSa.out.on ho6.below); clear ho6)
  have HFl : Hid (∀ W, Below w.heap.size w W → Strs W (.slice a6 N6 k6) (ss.drop k ++ ss.take k) → Calls Tryz.prog 7 #[.slice a6 N6 k6] W fun e w' => ∃ a c, e = .returned (.tuple #[.slice a m c, .int .i64 0]) ∧ Strs w' (.slice a m c) fs ∧ Below W.heap.size W w') := Lib.hid (fun W hW hS => by
    refine (Flags_any _ _ W (HE.out.go hW).f hS (szM HZo.out)).mono ?_
    rintro e w' ⟨vo, rfl, ho⟩
    rw [HF.out.2] at ho
    rw [HF.out.1]
    obtain ⟨a, c, rfl⟩ := ho.shape
    rw [HM.out] at ho ⊢
    exact ⟨a, c, rfl, by have := ho.strs (by rw [HM.out]; omega); exact this, ho.below⟩)
  clear HO5 HB5 HSa5 HD HT HF HZo
  go_wp2_with (first | (go_at_call 7; refine (HFl.out _ HB6.out HO6.out).mono ?_; rintro e w7 ⟨a7, c7, rfl, hs7, hb7⟩; have HB7 := Lib.hid (HB6.out.trans (hb7.mono HB6.out.size)); have HS7 := Lib.hid hs7; have HSa7 := Lib.hid (HSa6.out.on hb7); clear hb7 hs7) | (go_at_call 8; refine (texts_eq HS7.out HSa7.out (by rw [HM.out]; omega)).mono ?_; rintro e w8 ⟨rfl, hb8⟩; have HB8 := Lib.hid (HB7.out.trans (hb8.mono HB7.out.size)); clear hb8))
  go_ret
  exact ⟨rfl, HB8.out⟩
end Go.Proofs.YtbncaiocmklgnaaGreatDoor

/- The statement EventFormed: its walk where all are flags, from the second loop's end on (e11mgen.py out of E11n.src). -/
namespace Go.Proofs.YtbncaiocmklgnaaGreatDoor
open Go.RowKit Go.Lib

set_option maxHeartbeats 8000000 in
set_option maxRecDepth 20000 in
theorem formed_mid (ss fs : List ByteArray) (ao a2 : Option Addr) (cap c2 n m : Nat) (sw : Int) (w W : World) (HE : Hid (Env2 w)) (HB : Hid (Below w.heap.size w W)) (HS1 : Hid (Strs w (.slice ao n cap) ss)) (HSa : Hid (Strs W (.slice a2 m c2) fs)) (HN : Hid (ss.length = n)) (HM : Hid (fs.length = m)) (hl8 : n ≤ 8) (hm13 : m ≤ 13) (hcap : n ≤ cap) (HNn : Hid (∀ c, Value.slice ao n cap = .slice none 0 c → c = 0)) (hsw : -9223372036854775808 ≤ sw ∧ sw ≤ 9223372036854775807) (HZ : Hid (∀ f, f ∈ ss → f.size ≤ 140737488355328)) (HZf : Hid (∀ f, f ∈ fs → f.size ≤ 140737488355328)) (HFs : Hid (formL ss = fs)) (HKeys : Hid (∀ f, f ∈ kwsL ss → isKey (L f) = true)) (s2 s3 s4 s6 s7 s8 s9 s10 s11 s12 s13 s14 s15 s16 s17 s18 s19 s20 s21 s22 s23 s24 s25 s26 s27 s28 s29 s30 s31 s32 s33 s34 s35 s36 s37 s38 s39 s40 s41 s42 s43 s44 s45 s46 s47 s48 s49 s50 s51 s52 s53 s54 s55 s56 s57 s58 s59 s60 s61 s62 s63 s64 s65 s66 s67 s68 s69 s70 s71 s72 s73 s74 s75 s76 s77 s78 s79 s80 s81 s82 s83 s84 s85 s86 s87 s88 s89 s90 s91 s92 s93 s94 s95 s96 s97 s98 s99 s100 s101 s102 s103 s104 s105 s106 s107 s108 s109 s110 s111 s112 s113 s114 s115 s116 s117 s118 s119 s120 s121 s122 s123 s124 s125 s126 s127 s128 s129 s130 s131 s132 s133 s134 s135 s136 s137 s138 s139 s140 s141 s142 s143 s144 s145 s146 s147 s148 s149 s150 s151 s152 s153 s154 s155 s156 s157 s158 s159 s160 s161 s162 s163 s164 s165 s166 s167 s168 s169 s170 s171 s172 s173 s174 s175 s176 s177 s178 s179 s180 s181 s182 s183 s184 s185 s186 s187 s188 s189 s190 s191 s192 s193 s194 s195 s196 s197 s198 s199 s200 s201 s202 s203 s204 s205 s206 s207 s208 s209 s210 s211 s212 s213 s214 s215 s216 s217 s218 s219 s220 s221 s222 s223 s224 s225 s226 s227 s228 s229 s230 s231 s232 s233 s234 s235 s236 s237 s238 s239 s240 s241 s242 s243 s244 s245 s246 s247 s248 s249 s250 s251 s252 s253 s254 s255 s256 s257 s258 s259 s260 s261 s262 s263 s264 s265 s266 : Value) (K : Act → World → Prop) (hK : ∀ a w1, Code.wp Tryz.prog formedRest (bodyPost Tryz.prog Tryz.f3 (fun e w' => e = .returned (.bool true) ∧ Below w.heap.size w w')) a w1 → K a w1) :
    Code.wp Tryz.prog formed33 (Exit.then K (bodyPost Tryz.prog Tryz.f3 (fun e w' => e = .returned (.bool true) ∧ Below w.heap.size w w'))) ⟨#[.slice ao n cap, .int .i64 sw, s2, s3, s4, .slice a2 m c2, s6, s7, s8, s9, s10, s11, s12, s13, s14, s15, s16, s17, s18, s19, s20, s21, s22, s23, s24, s25, s26, s27, s28, s29, s30, s31, s32, s33, s34, s35, s36, s37, s38, s39, s40, s41, s42, s43, s44, s45, s46, s47, s48, s49, s50, s51, s52, s53, s54, s55, s56, s57, s58, s59, s60, s61, s62, s63, s64, s65, s66, s67, s68, s69, s70, s71, s72, s73, s74, s75, s76, s77, s78, s79, s80, s81, s82, s83, s84, s85, s86, s87, s88, s89, s90, s91, s92, s93, s94, s95, s96, s97, s98, s99, s100, s101, s102, s103, s104, s105, s106, s107, s108, s109, s110, s111, s112, s113, s114, s115, s116, s117, s118, s119, s120, s121, s122, s123, s124, s125, s126, s127, s128, s129, s130, s131, s132, s133, s134, s135, s136, s137, s138, s139, s140, s141, s142, s143, s144, s145, s146, s147, s148, s149, s150, s151, s152, s153, s154, s155, s156, s157, s158, s159, s160, s161, s162, s163, s164, s165, s166, s167, s168, s169, s170, s171, s172, s173, s174, s175, s176, s177, s178, s179, s180, s181, s182, s183, s184, s185, s186, s187, s188, s189, s190, s191, s192, s193, s194, s195, s196, s197, s198, s199, s200, s201, s202, s203, s204, s205, s206, s207, s208, s209, s210, s211, s212, s213, s214, s215, s216, s217, s218, s219, s220, s221, s222, s223, s224, s225, s226, s227, s228, s229, s230, s231, s232, s233, s234, s235, s236, s237, s238, s239, s240, s241, s242, s243, s244, s245, s246, s247, s248, s249, s250, s251, s252, s253, s254, s255, s256, s257, s258, s259, s260, s261, s262, s263, s264, s265, s266], []⟩ W := by
  conv => arg 2; whnf
  have HK := Lib.hid hK
  clear hK
  go_wp2_with fail
  refine HK.out _ _ ?_
  clear HK K
  conv => arg 2; whnf
  have hmi : (m : Int) ≤ 13 := by omega
  have hni : (n : Int) ≤ 8 := by omega
  have HLow := Lib.hid (fun f (hf : f.size ≤ 140737488355328) W => lawlower_any f W hf)
  have HF : Hid (flagsE (ss ++ ss.map lowB) = 0 ∧ flagsL (ss ++ ss.map lowB) = fs) := Lib.hid (by
    have h := form_more ss (by rw [HN.out]; exact hl8) HKeys.out
    rw [HFs.out] at h
    exact h)
  go_upto_region 35 with (at_builtin; refine appTsE rfl _ _ rfl (OwnT.nil (B := W.heap.size) (W0 := W) (Below.refl _ _) (Nat.le_refl _)) (HS1.out.on HB.out) HNn.out rfl rfl (by rw [HN.out]; simp; omega) ?_; intro v5 w5 ho5; rw [List.nil_append] at ho5; have HO5 := Lib.hid ho5; obtain ⟨a5, k5, hv5⟩ := ho5.shape; rw [HN.out] at hv5; subst hv5; clear ho5)
  have HC1 : Hid (∀ X, Below W.heap.size W X → ∀ i, i < n → ∃ b off, ao = some ⟨b, off, none⟩ ∧ X.cell? ⟨b, off + i, none⟩ = some (.string (ss.getD i ByteArray.empty))) := Lib.hid (fun X hX k hk => by
    have hS := (HS1.out.on HB.out).on hX
    obtain ⟨ao', cap', e, hc⟩ := hS.cells
    cases e
    obtain ⟨b, off, h1, _, h3⟩ := hc k (by rw [HN.out]; exact hk)
    exact ⟨b, off, h1, h3⟩)
  have HC2 : Hid (∀ X, Below W.heap.size W X → ∀ k, k < m → ∃ b off, a2 = some ⟨b, off, none⟩ ∧ X.cell? ⟨b, off + k, none⟩ = some (.string (fs.getD k ByteArray.empty))) := Lib.hid (fun X hX k hk => by
    have hS := HSa.out.on hX
    obtain ⟨ao', cap', e, hc⟩ := hS.cells
    cases e
    obtain ⟨b, off, h1, _, h3⟩ := hc k (by rw [HM.out]; exact hk)
    exact ⟨b, off, h1, h3⟩)
  have HSt : Hid (OwnT W.heap.size (.slice a5 n k5) (ss ++ (ss.take 0).map lowB) W w5) := Lib.hid (by
    have h := HO5.out
    rw [List.take_zero, List.map_nil, List.append_nil]
    exact h)
  clear HO5
  go_wp2_with fail
  go_loopw [16, 17] (fun vm vi wr => ∃ (i : Nat) (X : World), X = wr ∧ i ≤ n ∧ vi = .int .i64 i ∧ OwnT W.heap.size vm (ss ++ (ss.take i).map lowB) W X) (fun _ i _ => n - (intOf i).toNat)
  case atStart => exact ⟨0, _, rfl, Nat.zero_le _, rfl, HSt.out⟩
  case round =>
    clear HSt
    obtain ⟨i, X, hX, hin, rfl, hown⟩ := hrel
    subst hX
    have HO := Lib.hid hown
    obtain ⟨am, cm, hvm⟩ := hown.shape
    have hlm : (ss ++ (ss.take i).map lowB).length = n + i := by rw [List.length_append, List.length_map, List.length_take, HN.out]; omega
    obtain ⟨ni, hni2⟩ : ∃ ni, n + i = ni := ⟨_, rfl⟩
    rw [hlm, hni2] at hvm
    have HLm := Lib.hid hlm
    have HNi := Lib.hid hni2
    subst hvm
    clear hlm hown hni2
    by_cases hlt : i < n
    · obtain ⟨b1, o1, ha1, yf0⟩ := HC1.out X HO.out.below i hlt
      subst ha1
      have hi1 : (i : Int) < (n : Int) := by omega
      have hi0 : (0 : Int) ≤ (i : Int) := by omega
      have hi8 : (i : Int) ≤ 8 := by omega
      have HMem := Lib.hid (getD_mem ss i (by rw [HN.out]; exact hlt))
      have HLf := Lib.hid (fun W => HLow.out (ss.getD i ByteArray.empty) (HZ.out _ HMem.out) W)
      have HT1 := Lib.hid (take_snocD ss i (by rw [HN.out]; exact hlt))
      have HTail : Hid (∀ X', Below W.heap.size W X' → X'.cell? ⟨b1, o1 + i, none⟩ = some (.string (ss.getD i ByteArray.empty))) := Lib.hid (fun X' hX' => by
        obtain ⟨b, off, e, h⟩ := HC1.out X' hX' i hlt
        cases e
        exact h)
      have HAny : Hid (anyLowR fs (ss.getD i ByteArray.empty) = true) := Lib.hid (by
        obtain ⟨x, hx, e⟩ := in_form ss (ss.getD i ByteArray.empty) HMem.out
        rw [HFs.out] at hx
        exact anyLowR_of fs _ x hx e)
      have HNext : Hid (ss ++ (ss.take (i + 1)).map lowB = (ss ++ (ss.take i).map lowB) ++ [lowB (ss.getD i ByteArray.empty)]) := Lib.hid (by
        rw [HT1.out, List.map_append, List.append_assoc]
        rfl)
      clear yf0
      generalize hf0 : ss.getD i ByteArray.empty = f at *
      clear hf0
      go_wp2_with fail
      go_loopw [18, 19] (fun vb vk wr => ∃ (k : Nat) (Y : World), Y = wr ∧ k ≤ m ∧ vk = .int .i64 k ∧ vb = .bool (anyLowR (fs.take k) f) ∧ Below X.heap.size X Y) (fun _ k _ => m - (intOf k).toNat)
      case atStart => exact ⟨0, _, rfl, Nat.zero_le _, rfl, rfl, Below.refl _ _⟩
      case round =>
        obtain ⟨k, Y, hY, hkm, rfl, rfl, hb⟩ := hrel
        subst hY
        have HY0 := Lib.hid hb
        have HYW := Lib.hid (HO.out.below.trans (hb.mono HO.out.base))
        by_cases hlk : k < m
        · obtain ⟨b2, o2, ha2, yx⟩ := HC2.out Y HYW.out k hlk
          subst ha2
          have hk1 : (k : Int) < (m : Int) := by omega
          have hk0 : (0 : Int) ≤ (k : Int) := by omega
          have hk8 : (k : Int) ≤ 13 := by omega
          have HT := Lib.hid (take_snocD fs k (by rw [HM.out]; exact hlk))
          have HYk : Hid (∀ X, Below Y.heap.size Y X → X.cell? ⟨b1, o1 + i, none⟩ = some (.string f) ∧ X.cell? ⟨b2, o2 + k, none⟩ = some (.string (fs.getD k ByteArray.empty))) := Lib.hid (fun X' hX' => by
            have hb' := HYW.out.trans (hX'.mono HYW.out.size)
            obtain ⟨b, off, e, h⟩ := HC2.out X' hb' k hlk
            cases e
            exact ⟨HTail.out X' hb', h⟩)
          have HL1 := Lib.hid (fun W => HLf.out W)
          have HL2 := Lib.hid (fun W => HLow.out (fs.getD k ByteArray.empty) (HZf.out _ (getD_mem fs k (by rw [HM.out]; exact hlk))) W)
          obtain ⟨eq, heq⟩ : ∃ eq, ((lowB f).toList == (lowB (fs.getD k ByteArray.empty)).toList) = eq := ⟨_, rfl⟩
          obtain ⟨ab, hab⟩ : ∃ ab, anyLowR (fs.take k) f = ab := ⟨_, rfl⟩
          have HNx : Hid (anyLowR (fs.take (k + 1)) f = (ab || eq)) := Lib.hid (by rw [HT.out, anyLowR_snoc, heq, hab])
          rw [hab]
          clear hab hb
          obtain ⟨x, hx⟩ : ∃ x, fs.getD k ByteArray.empty = x := ⟨_, rfl⟩
          rw [hx] at HYk HL2 yx heq
          clear hx
          cases ab with
          | true =>
            clear heq
            go_upto_region 42 with fail
            refine wp_region_N 13 (fun X => X = Y.drew) (by kernel_rfl) ?_
            refine wpAnyN_take (i := 0) (oi := { dst := some 189, op := Go.Op.move (Go.Operand.tmp 18), type := 4, pos := "outright.go:124", after := #[], guard := none }) (oL := { dst := some 202, op := Go.Op.pick (Go.Operand.tmp 190) (Go.Operand.const (Go.Value.bool true)) (Go.Operand.tmp 201), type := 4, pos := "outright.go:124", after := #[{ on := 1, ground := Go.Ground.data }, { on := 12, ground := Go.Ground.data }], guard := none }) (v := .bool true) rfl rfl (by kernel_rfl) (by kernel_rfl) (by kernel_rfl) (by kernel_rfl) (fun _ _ _ h => h) (Or.inl ⟨by kernel_rfl, ?_⟩) rfl ?_
            · (intro X hX; subst hX <;> (go_simp; try first | (with_reducible rfl) | assumption))
            (try simp only [Act.put, List.setIfInBounds_toArray, List.set_cons_zero, List.set_cons_succ])
            refine wpAnyN_take (i := 1) (oi := { dst := some 190, op := Go.Op.move (Go.Operand.tmp 189), type := 4, pos := "outright.go:124", after := #[{ on := 0, ground := Go.Ground.data }], guard := none }) (oL := { dst := some 202, op := Go.Op.pick (Go.Operand.tmp 190) (Go.Operand.const (Go.Value.bool true)) (Go.Operand.tmp 201), type := 4, pos := "outright.go:124", after := #[{ on := 1, ground := Go.Ground.data }, { on := 12, ground := Go.Ground.data }], guard := none }) (v := .bool true) rfl rfl (by kernel_rfl) (by kernel_rfl) (by kernel_rfl) (by kernel_rfl) (fun _ _ _ h => h) (Or.inl ⟨by kernel_rfl, ?_⟩) rfl ?_
            · (intro X hX; subst hX <;> (go_simp; try first | (with_reducible rfl) | assumption))
            (try simp only [Act.put, List.setIfInBounds_toArray, List.set_cons_zero, List.set_cons_succ])
            refine wpAnyN_take (i := 2) (oi := { dst := some 191, op := Go.Op.move (Go.Operand.tmp 0), type := 22, pos := "outright.go:124", after := #[{ on := 1, ground := Go.Ground.guard }], guard := some (1, false) }) (oL := { dst := some 202, op := Go.Op.pick (Go.Operand.tmp 190) (Go.Operand.const (Go.Value.bool true)) (Go.Operand.tmp 201), type := 4, pos := "outright.go:124", after := #[{ on := 1, ground := Go.Ground.data }, { on := 12, ground := Go.Ground.data }], guard := none }) (v := undef) rfl rfl (by kernel_rfl) (by kernel_rfl) (by kernel_rfl) (by kernel_rfl) (fun _ _ _ h => h) (Or.inr ⟨by kernel_rfl, rfl⟩) rfl ?_
            (try simp only [Act.put, List.setIfInBounds_toArray, List.set_cons_zero, List.set_cons_succ])
            refine wpAnyN_take (i := 3) (oi := { dst := some 192, op := Go.Op.move (Go.Operand.tmp 17), type := 3, pos := "outright.go:124", after := #[{ on := 1, ground := Go.Ground.guard }], guard := some (1, false) }) (oL := { dst := some 202, op := Go.Op.pick (Go.Operand.tmp 190) (Go.Operand.const (Go.Value.bool true)) (Go.Operand.tmp 201), type := 4, pos := "outright.go:124", after := #[{ on := 1, ground := Go.Ground.data }, { on := 12, ground := Go.Ground.data }], guard := none }) (v := undef) rfl rfl (by kernel_rfl) (by kernel_rfl) (by kernel_rfl) (by kernel_rfl) (fun _ _ _ h => h) (Or.inr ⟨by kernel_rfl, rfl⟩) rfl ?_
            (try simp only [Act.put, List.setIfInBounds_toArray, List.set_cons_zero, List.set_cons_succ])
            refine wpAnyN_take (i := 4) (oi := { dst := some 193, op := Go.Op.indexAddr 22 (Go.Operand.tmp 191) (Go.Operand.tmp 192), type := 0, pos := "outright.go:124", after := #[{ on := 2, ground := Go.Ground.data }, { on := 3, ground := Go.Ground.data }, { on := 1, ground := Go.Ground.guard }], guard := some (1, false) }) (oL := { dst := some 202, op := Go.Op.pick (Go.Operand.tmp 190) (Go.Operand.const (Go.Value.bool true)) (Go.Operand.tmp 201), type := 4, pos := "outright.go:124", after := #[{ on := 1, ground := Go.Ground.data }, { on := 12, ground := Go.Ground.data }], guard := none }) (v := undef) rfl rfl (by kernel_rfl) (by kernel_rfl) (by kernel_rfl) (by kernel_rfl) (fun _ _ _ h => h) (Or.inr ⟨by kernel_rfl, rfl⟩) rfl ?_
            (try simp only [Act.put, List.setIfInBounds_toArray, List.set_cons_zero, List.set_cons_succ])
            refine wpAnyN_take (i := 5) (oi := { dst := some 194, op := Go.Op.load 9 (Go.Operand.tmp 193), type := 9, pos := "outright.go:124", after := #[{ on := 4, ground := Go.Ground.data }, { on := 1, ground := Go.Ground.guard }], guard := some (1, false) }) (oL := { dst := some 202, op := Go.Op.pick (Go.Operand.tmp 190) (Go.Operand.const (Go.Value.bool true)) (Go.Operand.tmp 201), type := 4, pos := "outright.go:124", after := #[{ on := 1, ground := Go.Ground.data }, { on := 12, ground := Go.Ground.data }], guard := none }) (v := undef) rfl rfl (by kernel_rfl) (by kernel_rfl) (by kernel_rfl) (by kernel_rfl) (fun _ _ _ h => h) (Or.inr ⟨by kernel_rfl, rfl⟩) rfl ?_
            (try simp only [Act.put, List.setIfInBounds_toArray, List.set_cons_zero, List.set_cons_succ])
            refine wpAnyN_take (i := 6) (oi := { dst := some 195, op := Go.Op.call { callee := Go.Callee.value (Go.Operand.func 9), args := #[Go.Operand.tmp 194], argTypes := #[9] }, type := 9, pos := "outright.go:124", after := #[{ on := 5, ground := Go.Ground.data }, { on := 1, ground := Go.Ground.chain }, { on := 1, ground := Go.Ground.guard }], guard := some (1, false) }) (oL := { dst := some 202, op := Go.Op.pick (Go.Operand.tmp 190) (Go.Operand.const (Go.Value.bool true)) (Go.Operand.tmp 201), type := 4, pos := "outright.go:124", after := #[{ on := 1, ground := Go.Ground.data }, { on := 12, ground := Go.Ground.data }], guard := none }) (v := undef) rfl rfl (by kernel_rfl) (by kernel_rfl) (by kernel_rfl) (by kernel_rfl) (fun _ _ _ h => h) (Or.inr ⟨by kernel_rfl, rfl⟩) rfl ?_
            (try simp only [Act.put, List.setIfInBounds_toArray, List.set_cons_zero, List.set_cons_succ])
            refine wpAnyN_take (i := 7) (oi := { dst := some 196, op := Go.Op.move (Go.Operand.tmp 5), type := 22, pos := "outright.go:124", after := #[{ on := 1, ground := Go.Ground.guard }], guard := some (1, false) }) (oL := { dst := some 202, op := Go.Op.pick (Go.Operand.tmp 190) (Go.Operand.const (Go.Value.bool true)) (Go.Operand.tmp 201), type := 4, pos := "outright.go:124", after := #[{ on := 1, ground := Go.Ground.data }, { on := 12, ground := Go.Ground.data }], guard := none }) (v := undef) rfl rfl (by kernel_rfl) (by kernel_rfl) (by kernel_rfl) (by kernel_rfl) (fun _ _ _ h => h) (Or.inr ⟨by kernel_rfl, rfl⟩) rfl ?_
            (try simp only [Act.put, List.setIfInBounds_toArray, List.set_cons_zero, List.set_cons_succ])
            refine wpAnyN_take (i := 8) (oi := { dst := some 197, op := Go.Op.move (Go.Operand.tmp 19), type := 3, pos := "outright.go:124", after := #[{ on := 1, ground := Go.Ground.guard }], guard := some (1, false) }) (oL := { dst := some 202, op := Go.Op.pick (Go.Operand.tmp 190) (Go.Operand.const (Go.Value.bool true)) (Go.Operand.tmp 201), type := 4, pos := "outright.go:124", after := #[{ on := 1, ground := Go.Ground.data }, { on := 12, ground := Go.Ground.data }], guard := none }) (v := undef) rfl rfl (by kernel_rfl) (by kernel_rfl) (by kernel_rfl) (by kernel_rfl) (fun _ _ _ h => h) (Or.inr ⟨by kernel_rfl, rfl⟩) rfl ?_
            (try simp only [Act.put, List.setIfInBounds_toArray, List.set_cons_zero, List.set_cons_succ])
            refine wpAnyN_take (i := 9) (oi := { dst := some 198, op := Go.Op.indexAddr 22 (Go.Operand.tmp 196) (Go.Operand.tmp 197), type := 0, pos := "outright.go:124", after := #[{ on := 7, ground := Go.Ground.data }, { on := 8, ground := Go.Ground.data }, { on := 1, ground := Go.Ground.guard }], guard := some (1, false) }) (oL := { dst := some 202, op := Go.Op.pick (Go.Operand.tmp 190) (Go.Operand.const (Go.Value.bool true)) (Go.Operand.tmp 201), type := 4, pos := "outright.go:124", after := #[{ on := 1, ground := Go.Ground.data }, { on := 12, ground := Go.Ground.data }], guard := none }) (v := undef) rfl rfl (by kernel_rfl) (by kernel_rfl) (by kernel_rfl) (by kernel_rfl) (fun _ _ _ h => h) (Or.inr ⟨by kernel_rfl, rfl⟩) rfl ?_
            (try simp only [Act.put, List.setIfInBounds_toArray, List.set_cons_zero, List.set_cons_succ])
            refine wpAnyN_take (i := 10) (oi := { dst := some 199, op := Go.Op.load 9 (Go.Operand.tmp 198), type := 9, pos := "outright.go:124", after := #[{ on := 9, ground := Go.Ground.data }, { on := 1, ground := Go.Ground.guard }], guard := some (1, false) }) (oL := { dst := some 202, op := Go.Op.pick (Go.Operand.tmp 190) (Go.Operand.const (Go.Value.bool true)) (Go.Operand.tmp 201), type := 4, pos := "outright.go:124", after := #[{ on := 1, ground := Go.Ground.data }, { on := 12, ground := Go.Ground.data }], guard := none }) (v := undef) rfl rfl (by kernel_rfl) (by kernel_rfl) (by kernel_rfl) (by kernel_rfl) (fun _ _ _ h => h) (Or.inr ⟨by kernel_rfl, rfl⟩) rfl ?_
            (try simp only [Act.put, List.setIfInBounds_toArray, List.set_cons_zero, List.set_cons_succ])
            refine wpAnyN_take (i := 11) (oi := { dst := some 200, op := Go.Op.call { callee := Go.Callee.value (Go.Operand.func 9), args := #[Go.Operand.tmp 199], argTypes := #[9] }, type := 9, pos := "outright.go:124", after := #[{ on := 10, ground := Go.Ground.data }, { on := 6, ground := Go.Ground.chain }, { on := 1, ground := Go.Ground.guard }], guard := some (1, false) }) (oL := { dst := some 202, op := Go.Op.pick (Go.Operand.tmp 190) (Go.Operand.const (Go.Value.bool true)) (Go.Operand.tmp 201), type := 4, pos := "outright.go:124", after := #[{ on := 1, ground := Go.Ground.data }, { on := 12, ground := Go.Ground.data }], guard := none }) (v := undef) rfl rfl (by kernel_rfl) (by kernel_rfl) (by kernel_rfl) (by kernel_rfl) (fun _ _ _ h => h) (Or.inr ⟨by kernel_rfl, rfl⟩) rfl ?_
            (try simp only [Act.put, List.setIfInBounds_toArray, List.set_cons_zero, List.set_cons_succ])
            refine wpAnyN_take (i := 12) (oi := { dst := some 201, op := Go.Op.binOp Go.BinOp.eql 9 (Go.Operand.tmp 195) (Go.Operand.tmp 200) 9, type := 4, pos := "outright.go:124", after := #[{ on := 6, ground := Go.Ground.data }, { on := 11, ground := Go.Ground.data }, { on := 1, ground := Go.Ground.guard }], guard := some (1, false) }) (oL := { dst := some 202, op := Go.Op.pick (Go.Operand.tmp 190) (Go.Operand.const (Go.Value.bool true)) (Go.Operand.tmp 201), type := 4, pos := "outright.go:124", after := #[{ on := 1, ground := Go.Ground.data }, { on := 12, ground := Go.Ground.data }], guard := none }) (v := undef) rfl rfl (by kernel_rfl) (by kernel_rfl) (by kernel_rfl) (by kernel_rfl) (fun _ _ _ h => h) (Or.inr ⟨by kernel_rfl, rfl⟩) rfl ?_
            (try simp only [Act.put, List.setIfInBounds_toArray, List.set_cons_zero, List.set_cons_succ])
            refine wpAnyN_one (i := 13) (o := { dst := some 202, op := Go.Op.pick (Go.Operand.tmp 190) (Go.Operand.const (Go.Value.bool true)) (Go.Operand.tmp 201), type := 4, pos := "outright.go:124", after := #[{ on := 1, ground := Go.Ground.data }, { on := 12, ground := Go.Ground.data }], guard := none }) (by kernel_rfl) rfl (fun K hK => ?_)
            go_simp
            refine hK.out _ _ (fun e => absurd (e.symm.trans (by kernel_rfl) : false = true) Bool.false_ne_true) ?_
            clear hK K
            (try simp only [Act.put, List.setIfInBounds_toArray, List.set_cons_zero, List.set_cons_succ])
            refine wpAnyN_of_H (S' := fun _ => True) _ _ _ _ (by kernel_rfl) ?_
            refine wpAnyH_take (i := 14) (oi := { dst := some 18, op := Go.Op.assign (Go.Operand.tmp 202), type := 4, pos := "outright.go:124", after := #[{ on := 13, ground := Go.Ground.data }, { on := 11, ground := Go.Ground.chain }, { on := 0, ground := Go.Ground.phase }, { on := 1, ground := Go.Ground.phase }, { on := 2, ground := Go.Ground.phase }, { on := 3, ground := Go.Ground.phase }, { on := 4, ground := Go.Ground.phase }, { on := 5, ground := Go.Ground.phase }, { on := 6, ground := Go.Ground.phase }, { on := 7, ground := Go.Ground.phase }, { on := 8, ground := Go.Ground.phase }, { on := 9, ground := Go.Ground.phase }, { on := 10, ground := Go.Ground.phase }, { on := 11, ground := Go.Ground.phase }, { on := 12, ground := Go.Ground.phase }, { on := 13, ground := Go.Ground.phase }], guard := none }) (v := .bool true) rfl (by kernel_rfl) (by kernel_rfl) (by kernel_rfl) (fun _ _ _ h => h) (Or.inl ⟨by kernel_rfl, ?_⟩) trivial ?_
            · (intro X hX; go_simp; try (with_reducible rfl))
            (try simp only [Act.put, List.setIfInBounds_toArray, List.set_cons_zero, List.set_cons_succ])
            refine wpAnyH_done (by kernel_rfl) ?_ _
            go_wp2_with fail
            go_roundw
            case rel => exact ⟨k + 1, _, rfl, hlk, by go_num, by rw [HNx.out]; rfl, HY0.out.trans ((Below.refl _ _).drew.mono HY0.out.size)⟩
            case measure => simp [intOf]; omega
          | false =>
            generalize lowB f = sf at *
            generalize lowB x = sx at *
            go_upto_region 42 with fail
            refine wp_region_N 13 (fun X => Below Y.heap.size Y X) (by kernel_rfl) ?_
            refine wpAnyN_take (i := 0) (oi := { dst := some 189, op := Go.Op.move (Go.Operand.tmp 18), type := 4, pos := "outright.go:124", after := #[], guard := none }) (oL := { dst := some 202, op := Go.Op.pick (Go.Operand.tmp 190) (Go.Operand.const (Go.Value.bool true)) (Go.Operand.tmp 201), type := 4, pos := "outright.go:124", after := #[{ on := 1, ground := Go.Ground.data }, { on := 12, ground := Go.Ground.data }], guard := none }) (v := .bool false) rfl rfl (by kernel_rfl) (by kernel_rfl) (by kernel_rfl) (by kernel_rfl) (fun _ _ _ h => h) (Or.inl ⟨by kernel_rfl, ?_⟩) (Below.refl _ _).drew ?_
            · (intro X hX; obtain ⟨y1, y2⟩ := HYk.out X hX <;> (go_simp; try first | (with_reducible rfl) | assumption))
            (try simp only [Act.put, List.setIfInBounds_toArray, List.set_cons_zero, List.set_cons_succ])
            refine wpAnyN_take (i := 1) (oi := { dst := some 190, op := Go.Op.move (Go.Operand.tmp 189), type := 4, pos := "outright.go:124", after := #[{ on := 0, ground := Go.Ground.data }], guard := none }) (oL := { dst := some 202, op := Go.Op.pick (Go.Operand.tmp 190) (Go.Operand.const (Go.Value.bool true)) (Go.Operand.tmp 201), type := 4, pos := "outright.go:124", after := #[{ on := 1, ground := Go.Ground.data }, { on := 12, ground := Go.Ground.data }], guard := none }) (v := .bool false) rfl rfl (by kernel_rfl) (by kernel_rfl) (by kernel_rfl) (by kernel_rfl) (fun _ _ _ h => h) (Or.inl ⟨by kernel_rfl, ?_⟩) (Below.refl _ _).drew ?_
            · (intro X hX; obtain ⟨y1, y2⟩ := HYk.out X hX <;> (go_simp; try first | (with_reducible rfl) | assumption))
            (try simp only [Act.put, List.setIfInBounds_toArray, List.set_cons_zero, List.set_cons_succ])
            refine wpAnyN_take (i := 2) (oi := { dst := some 191, op := Go.Op.move (Go.Operand.tmp 0), type := 22, pos := "outright.go:124", after := #[{ on := 1, ground := Go.Ground.guard }], guard := some (1, false) }) (oL := { dst := some 202, op := Go.Op.pick (Go.Operand.tmp 190) (Go.Operand.const (Go.Value.bool true)) (Go.Operand.tmp 201), type := 4, pos := "outright.go:124", after := #[{ on := 1, ground := Go.Ground.data }, { on := 12, ground := Go.Ground.data }], guard := none }) (v := .slice (some ⟨b1, o1, none⟩) n cap) rfl rfl (by kernel_rfl) (by kernel_rfl) (by kernel_rfl) (by kernel_rfl) (fun _ _ _ h => h) (Or.inl ⟨by kernel_rfl, ?_⟩) (Below.refl _ _).drew ?_
            · (intro X hX; obtain ⟨y1, y2⟩ := HYk.out X hX <;> (go_simp; try first | (with_reducible rfl) | assumption))
            (try simp only [Act.put, List.setIfInBounds_toArray, List.set_cons_zero, List.set_cons_succ])
            refine wpAnyN_take (i := 3) (oi := { dst := some 192, op := Go.Op.move (Go.Operand.tmp 17), type := 3, pos := "outright.go:124", after := #[{ on := 1, ground := Go.Ground.guard }], guard := some (1, false) }) (oL := { dst := some 202, op := Go.Op.pick (Go.Operand.tmp 190) (Go.Operand.const (Go.Value.bool true)) (Go.Operand.tmp 201), type := 4, pos := "outright.go:124", after := #[{ on := 1, ground := Go.Ground.data }, { on := 12, ground := Go.Ground.data }], guard := none }) (v := .int .i64 (i : Int)) rfl rfl (by kernel_rfl) (by kernel_rfl) (by kernel_rfl) (by kernel_rfl) (fun _ _ _ h => h) (Or.inl ⟨by kernel_rfl, ?_⟩) (Below.refl _ _).drew ?_
            · (intro X hX; obtain ⟨y1, y2⟩ := HYk.out X hX <;> (go_simp; try first | (with_reducible rfl) | assumption))
            (try simp only [Act.put, List.setIfInBounds_toArray, List.set_cons_zero, List.set_cons_succ])
            refine wpAnyN_take (i := 4) (oi := { dst := some 193, op := Go.Op.indexAddr 22 (Go.Operand.tmp 191) (Go.Operand.tmp 192), type := 0, pos := "outright.go:124", after := #[{ on := 2, ground := Go.Ground.data }, { on := 3, ground := Go.Ground.data }, { on := 1, ground := Go.Ground.guard }], guard := some (1, false) }) (oL := { dst := some 202, op := Go.Op.pick (Go.Operand.tmp 190) (Go.Operand.const (Go.Value.bool true)) (Go.Operand.tmp 201), type := 4, pos := "outright.go:124", after := #[{ on := 1, ground := Go.Ground.data }, { on := 12, ground := Go.Ground.data }], guard := none }) (v := .pointer (some ⟨b1, o1 + i, none⟩)) rfl rfl (by kernel_rfl) (by kernel_rfl) (by kernel_rfl) (by kernel_rfl) (fun _ _ _ h => h) (Or.inl ⟨by kernel_rfl, ?_⟩) (Below.refl _ _).drew ?_
            · (intro X hX; obtain ⟨y1, y2⟩ := HYk.out X hX <;> (go_simp; try first | (with_reducible rfl) | assumption))
            (try simp only [Act.put, List.setIfInBounds_toArray, List.set_cons_zero, List.set_cons_succ])
            refine wpAnyN_take (i := 5) (oi := { dst := some 194, op := Go.Op.load 9 (Go.Operand.tmp 193), type := 9, pos := "outright.go:124", after := #[{ on := 4, ground := Go.Ground.data }, { on := 1, ground := Go.Ground.guard }], guard := some (1, false) }) (oL := { dst := some 202, op := Go.Op.pick (Go.Operand.tmp 190) (Go.Operand.const (Go.Value.bool true)) (Go.Operand.tmp 201), type := 4, pos := "outright.go:124", after := #[{ on := 1, ground := Go.Ground.data }, { on := 12, ground := Go.Ground.data }], guard := none }) (v := .string f) rfl rfl (by kernel_rfl) (by kernel_rfl) (by kernel_rfl) (by kernel_rfl) (fun _ _ _ h => h) (Or.inl ⟨by kernel_rfl, ?_⟩) (Below.refl _ _).drew ?_
            · (intro X hX; obtain ⟨y1, y2⟩ := HYk.out X hX <;> (go_simp; try first | (with_reducible rfl) | assumption))
            (try simp only [Act.put, List.setIfInBounds_toArray, List.set_cons_zero, List.set_cons_succ])
            refine wpAnyN_take (i := 7) (oi := { dst := some 196, op := Go.Op.move (Go.Operand.tmp 5), type := 22, pos := "outright.go:124", after := #[{ on := 1, ground := Go.Ground.guard }], guard := some (1, false) }) (oL := { dst := some 202, op := Go.Op.pick (Go.Operand.tmp 190) (Go.Operand.const (Go.Value.bool true)) (Go.Operand.tmp 201), type := 4, pos := "outright.go:124", after := #[{ on := 1, ground := Go.Ground.data }, { on := 12, ground := Go.Ground.data }], guard := none }) (v := .slice (some ⟨b2, o2, none⟩) m c2) rfl rfl (by kernel_rfl) (by kernel_rfl) (by kernel_rfl) (by kernel_rfl) (fun _ _ _ h => h) (Or.inl ⟨by kernel_rfl, ?_⟩) (Below.refl _ _).drew ?_
            · (intro X hX; obtain ⟨y1, y2⟩ := HYk.out X hX <;> (go_simp; try first | (with_reducible rfl) | assumption))
            (try simp only [Act.put, List.setIfInBounds_toArray, List.set_cons_zero, List.set_cons_succ])
            refine wpAnyN_take (i := 8) (oi := { dst := some 197, op := Go.Op.move (Go.Operand.tmp 19), type := 3, pos := "outright.go:124", after := #[{ on := 1, ground := Go.Ground.guard }], guard := some (1, false) }) (oL := { dst := some 202, op := Go.Op.pick (Go.Operand.tmp 190) (Go.Operand.const (Go.Value.bool true)) (Go.Operand.tmp 201), type := 4, pos := "outright.go:124", after := #[{ on := 1, ground := Go.Ground.data }, { on := 12, ground := Go.Ground.data }], guard := none }) (v := .int .i64 (k : Int)) rfl rfl (by kernel_rfl) (by kernel_rfl) (by kernel_rfl) (by kernel_rfl) (fun _ _ _ h => h) (Or.inl ⟨by kernel_rfl, ?_⟩) (Below.refl _ _).drew ?_
            · (intro X hX; obtain ⟨y1, y2⟩ := HYk.out X hX <;> (go_simp; try first | (with_reducible rfl) | assumption))
            (try simp only [Act.put, List.setIfInBounds_toArray, List.set_cons_zero, List.set_cons_succ])
            refine wpAnyN_take (i := 9) (oi := { dst := some 198, op := Go.Op.indexAddr 22 (Go.Operand.tmp 196) (Go.Operand.tmp 197), type := 0, pos := "outright.go:124", after := #[{ on := 7, ground := Go.Ground.data }, { on := 8, ground := Go.Ground.data }, { on := 1, ground := Go.Ground.guard }], guard := some (1, false) }) (oL := { dst := some 202, op := Go.Op.pick (Go.Operand.tmp 190) (Go.Operand.const (Go.Value.bool true)) (Go.Operand.tmp 201), type := 4, pos := "outright.go:124", after := #[{ on := 1, ground := Go.Ground.data }, { on := 12, ground := Go.Ground.data }], guard := none }) (v := .pointer (some ⟨b2, o2 + k, none⟩)) rfl rfl (by kernel_rfl) (by kernel_rfl) (by kernel_rfl) (by kernel_rfl) (fun _ _ _ h => h) (Or.inl ⟨by kernel_rfl, ?_⟩) (Below.refl _ _).drew ?_
            · (intro X hX; obtain ⟨y1, y2⟩ := HYk.out X hX <;> (go_simp; try first | (with_reducible rfl) | assumption))
            (try simp only [Act.put, List.setIfInBounds_toArray, List.set_cons_zero, List.set_cons_succ])
            refine wpAnyN_take (i := 10) (oi := { dst := some 199, op := Go.Op.load 9 (Go.Operand.tmp 198), type := 9, pos := "outright.go:124", after := #[{ on := 9, ground := Go.Ground.data }, { on := 1, ground := Go.Ground.guard }], guard := some (1, false) }) (oL := { dst := some 202, op := Go.Op.pick (Go.Operand.tmp 190) (Go.Operand.const (Go.Value.bool true)) (Go.Operand.tmp 201), type := 4, pos := "outright.go:124", after := #[{ on := 1, ground := Go.Ground.data }, { on := 12, ground := Go.Ground.data }], guard := none }) (v := .string x) rfl rfl (by kernel_rfl) (by kernel_rfl) (by kernel_rfl) (by kernel_rfl) (fun _ _ _ h => h) (Or.inl ⟨by kernel_rfl, ?_⟩) (Below.refl _ _).drew ?_
            · (intro X hX; obtain ⟨y1, y2⟩ := HYk.out X hX <;> (go_simp; try first | (with_reducible rfl) | assumption))
            (try simp only [Act.put, List.setIfInBounds_toArray, List.set_cons_zero, List.set_cons_succ])
            refine wpAnyN_one (i := 6) (o := { dst := some 195, op := Go.Op.call { callee := Go.Callee.value (Go.Operand.func 9), args := #[Go.Operand.tmp 194], argTypes := #[9] }, type := 9, pos := "outright.go:124", after := #[{ on := 5, ground := Go.Ground.data }, { on := 1, ground := Go.Ground.chain }, { on := 1, ground := Go.Ground.guard }], guard := some (1, false) }) (by kernel_rfl) rfl (fun K hK => ?_)
            go_simp
            refine (HL1.out _).mono ?_
            rintro e w7 ⟨rfl, hb7⟩
            have HB7 := Lib.hid ((Below.refl _ _).drew.trans hb7)
            clear hb7
            refine hK.out _ _ (fun _ => HB7.out) ?_
            clear hK K
            (try simp only [Act.put, List.setIfInBounds_toArray, List.set_cons_zero, List.set_cons_succ])
            refine wpAnyN_one (i := 11) (o := { dst := some 200, op := Go.Op.call { callee := Go.Callee.value (Go.Operand.func 9), args := #[Go.Operand.tmp 199], argTypes := #[9] }, type := 9, pos := "outright.go:124", after := #[{ on := 10, ground := Go.Ground.data }, { on := 6, ground := Go.Ground.chain }, { on := 1, ground := Go.Ground.guard }], guard := some (1, false) }) (by kernel_rfl) rfl (fun K hK => ?_)
            go_simp
            refine (HL2.out _).mono ?_
            rintro e w8 ⟨rfl, hb8⟩
            have HB8 := Lib.hid (HB7.out.trans (hb8.mono HB7.out.size))
            clear hb8
            refine hK.out _ _ (fun _ => HB8.out) ?_
            clear hK K
            (try simp only [Act.put, List.setIfInBounds_toArray, List.set_cons_zero, List.set_cons_succ])
            refine wpAnyN_take (i := 12) (oi := { dst := some 201, op := Go.Op.binOp Go.BinOp.eql 9 (Go.Operand.tmp 195) (Go.Operand.tmp 200) 9, type := 4, pos := "outright.go:124", after := #[{ on := 6, ground := Go.Ground.data }, { on := 11, ground := Go.Ground.data }, { on := 1, ground := Go.Ground.guard }], guard := some (1, false) }) (oL := { dst := some 202, op := Go.Op.pick (Go.Operand.tmp 190) (Go.Operand.const (Go.Value.bool true)) (Go.Operand.tmp 201), type := 4, pos := "outright.go:124", after := #[{ on := 1, ground := Go.Ground.data }, { on := 12, ground := Go.Ground.data }], guard := none }) (v := .bool eq) rfl rfl (by kernel_rfl) (by kernel_rfl) (by kernel_rfl) (by kernel_rfl) (fun _ _ _ h => h) (Or.inl ⟨by kernel_rfl, ?_⟩) HB8.out ?_
            · (intro X hX; obtain ⟨y1, y2⟩ := HYk.out X hX <;> (go_simp; try first | (with_reducible rfl) | assumption))
            (try simp only [Act.put, List.setIfInBounds_toArray, List.set_cons_zero, List.set_cons_succ])
            refine wpAnyN_one (i := 13) (o := { dst := some 202, op := Go.Op.pick (Go.Operand.tmp 190) (Go.Operand.const (Go.Value.bool true)) (Go.Operand.tmp 201), type := 4, pos := "outright.go:124", after := #[{ on := 1, ground := Go.Ground.data }, { on := 12, ground := Go.Ground.data }], guard := none }) (by kernel_rfl) rfl (fun K hK => ?_)
            go_simp
            refine hK.out _ _ (fun e => absurd (e.symm.trans (by kernel_rfl) : false = true) Bool.false_ne_true) ?_
            clear hK K
            (try simp only [Act.put, List.setIfInBounds_toArray, List.set_cons_zero, List.set_cons_succ])
            refine wpAnyN_of_H (S' := fun _ => True) _ _ _ _ (by kernel_rfl) ?_
            refine wpAnyH_take (i := 14) (oi := { dst := some 18, op := Go.Op.assign (Go.Operand.tmp 202), type := 4, pos := "outright.go:124", after := #[{ on := 13, ground := Go.Ground.data }, { on := 11, ground := Go.Ground.chain }, { on := 0, ground := Go.Ground.phase }, { on := 1, ground := Go.Ground.phase }, { on := 2, ground := Go.Ground.phase }, { on := 3, ground := Go.Ground.phase }, { on := 4, ground := Go.Ground.phase }, { on := 5, ground := Go.Ground.phase }, { on := 6, ground := Go.Ground.phase }, { on := 7, ground := Go.Ground.phase }, { on := 8, ground := Go.Ground.phase }, { on := 9, ground := Go.Ground.phase }, { on := 10, ground := Go.Ground.phase }, { on := 11, ground := Go.Ground.phase }, { on := 12, ground := Go.Ground.phase }, { on := 13, ground := Go.Ground.phase }], guard := none }) (v := .bool eq) rfl (by kernel_rfl) (by kernel_rfl) (by kernel_rfl) (fun _ _ _ h => h) (Or.inl ⟨by kernel_rfl, ?_⟩) trivial ?_
            · (intro X hX; go_simp; try (with_reducible rfl))
            (try simp only [Act.put, List.setIfInBounds_toArray, List.set_cons_zero, List.set_cons_succ])
            refine wpAnyH_done (by kernel_rfl) ?_ _
            go_wp2_with fail
            go_roundw
            case rel => exact ⟨k + 1, _, rfl, hlk, by go_num, by rw [HNx.out]; rfl, HY0.out.trans (HB8.out.mono HY0.out.size)⟩
            case measure => simp [intOf]; omega
        · have hk1 : ¬ (k : Int) < (m : Int) := by omega
          have hkt : fs.take k = fs := List.take_of_length_le (by rw [HM.out]; omega)
          rw [hkt, HAny.out]
          have yf := HTail.out Y HYW.out
          have HOY := Lib.hid (HO.out.on hb)
          clear hb hkt
          go_wp2_with (first | (go_at_call 9; refine (HLf.out _).mono ?_; rintro e w9 ⟨rfl, hb9⟩; have HO9 := Lib.hid (HOY.out.on hb9); clear hb9) | (at_builtin; refine appT rfl _ _ rfl (lowB f) HO9.out rfl _ rfl rfl (by rw [HLm.out]; omega) ?_; intro v10 w10 ho10; rw [← HNext.out] at ho10; have HO10 := Lib.hid ho10; clear ho10))
          go_roundw
          case rel => exact ⟨i + 1, _, rfl, hlt, by go_num, HO10.out⟩
          case measure => simp [intOf]; omega
    · have hi1 : ¬ (i : Int) < (n : Int) := by omega
      have hit : ss.take i = ss := List.take_of_length_le (by rw [HN.out]; omega)
      rw [hit] at HO HLm
      have HSm : Hid (Strs X (.slice am ni cm) (ss ++ ss.map lowB)) := Lib.hid (HO.out.strs (by rw [HLm.out]; omega))
      have HZo : Hid (∀ f, f ∈ ss ++ ss.map lowB → f.size ≤ 140737488355328) := Lib.hid (fun f hf => by
        rcases List.mem_append.1 hf with hf | hf
        · exact HZ.out f hf
        · obtain ⟨g, hg, rfl⟩ := List.mem_map.1 hf
          have := HZ.out g hg
          rw [low_size]
          exact this)
      have HBX := Lib.hid (HB.out.trans (HO.out.below.mono HB.out.size))
      have HSaX := Lib.hid (HSa.out.on HO.out.below)
      have HFl : Hid (∀ W, Below w.heap.size w W → Strs W (.slice am ni cm) (ss ++ ss.map lowB) → Calls Tryz.prog 7 #[.slice am ni cm] W fun e w' => ∃ a c, e = .returned (.tuple #[.slice a m c, .int .i64 0]) ∧ Strs w' (.slice a m c) fs ∧ Below W.heap.size W w') := Lib.hid (fun W hW hS => by
        refine (Flags_any _ _ W (HE.out.go hW).f hS (szM HZo.out)).mono ?_
        rintro e w' ⟨vo, rfl, ho⟩
        rw [HF.out.2] at ho
        rw [HF.out.1]
        obtain ⟨a, c, rfl⟩ := ho.shape
        rw [HM.out] at ho ⊢
        exact ⟨a, c, rfl, by have := ho.strs (by rw [HM.out]; omega); exact this, ho.below⟩)
      clear hit HC1 HC2 HO HLow HZo HF
      by_cases hs1 : m < n
      · have hsi : (m : Int) < (n : Int) := by omega
        go_wp2_with (first | (go_at_call 7; refine (HFl.out _ HBX.out HSm.out).mono ?_; rintro e w7 ⟨a7, c7, rfl, hs7, hb7⟩; have HB7 := Lib.hid (HBX.out.trans (hb7.mono HBX.out.size)); have HS7 := Lib.hid hs7; have HSa7 := Lib.hid (HSaX.out.on hb7); clear hb7 hs7) | (go_at_call 8; refine (texts_eq HS7.out HSa7.out (by rw [HM.out]; omega)).mono ?_; rintro e w8 ⟨rfl, hb8⟩; have HB8 := Lib.hid (HB7.out.trans (hb8.mono HB7.out.size)); have HSa8 := Lib.hid (HSa7.out.on hb8); clear hb8))
        go_ret
        exact ⟨rfl, HB8.out⟩
      by_cases hs2 : n < 2
      · have hsi : ¬ (m : Int) < (n : Int) := by omega
        have hsi2 : (n : Int) < 2 := by omega
        go_wp2_with (first | (go_at_call 7; refine (HFl.out _ HBX.out HSm.out).mono ?_; rintro e w7 ⟨a7, c7, rfl, hs7, hb7⟩; have HB7 := Lib.hid (HBX.out.trans (hb7.mono HBX.out.size)); have HS7 := Lib.hid hs7; have HSa7 := Lib.hid (HSaX.out.on hb7); clear hb7 hs7) | (go_at_call 8; refine (texts_eq HS7.out HSa7.out (by rw [HM.out]; omega)).mono ?_; rintro e w8 ⟨rfl, hb8⟩; have HB8 := Lib.hid (HB7.out.trans (hb8.mono HB7.out.size)); have HSa8 := Lib.hid (HSa7.out.on hb8); clear hb8))
        go_ret
        exact ⟨rfl, HB8.out⟩
      have hsi : ¬ (m : Int) < (n : Int) := by omega
      have hsi2 : ¬ (n : Int) < 2 := by omega
      have hsz : ¬ (n : Int) = 0 := by omega
      obtain ⟨b1, o1, ha1⟩ : ∃ b off, ao = some ⟨b, off, none⟩ := by
        obtain ⟨ao', cap', e, hc⟩ := HS1.out.cells
        cases e
        obtain ⟨b, off, h1, _, _⟩ := hc 0 (by rw [HN.out]; omega)
        exact ⟨b, off, h1⟩
      subst ha1
      by_cases hneg : sw < 0
      · have hwr : IntKind.i64.wrap (sw + 1) = sw + 1 := by simp only [IntKind.wrap, IntKind.signed, IntKind.bits]; simp; omega
        have hwr2 : IntKind.i64.wrap (-(sw + 1)) = -(sw + 1) := by simp only [IntKind.wrap, IntKind.signed, IntKind.bits]; simp; omega
        obtain ⟨k, hkn, hk⟩ := spot_of (-(sw + 1)) n (by omega) (by omega)
        have hwk : IntKind.i64.wrap (k : Int) = (k : Int) := by simp only [IntKind.wrap, IntKind.signed, IntKind.bits]; simp; omega
        rw [Int.neg_tmod] at hk
        go_upto_region 54 with (first | (go_at_call 7; refine (HFl.out _ HBX.out HSm.out).mono ?_; rintro e w7 ⟨a7, c7, rfl, hs7, hb7⟩; have HB7 := Lib.hid (HBX.out.trans (hb7.mono HBX.out.size)); have HS7 := Lib.hid hs7; have HSa7 := Lib.hid (HSaX.out.on hb7); clear hb7 hs7) | (go_at_call 8; refine (texts_eq HS7.out HSa7.out (by rw [HM.out]; omega)).mono ?_; rintro e w8 ⟨rfl, hb8⟩; have HB8 := Lib.hid (HB7.out.trans (hb8.mono HB7.out.size)); have HSa8 := Lib.hid (HSa7.out.on hb8); clear hb8))
        rename_i hK54
        exact formed_turn ss fs b1 o1 cap a2 c2 n m w w8 HE HB8 HS1 HSa8 HN HM hl8 (by omega) (by omega) hm13 hcap HZ HFs HKeys k hkn _ _ _ _ _ _ _ _ _ _ _ _ _ _ _ _ _ _ _ _ _ _ _ _ _ _ _ _ _ _ _ _ _ _ _ _ _ _ _ _ _ _ _ _ _ _ _ _ _ _ _ _ _ _ _ _ _ _ _ _ _ _ _ _ _ _ _ _ _ _ _ _ _ _ _ _ _ _ _ _ _ _ _ _ _ _ _ _ _ _ _ _ _ _ _ _ _ _ _ _ _ _ _ _ _ _ _ _ _ _ _ _ _ _ _ _ _ _ _ _ _ _ _ _ _ _ _ _ _ _ _ _ _ _ _ _ _ _ _ _ _ _ _ _ _ _ _ _ _ _ _ _ _ _ _ _ _ _ _ _ _ _ _ _ _ _ _ _ _ _ _ _ _ _ _ _ _ _ _ _ _ _ _ _ _ _ _ _ _ _ _ _ _ _ _ _ _ _ _ _ _ _ _ _ _ _ _ _ _ _ _ _ _ _ _ _ _ _ _ _ _ _ _ _ _ _ _ _ _ _ _ _ _ _ _ _ _ _ _ _ _ _ _ _ _ _ _ _ _ _ _ _ _ _ _ _ _ _ _ _ _ _ _ _ _ (fun a w1 h => hK54 a w1 h)
      · have hge : 0 ≤ sw := by omega
        obtain ⟨k, hkn, hk⟩ := spot_of sw n (by omega) hge
        have hwk : IntKind.i64.wrap (k : Int) = (k : Int) := by simp only [IntKind.wrap, IntKind.signed, IntKind.bits]; simp; omega
        go_upto_region 54 with (first | (go_at_call 7; refine (HFl.out _ HBX.out HSm.out).mono ?_; rintro e w7 ⟨a7, c7, rfl, hs7, hb7⟩; have HB7 := Lib.hid (HBX.out.trans (hb7.mono HBX.out.size)); have HS7 := Lib.hid hs7; have HSa7 := Lib.hid (HSaX.out.on hb7); clear hb7 hs7) | (go_at_call 8; refine (texts_eq HS7.out HSa7.out (by rw [HM.out]; omega)).mono ?_; rintro e w8 ⟨rfl, hb8⟩; have HB8 := Lib.hid (HB7.out.trans (hb8.mono HB7.out.size)); have HSa8 := Lib.hid (HSa7.out.on hb8); clear hb8))
        rename_i hK54
        exact formed_turn ss fs b1 o1 cap a2 c2 n m w w8 HE HB8 HS1 HSa8 HN HM hl8 (by omega) (by omega) hm13 hcap HZ HFs HKeys k hkn _ _ _ _ _ _ _ _ _ _ _ _ _ _ _ _ _ _ _ _ _ _ _ _ _ _ _ _ _ _ _ _ _ _ _ _ _ _ _ _ _ _ _ _ _ _ _ _ _ _ _ _ _ _ _ _ _ _ _ _ _ _ _ _ _ _ _ _ _ _ _ _ _ _ _ _ _ _ _ _ _ _ _ _ _ _ _ _ _ _ _ _ _ _ _ _ _ _ _ _ _ _ _ _ _ _ _ _ _ _ _ _ _ _ _ _ _ _ _ _ _ _ _ _ _ _ _ _ _ _ _ _ _ _ _ _ _ _ _ _ _ _ _ _ _ _ _ _ _ _ _ _ _ _ _ _ _ _ _ _ _ _ _ _ _ _ _ _ _ _ _ _ _ _ _ _ _ _ _ _ _ _ _ _ _ _ _ _ _ _ _ _ _ _ _ _ _ _ _ _ _ _ _ _ _ _ _ _ _ _ _ _ _ _ _ _ _ _ _ _ _ _ _ _ _ _ _ _ _ _ _ _ _ _ _ _ _ _ _ _ _ _ _ _ _ _ _ _ _ _ _ _ _ _ _ _ _ _ _ _ _ _ _ _ _ (fun a w1 h => hK54 a w1 h)
end Go.Proofs.YtbncaiocmklgnaaGreatDoor
