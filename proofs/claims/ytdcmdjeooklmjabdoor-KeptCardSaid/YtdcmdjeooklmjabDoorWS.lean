/-
  OC in one text.
-/
import Derived.Test.YtdcmdjeooklmjabDoorWK
set_option linter.unusedVariables false
set_option linter.unusedSimpArgs false
/-
  Walks: a round of the law Kept (made by gen_OK2.py).
-/
namespace Go.Proofs.YtdcmdjeooklmjabDoor
open Go.RowKit Go.PageMap Go.Maps
set_option maxRecDepth 100000
set_option maxHeartbeats 40000000 in
theorem kept_round2 (addr v fill : Int) (w wr : World) (b : Nat) (q : Int) (C : Array Value) (u6 u12 u13 u14 u15 u16 u17 u18 u19 u20 u21 u22 u23 u24 u36 u37 u38 u39 u40 u41 u42 u43 u44 u45 u46 u47 u48 u49 u50 u51 u52 u53 u54 u55 u56 u57 u58 u59 u60 u61 u62 u63 u64 u65 u66 u67 u68 u69 u70 u71 u72 u73 u74 u75 u76 u77 u78 u79 u80 u81 u82 u83 u84 u85 u86 u87 u88 u89 u90 u91 u92 u93 u94 u95 u96 u97 u98 u99 u100 u101 u102 u103 u104 u105 u106 u107 u108 u109 u110 u111 u112 u113 u114 u115 u116 u117 u118 u119 u120 u121 u122 u123 u124 u125 u126 u127 u128 u129 u130 u131 u132 u133 u134 u135 u136 u137 u138 u139 u140 u141 u142 u143 u144 u145 u146 u147 u148 u149 u150 u151 u152 u153 u154 u155 u156 u157 u158 u159 u160 u161 u162 u163 u164 u165 u166 u167 u168 u169 u170 u171 u172 u173 u174 u175 u176 u177 u178 u179 u180 u181 u182 u183 u184 u185 u186 u187 u188 u189 u190 u191 u192 u193 u194 u195 u196 u197 u198 u199 u200 u201 u202 : Value) (KK K1 : Act → World → Prop) (HT : Hid (Tabs w)) (a0 : 0 ≤ addr) (a1 : addr < 4294967296) (v0 : 0 ≤ v) (v1 : v < 4294967296) (f0 : 0 ≤ fill) (f1 : fill < 256)
    (hrel : Hid (KW w q addr v b wr))
    (HKK : Hid (∀ (u6 u12 u13 u14 u15 u16 u17 u18 u19 u20 u21 u22 u23 u24 u36 u37 u38 u39 u40 u41 u42 u43 u44 u45 u46 u47 u48 u49 u50 u51 u52 u53 u54 u55 u56 u57 u58 u59 u60 u61 u62 u63 u64 u65 u66 u67 u68 u69 u70 u71 u72 u73 u74 u75 u76 u77 u78 u79 u80 u81 u82 u83 u84 u85 u86 u87 u88 u89 u90 u91 u92 u93 u94 u95 u96 u97 u98 u99 u100 u101 u102 u103 u104 u105 u106 u107 u108 u109 u110 u111 u112 u113 u114 u115 u116 u117 u118 u119 u120 u121 u122 u123 u124 u125 u126 u127 u128 u129 u130 u131 u132 u133 u134 u135 u136 u137 u138 u139 u140 u141 u142 u143 u144 u145 u146 u147 u148 u149 u150 u151 u152 u153 u154 u155 u156 u157 u158 u159 u160 u161 u162 u163 u164 u165 u166 u167 u168 u169 u170 u171 u172 u173 u174 u175 u176 u177 u178 u179 u180 u181 u182 u183 u184 u185 u186 u187 u188 u189 u190 u191 u192 u193 u194 u195 u196 u197 u198 u199 u200 u201 u202 : Value) (w' : World) (q' : Int), KW w q' addr v b w' → KK ⟨#[.int .u32 addr, .int .u32 v, .int .u8 fill, undef, undef, undef, u6, .pointer (some ⟨b, 0, none⟩), .slice (some ⟨b + 1, 0, none⟩) 3 3, .slice (some ⟨b + 1 + 1, 0, none⟩) 3 3, .int .u32 ((addr - 64) % 4294967296), .int .i64 3, u12, u13, u14, u15, u16, u17, u18, u19, u20, u21, u22, u23, u24, .agg C, .int .u32 addr, .pointer (some ⟨b, 3, none⟩), .pointer (some ⟨b, 4, none⟩), .int .u32 v, .pointer (some ⟨b, 3, none⟩), .pointer (some ⟨b, 5, none⟩), .slice (some ⟨b + 1, 0, none⟩) 3 3, .slice (some ⟨b + 1 + 1, 0, none⟩) 3 3, .int .u32 addr, .int .u32 ((addr - 64) % 4294967296), u36, u37, u38, u39, u40, u41, u42, u43, u44, u45, u46, u47, u48, u49, u50, u51, u52, u53, u54, u55, u56, u57, u58, u59, u60, u61, u62, u63, u64, u65, u66, u67, u68, u69, u70, u71, u72, u73, u74, u75, u76, u77, u78, u79, u80, u81, u82, u83, u84, u85, u86, u87, u88, u89, u90, u91, u92, u93, u94, u95, u96, u97, u98, u99, u100, u101, u102, u103, u104, u105, u106, u107, u108, u109, u110, u111, u112, u113, u114, u115, u116, u117, u118, u119, u120, u121, u122, u123, u124, u125, u126, u127, u128, u129, u130, u131, u132, u133, u134, u135, u136, u137, u138, u139, u140, u141, u142, u143, u144, u145, u146, u147, u148, u149, u150, u151, u152, u153, u154, u155, u156, u157, u158, u159, u160, u161, u162, u163, u164, u165, u166, u167, u168, u169, u170, u171, u172, u173, u174, u175, u176, u177, u178, u179, u180, u181, u182, u183, u184, u185, u186, u187, u188, u189, u190, u191, u192, u193, u194, u195, u196, u197, u198, u199, u200, u201, u202], []⟩ w')) :
    Code.wp Tryd.prog ((Tryd.f4.body.bind firstLoop).getD .skip) (Exit.then KK (Exit.inBlock 0 (Exit.then K1 (bodyPost Tryd.prog Tryd.f4 fun e w' => e = Ending.returned (Value.bool true) ∧ Below w.heap.size w w')))) ⟨#[.int .u32 addr, .int .u32 v, .int .u8 fill, undef, undef, undef, u6, .pointer (some ⟨b, 0, none⟩), .slice (some ⟨b + 1, 0, none⟩) 3 3, .slice (some ⟨b + 1 + 1, 0, none⟩) 3 3, .int .u32 ((addr - 64) % 4294967296), .int .i64 2, u12, u13, u14, u15, u16, u17, u18, u19, u20, u21, u22, u23, u24, .agg C, .int .u32 addr, .pointer (some ⟨b, 3, none⟩), .pointer (some ⟨b, 4, none⟩), .int .u32 v, .pointer (some ⟨b, 3, none⟩), .pointer (some ⟨b, 5, none⟩), .slice (some ⟨b + 1, 0, none⟩) 3 3, .slice (some ⟨b + 1 + 1, 0, none⟩) 3 3, .int .u32 addr, .int .u32 ((addr - 64) % 4294967296), u36, u37, u38, u39, u40, u41, u42, u43, u44, u45, u46, u47, u48, u49, u50, u51, u52, u53, u54, u55, u56, u57, u58, u59, u60, u61, u62, u63, u64, u65, u66, u67, u68, u69, u70, u71, u72, u73, u74, u75, u76, u77, u78, u79, u80, u81, u82, u83, u84, u85, u86, u87, u88, u89, u90, u91, u92, u93, u94, u95, u96, u97, u98, u99, u100, u101, u102, u103, u104, u105, u106, u107, u108, u109, u110, u111, u112, u113, u114, u115, u116, u117, u118, u119, u120, u121, u122, u123, u124, u125, u126, u127, u128, u129, u130, u131, u132, u133, u134, u135, u136, u137, u138, u139, u140, u141, u142, u143, u144, u145, u146, u147, u148, u149, u150, u151, u152, u153, u154, u155, u156, u157, u158, u159, u160, u161, u162, u163, u164, u165, u166, u167, u168, u169, u170, u171, u172, u173, u174, u175, u176, u177, u178, u179, u180, u181, u182, u183, u184, u185, u186, u187, u188, u189, u190, u191, u192, u193, u194, u195, u196, u197, u198, u199, u200, u201, u202], []⟩ wr := by
  conv => arg 2; whnf
  have HO : Hid (KeptOk addr v (keptPc addr) 16 1 (Hm.encC 16 0 1 2 0) (Hm.encC 13 3 1 0 0) (Hm.encC 11 4 1 0 0)) := kept_ok addr v 2 1 (by decide) a0 a1 v0 v1
  have E1 : Hid (EncI 16 0 1 2 0 (Hm.encC 16 0 1 2 0)) := encI (by kernel_rfl)
  have E2 : Hid (EncI 13 3 1 0 0 (Hm.encC 13 3 1 0 0)) := encI (by kernel_rfl)
  have E3 : Hid (EncI 11 4 1 0 0 (Hm.encC 11 4 1 0 0)) := encI (by kernel_rfl)
  generalize Hm.encC 16 0 1 2 0 = X at *
  generalize Hm.encC 13 3 1 0 0 = Y at *
  generalize Hm.encC 11 4 1 0 0 = Z at *
  have c0 := hrel.out.c0
  have fz0 := hrel.out.f0
  go_wp2_with (with_reducible refine' stop_load (t := 30) ?_)
  refine go_on ?_
  have HK1 : Hid (KW w (keptPc addr) addr v b (wr.setCell ⟨b, 0, none⟩ (.int .u32 (keptPc addr)))) := hrel.out.set _
  have HPC : Hid (0 ≤ keptPc addr ∧ keptPc addr < 4294967296 ∧ keptPc addr % 2 = 0) := ⟨HO.out.p0, HO.out.p1, HO.out.even⟩
  have HNEW : Hid (∀ W, KW w (keptPc addr) addr v b W → Calls Tryd.prog 7 #[.agg (cfgCells (keptPc addr) 16 false (aloneR addr v))] W fun e w' => ∃ p, e = .returned (.tuple #[.pointer (some ⟨p, 0, none⟩), .int .i64 0]) ∧ KH w (keptPc addr) addr v b p (newMc (keptPc addr) 16 false (aloneR addr v)) w') := fun W hW => kh_New hW HT.out HPC.out.2.2 HPC.out.1
  have hpc : (addr - 64) % 4294967296 - (addr - 64) % 2 = keptPc addr := rfl
  rw [hpc]
  clear hpc
  generalize wr.setCell ⟨b, 0, none⟩ (.int .u32 (keptPc addr)) = W1 at *
  generalize keptPc addr = q1 at *
  have hblk := HK1.out.c
  have hK0 : (cfgCells q1 16 false (aloneR addr v)).size = 35 := by kernel_rfl
  generalize cfgCells q1 16 false (aloneR addr v) = K at *
  refine wpList_load_row rfl _ _ rfl b rfl 30 K (0, 0) _ hblk Tryd.underlying30 rfl (by rw [hK0]; kernel_rfl) ?_
  clear hblk hK0 c0 fz0
  go_wp2_with (go_at_call 7; refine (HNEW.out W1 HK1.out).mono ?_; rintro e w5 ⟨p, rfl, hA5⟩; have H5 : Hid (KH w q1 addr v b p (newMc q1 16 false (aloneR addr v)) w5) := hA5; have o5 : w5.cell? ⟨b + 1, 2, none⟩ = some (.int .i64 16) := hA5.kw.oc 2 (by decide); clear hA5)
  refine (E1.out w5 (HT.out.below H5.out.kw.below (Nat.le_refl _)).tab).mono ?_
  rintro e w6 ⟨rfl, hb6⟩
  have H6 : Hid (KH w q1 addr v b p (newMc q1 16 false (aloneR addr v)) w6) := H5.out.go hb6
  clear hb6 H5 o5
  go_wp2_with fail
  refine (E2.out w6 (HT.out.below H6.out.kw.below (Nat.le_refl _)).tab).mono ?_
  rintro e w7 ⟨rfl, hb7⟩
  have H7 : Hid (KH w q1 addr v b p (newMc q1 16 false (aloneR addr v)) w7) := H6.out.go hb7
  have s7 : w7.cell? ⟨b + 1 + 1, 2, none⟩ = some (.int .i64 1) := H7.out.kw.sc2
  clear hb7 H6
  go_wp2_with fail
  refine (E3.out w7 (HT.out.below H7.out.kw.below (Nat.le_refl _)).tab).mono ?_
  rintro e w8 ⟨rfl, hb8⟩
  have H8 : Hid (KH w q1 addr v b p (newMc q1 16 false (aloneR addr v)) w8) := H7.out.go hb8
  clear hb8 H7 s7
  have c8 := H8.out.kw.c0
  have LX : Hid (∀ W, Calls Tryd.prog 10 #[.int .u32 X] W fun e w' => e = .returned (.string ⟨(leB X).toArray⟩) ∧ Below W.heap.size W w') := fun W => little_any W X HO.out.x.x0 HO.out.x.x1
  have LY : Hid (∀ W, Calls Tryd.prog 10 #[.int .u32 Y] W fun e w' => e = .returned (.string ⟨(leB Y).toArray⟩) ∧ Below W.heap.size W w') := fun W => little_any W Y HO.out.y.x0 HO.out.y.x1
  have LZ : Hid (∀ W, Calls Tryd.prog 10 #[.int .u32 Z] W fun e w' => e = .returned (.string ⟨(leB Z).toArray⟩) ∧ Below W.heap.size W w') := fun W => little_any W Z HO.out.z.x0 HO.out.z.x1
  obtain ⟨M1, hM1⟩ : ∃ M1 : Mc, M1 = { newMc q1 16 false (aloneR addr v) with mem := wrL (fun _ => 0) q1 (leB X ++ leB Y ++ leB Z), par := [], ahead := q1 } := ⟨_, rfl⟩
  have HM1 : Hid (M1 = { newMc q1 16 false (aloneR addr v) with mem := wrL (fun _ => 0) q1 (leB X ++ leB Y ++ leB Z), par := [], ahead := q1 }) := hM1
  clear hM1
  have HPK : Hid (∀ W, KH w q1 addr v b p (newMc q1 16 false (aloneR addr v)) W → Calls Tryd.prog 9 #[.pointer (some ⟨p, 0, none⟩), .int .u32 q1, .string ((⟨(leB X).toArray⟩ : ByteArray) ++ ⟨(leB Y).toArray⟩ ++ ⟨(leB Z).toArray⟩)] W fun e w' => e = .returned (.tuple #[]) ∧ KH w q1 addr v b p M1 w') := fun W hW => by
    rw [bytes_append, bytes_append, HM1.out]
    exact kh_Poke q1 _ hW HT.out HPC.out.1 HPC.out.2.1
  go_upto_region 19 with fail
  have HD8 : Hid (KH w q1 addr v b p (newMc q1 16 false (aloneR addr v)) w8.drew) := H8.out.go (Below.refl _ _).drew
  refine wp_region_held_drew (S := fun W => KW w q1 addr v b W) (by kernel_rfl) HD8.out.kw (fun hHeld => ?_)
  generalize w8.drew = w80 at *
  clear H8 c8
  refine' takeH_0 _ (by kernel_rfl) (by kernel_rfl) (by kernel_rfl) (fun _ _ _ h => h) (by rfl) ?zy1 hHeld ?zr1
  case zy1 => (intro w' hSw; clear hSw; go_simp; try with_reducible rfl)
  (try simp only [Act.put, List.setIfInBounds_toArray, List.set_cons_zero, List.set_cons_succ])
  refine' takeH_1 _ (by kernel_rfl) (by kernel_rfl) (by kernel_rfl) (fun _ _ _ h => h) (by rfl) ?zy2 hHeld ?zr2
  case zy2 => (intro w' hSw; clear hSw; go_simp; try with_reducible rfl)
  (try simp only [Act.put, List.setIfInBounds_toArray, List.set_cons_zero, List.set_cons_succ])
  refine' takeH_2 _ (by kernel_rfl) (by kernel_rfl) (by kernel_rfl) (fun _ _ _ h => h) (by rfl) ?zy3 hHeld ?zr3
  case zy3 => (intro w' hSw; have c0 := KW.c0 hSw; clear hSw; go_simp; try with_reducible rfl)
  (try simp only [Act.put, List.setIfInBounds_toArray, List.set_cons_zero, List.set_cons_succ])
  refine' takeH_3 _ (by kernel_rfl) (by kernel_rfl) (by kernel_rfl) (fun _ _ _ h => h) (by rfl) ?zy4 hHeld ?zr4
  case zy4 => (intro w' hSw; clear hSw; go_simp; try with_reducible rfl)
  (try simp only [Act.put, List.setIfInBounds_toArray, List.set_cons_zero, List.set_cons_succ])
  refine' takeH_5 _ (by kernel_rfl) (by kernel_rfl) (by kernel_rfl) (fun _ _ _ h => h) (by rfl) ?zy5 hHeld ?zr5
  case zy5 => (intro w' hSw; clear hSw; go_simp; try with_reducible rfl)
  (try simp only [Act.put, List.setIfInBounds_toArray, List.set_cons_zero, List.set_cons_succ])
  refine' takeH_8 _ (by kernel_rfl) (by kernel_rfl) (by kernel_rfl) (fun _ _ _ h => h) (by rfl) ?zy6 hHeld ?zr6
  case zy6 => (intro w' hSw; clear hSw; go_simp; try with_reducible rfl)
  (try simp only [Act.put, List.setIfInBounds_toArray, List.set_cons_zero, List.set_cons_succ])
  refine runH_4 (by kernel_rfl) (fun K hK => ?_)
  go_simp
  go_at_call 10
  refine Calls.mono (LX.out w80) ?_
  rintro e w9 ⟨rfl, hb9⟩
  have H9 : Hid (KH w q1 addr v b p (newMc q1 16 false (aloneR addr v)) w9) := HD8.out.go hb9
  clear hb9
  go_wp2_with fail
  refine hK.out _ _ H9.out.kw (fun hHeld2 => ?_)
  clear hK K hHeld
  have hHeld := hHeld2
  clear hHeld2
  (try simp only [Act.put, List.setIfInBounds_toArray, List.set_cons_zero, List.set_cons_succ])
  refine runH_6 (by kernel_rfl) (fun K hK => ?_)
  go_simp
  go_at_call 10
  refine Calls.mono (LY.out w9) ?_
  rintro e w10 ⟨rfl, hb10⟩
  have H10 : Hid (KH w q1 addr v b p (newMc q1 16 false (aloneR addr v)) w10) := H9.out.go hb10
  clear hb10
  go_wp2_with fail
  refine hK.out _ _ H10.out.kw (fun hHeld2 => ?_)
  clear hK K hHeld
  have hHeld := hHeld2
  clear hHeld2
  (try simp only [Act.put, List.setIfInBounds_toArray, List.set_cons_zero, List.set_cons_succ])
  refine' takeH_7 (.string ((⟨(leB X).toArray⟩ : ByteArray) ++ ⟨(leB Y).toArray⟩)) (by kernel_rfl) (by kernel_rfl) (by kernel_rfl) (fun _ _ _ h => h) (by rfl) ?zy7 hHeld ?zr7
  case zy7 => (intro w' hSw; clear hSw; go_simp; simp only [leB_len]; decide)
  (try simp only [Act.put, List.setIfInBounds_toArray, List.set_cons_zero, List.set_cons_succ])
  refine runH_9 (by kernel_rfl) (fun K hK => ?_)
  go_simp
  go_at_call 10
  refine Calls.mono (LZ.out w10) ?_
  rintro e w11 ⟨rfl, hb11⟩
  have H11 : Hid (KH w q1 addr v b p (newMc q1 16 false (aloneR addr v)) w11) := H10.out.go hb11
  clear hb11
  go_wp2_with fail
  refine hK.out _ _ H11.out.kw (fun hHeld2 => ?_)
  clear hK K hHeld
  have hHeld := hHeld2
  clear hHeld2
  (try simp only [Act.put, List.setIfInBounds_toArray, List.set_cons_zero, List.set_cons_succ])
  refine' takeH_10 (.string ((⟨(leB X).toArray⟩ : ByteArray) ++ ⟨(leB Y).toArray⟩ ++ ⟨(leB Z).toArray⟩)) (by kernel_rfl) (by kernel_rfl) (by kernel_rfl) (fun _ _ _ h => h) (by rfl) ?zy8 hHeld ?zr8
  case zy8 => (intro w' hSw; clear hSw; go_simp; simp only [leB_len]; decide)
  (try simp only [Act.put, List.setIfInBounds_toArray, List.set_cons_zero, List.set_cons_succ])
  refine runH_11 (by kernel_rfl) (fun K hK => ?_)
  go_simp
  go_at_call 9
  refine Calls.mono (HPK.out w11 H11.out) ?_
  rintro e w12 ⟨rfl, hb12⟩
  have H12 : Hid (KH w q1 addr v b p M1 w12) := hb12
  clear hb12
  go_wp2_with fail
  refine hK.out _ _ H12.out.kw (fun hHeld2 => ?_)
  clear hK K hHeld
  have hHeld := hHeld2
  clear hHeld2
  (try simp only [Act.put, List.setIfInBounds_toArray, List.set_cons_zero, List.set_cons_succ])
  refine wpAnyH_done (by kernel_rfl) ?_ _
  clear hHeld HD8 H9 H10 H11 LX LY LZ HPK E1 E2 E3 HNEW HK1 hrel
  have hcv8 : (convert 42 9 (.slice (some ⟨w12.heap.size, 0, none⟩) 8 8)).run Tryd.prog (w12.alloc (.cells #[.int .u8 fill, .int .u8 fill, .int .u8 fill, .int .u8 fill, .int .u8 fill, .int .u8 fill, .int .u8 fill, .int .u8 fill] 5)) = .ok (.string ⟨(List.replicate 8 (byteOf fill)).toArray⟩) (w12.alloc (.cells #[.int .u8 fill, .int .u8 fill, .int .u8 fill, .int .u8 fill, .int .u8 fill, .int .u8 fill, .int .u8 fill, .int .u8 fill] 5)) := conv_fill fill f0 f1 8 (by decide) w12
  have HG : Hid (∀ i, Good ((keptM addr v q1 (byteOf fill) X Y Z).ticks i)) := fun i => (kept_step HO.out i).1
  have HE : Hid (KeptEnd addr v q1 (byteOf fill) 1 X Y Z ((keptM addr v q1 (byteOf fill) X Y Z).ticks 6)) := kept_end HO.out
  have HPK2 : Hid (∀ W, KH w q1 addr v b p M1 W → Calls Tryd.prog 9 #[.pointer (some ⟨p, 0, none⟩), .int .u32 ((addr - 2) % 4294967296), .string ⟨(List.replicate 8 (byteOf fill)).toArray⟩] W fun e w' => e = .returned (.tuple #[]) ∧ KH w q1 addr v b p (keptM addr v q1 (byteOf fill) X Y Z) w') := fun W hW => by
    have h := kh_Poke ((addr - 2) % 4294967296) (List.replicate 8 (byteOf fill)) hW HT.out (by omega) (by omega)
    rw [HM1.out] at h
    exact h
  generalize (List.replicate 8 (byteOf fill)) = F8 at *
  go_wp2_with (go_at_call 9; refine Calls.mono (HPK2.out _ (H12.out.go ((Below.refl _ _).alloc (Nat.le_refl _) _))) ?_; rintro e w13 ⟨rfl, h13⟩; have H13 : Hid (KH w q1 addr v b p (keptM addr v q1 (byteOf fill) X Y Z) w13) := h13; clear h13)
  clear hcv8 HPK2 H12
  go_loopg [20] 6 (fun g nv wr => ∃ i : Nat, i + g = 6 ∧ nv = .int .i64 i ∧ Hid (KH w q1 addr v b p ((keptM addr v q1 (byteOf fill) X Y Z).ticks i) wr))
  case atStart => exact ⟨0, rfl, rfl, H13⟩
  case round =>
    obtain ⟨i, hi, rfl, hrel⟩ := hrel
    by_cases hi6 : i < 6
    · go_wp2_with (go_at_call 11; refine Calls.mono (kh_Tick false false hrel.out HT.out (HG.out i)) ?_; rintro e w14 ⟨rfl, h14⟩; have H14 : Hid (KH w q1 addr v b p ((keptM addr v q1 (byteOf fill) X Y Z).ticks (i + 1)) w14) := h14; clear h14)
      go_roundg (6 - (i + 1))
      case measure => omega
      case rel => exact ⟨i + 1, by omega, by go_num, H14⟩
    · obtain rfl : i = 6 := by omega
      clear hi hi6 H13
      obtain ⟨c0, c1, c2, c3, hlv⟩ : ∃ c0 c1 c2 c3 : UInt8, leB v = [c0, c1, c2, c3] := ⟨_, _, _, _, rfl⟩
      obtain ⟨hr3, hr4⟩ := kept_regs HO.out HE.out
      have hpk := kept_peek HO.out HE.out
      have hdn := HE.out.done
      have hmo := (HG.out 6).mem
      clear HE HG
      obtain ⟨F, hF⟩ : ∃ F : UInt8, F = byteOf fill := ⟨_, rfl⟩
      have HFN : Hid ((F.toNat : Int) = fill) := by rw [hF]; exact byteOf_nat fill f0 f1
      have hkw : keptW v (byteOf fill) 1 = [F, F, c0, F, F, F, F, F] := by unfold keptW; rw [hlv, ← hF]; rfl
      rw [hkw] at hr3 hr4 hpk
      generalize (keptM addr v q1 (byteOf fill) X Y Z).ticks 6 = M6 at *
      have HPEEK : Hid (∀ W, KH w q1 addr v b p M6 W → Calls Tryd.prog 13 #[.pointer (some ⟨p, 0, none⟩), .int .u32 ((addr - 2) % 4294967296), .int .i64 8] W fun e w' => e = .returned (.tuple #[.string ⟨[F, F, c0, F, F, F, F, F].toArray⟩, .int .i64 0]) ∧ Below W.heap.size W w') := fun W hW => by
        have h := kh_Peek ((addr - 2) % 4294967296) 8 hW hmo (by omega) (by omega) (by decide)
        rw [hpk] at h
        exact h
      have LV : Hid (∀ W, Calls Tryd.prog 10 #[.int .u32 v] W fun e w' => e = .returned (.string ⟨[c0, c1, c2, c3].toArray⟩) ∧ Below W.heap.size W w') := fun W => by
        have h := little_any W v v0 v1
        rw [hlv] at h
        exact h
      have HLK : Hid ((lookCells M6)[3]? = some (.int .i64 3) ∧ (lookCells M6)[8]? = some (.int .u32 ((c0.toNat : Int) + (F.toNat : Int) * 256 + (F.toNat : Int) * 65536 + (F.toNat : Int) * 16777216)) ∧ (lookCells M6)[9]? = some (.int .u32 (IntKind.i8.wrap (c0.toNat : Int) % 4294967296))) := by
        refine ⟨?_, ?_, ?_⟩
        · rw [← hdn]; rfl
        · exact congrArg (fun z => some (Value.int .u32 z)) hr3
        · exact congrArg (fun z => some (Value.int .u32 z)) hr4
      have hks : (lookCells M6).size = 37 := by kernel_rfl
      have hka : (lookCells M6).all (·.oneCell') = true := by kernel_rfl
      clear hr3 hr4 hpk hdn hmo hlv hkw hF HM1 HO
      go_wp2_with fail
      refine Calls.mono (kh_Look hrel.out) ?_
      rintro e w15 ⟨rfl, h15⟩
      have H15 : Hid (KH w q1 addr v b p M6 w15) := h15
      clear h15 hrel
      unfold lookV
      generalize lookCells M6 = LK at *
      go_wp2_with (with_reducible refine' stop_store (t := 45) ?_)
      refine go_on ?_
      generalize hW : w15.alloc _ = WA
      have HFA : Hid (Below w15.heap.size w15 WA ∧ ∃ Z : Array Value, WA.heap[w15.heap.size]? = some (.cells Z 45 (0, 0)) ∧ Z.size = 37) := by
        rw [Hid, ← hW]; exact ⟨(Below.refl _ _).alloc (Nat.le_refl _) _, _, heap_alloc_new _ _, rfl⟩
      clear hW
      obtain ⟨ZA, hz1, hz2⟩ := HFA.out.2
      refine wl_store_row (cells := LK) (g := w15.heap.size) (old := ZA) (t' := 45) rfl rfl hz1 (by rw [hks]; kernel_rfl) (by rw [hks]; exact hz2) hka (fun WB hWB => ?_)
      have HFB : Hid (KH w q1 addr v b p M6 WB ∧ WB.heap[w15.heap.size]? = some (.cells LK 45 (0, 0))) := by
        rw [Hid, hWB.out]
        exact ⟨H15.out.go (HFA.out.1.trans ⟨rfl, rfl, rfl, by simp, fun k hk => setRow_other _ _ _ _ (by omega)⟩), setRow_heap _ _ _ _ _ _ hz1⟩
      clear hWB hz1 hz2 HFA hks hka H15
      generalize w15.heap.size = gS at *
      go_wp2_with (go_at_call 13; refine Calls.mono (HPEEK.out _ HFB.out.1) ?_; rintro e w16 ⟨rfl, h16⟩; have H16 : Hid (KX w q1 addr v b gS LK w16) := KX.go ⟨HFB.out.1.kw, HFB.out.2⟩ h16; clear h16)
      clear HPEEK HFB
      have HCV2 : Hid (∀ (W : World) (g : Nat), W.heap[g]? = some (.cells #[.int .u8 fill, .int .u8 fill] 5 (0, 0)) → (convert 42 9 (.slice (some ⟨g, 0, none⟩) 2 2)).run Tryd.prog W = .ok (.string ⟨[F, F].toArray⟩) W) := fun W g hg => conv_at W g _ [F, F] hg (fun j hj => by
        have : j = 0 ∨ j = 1 := by simp at hj; omega
        rcases this with rfl | rfl
        · exact congrArg (fun z => some (Value.int .u8 z)) HFN.out.symm
        · exact congrArg (fun z => some (Value.int .u8 z)) HFN.out.symm)
      have HCV1 : Hid (∀ W : World, (convert 42 9 (.slice (some ⟨W.heap.size, 0, none⟩) 1 1)).run Tryd.prog (W.alloc (.cells #[.int .u8 fill] 5)) = .ok (.string ⟨[F].toArray⟩) (W.alloc (.cells #[.int .u8 fill] 5))) := fun W => conv_bytes W _ [F] (fun j hj => by
        have : j = 0 := by simp at hj; omega
        rcases this with rfl
        exact congrArg (fun z => some (Value.int .u8 z)) HFN.out.symm)
      go_upto_region 27 with fail
      go_cut [24] from 36 to 202 (fun s wx => s = .string ⟨[F, F, c0].toArray⟩ ∧ Hid (KX w q1 addr v b gS LK wx))
      case first =>
        have HD16 : Hid (KX w q1 addr v b gS LK w16.drew) := H16.out.go (Below.refl _ _).drew
        refine wp_region_held_drew (S := fun W => KX w q1 addr v b gS LK W) (by kernel_rfl) HD16.out (fun hHeld => ?_)
        generalize w16.drew = w17 at *
        clear H16
        refine' takeH_0 _ (by kernel_rfl) (by kernel_rfl) (by kernel_rfl) (fun _ _ _ h => h) (by rfl) ?zy16 hHeld ?zr16
        case zy16 => (intro w' hSw; clear hSw; go_simp; try with_reducible rfl)
        (try simp only [Act.put, List.setIfInBounds_toArray, List.set_cons_zero, List.set_cons_succ])
        refine' takeH_1 _ (by kernel_rfl) (by kernel_rfl) (by kernel_rfl) (fun _ _ _ h => h) (by rfl) ?zy17 hHeld ?zr17
        case zy17 => (intro w' hSw; clear hSw; go_simp; try with_reducible rfl)
        (try simp only [Act.put, List.setIfInBounds_toArray, List.set_cons_zero, List.set_cons_succ])
        refine' takeH_4 _ (by kernel_rfl) (by kernel_rfl) (by kernel_rfl) (fun _ _ _ h => h) (by rfl) ?zy18 hHeld ?zr18
        case zy18 => (intro w' hSw; clear hSw; go_simp; try with_reducible rfl)
        (try simp only [Act.put, List.setIfInBounds_toArray, List.set_cons_zero, List.set_cons_succ])
        refine' takeH_6 _ (by kernel_rfl) (by kernel_rfl) (by kernel_rfl) (fun _ _ _ h => h) (by rfl) ?zy19 hHeld ?zr19
        case zy19 => (intro w' hSw; clear hSw; go_simp; try with_reducible rfl)
        (try simp only [Act.put, List.setIfInBounds_toArray, List.set_cons_zero, List.set_cons_succ])
        refine' takeH_7 _ (by kernel_rfl) (by kernel_rfl) (by kernel_rfl) (fun _ _ _ h => h) (by rfl) ?zy20 hHeld ?zr20
        case zy20 => (intro w' hSw; clear hSw; go_simp; try with_reducible rfl)
        (try simp only [Act.put, List.setIfInBounds_toArray, List.set_cons_zero, List.set_cons_succ])
        refine' takeH_8 _ (by kernel_rfl) (by kernel_rfl) (by kernel_rfl) (fun _ _ _ h => h) (by rfl) ?zy21 hHeld ?zr21
        case zy21 => (intro w' hSw; clear hSw; go_simp; try with_reducible rfl)
        (try simp only [Act.put, List.setIfInBounds_toArray, List.set_cons_zero, List.set_cons_succ])
        refine' takeH_9 _ (by kernel_rfl) (by kernel_rfl) (by kernel_rfl) (fun _ _ _ h => h) (by rfl) ?zy22 hHeld ?zr22
        case zy22 => (intro w' hSw; have s0 := (KX.kw hSw).sc2; clear hSw; go_simp; try with_reducible rfl)
        (try simp only [Act.put, List.setIfInBounds_toArray, List.set_cons_zero, List.set_cons_succ])
        refine run2H_2_5 (by kernel_rfl) (fun K hK => ?ra) (fun K hK => ?rb)
        case ra =>
          go_simp
          refine hK.out _ _ (HD16.out.go ((Below.refl _ _).alloc (Nat.le_refl _) _)) (fun hHeld2 => ?_)
          clear hK K
          refine wpAnyH_imp (S' := fun W => KX w q1 addr v b gS LK W ∧ W.heap[w17.heap.size]? = some (.cells #[.int .u8 fill, .int .u8 fill] 5 (0, 0))) (fun _ h => h.1) _ _ _ _ ?_
          have hS := And.intro hHeld2 (heap_alloc_new w17 (.cells #[.int .u8 fill, .int .u8 fill] 5))
          clear hHeld hHeld2
          have hHeld := hS
          clear hS
          (try simp only [Act.put, List.setIfInBounds_toArray, List.set_cons_zero, List.set_cons_succ])
          refine' takeH_3 _ (by kernel_rfl) (by kernel_rfl) (by kernel_rfl) (fun _ _ _ h => h) (by rfl) ?zy9 hHeld ?zr9
          case zy9 => (intro w' hSw; have hcv := HCV2.out _ _ hSw.2; clear hSw; go_simp; try with_reducible rfl)
          (try simp only [Act.put, List.setIfInBounds_toArray, List.set_cons_zero, List.set_cons_succ])
          refine runH_5 (by kernel_rfl) (fun K hK => ?_)
          go_simp
          go_at_call 10
          refine Calls.mono (LV.out _) ?_
          rintro e w18 ⟨rfl, hb18⟩
          have H18 : KX w q1 addr v b gS LK w18 := KX.go hHeld.1 hb18
          have H18' := And.intro H18 ((hb18.block _ (Array.getElem?_eq_some_iff.1 hHeld.2).1).trans hHeld.2)
          clear hb18
          go_wp2_with fail
          refine hK.out _ _ H18' (fun hHeld2 => ?_)
          clear hK K hHeld
          have hHeld := hHeld2
          clear hHeld2
          (try simp only [Act.put, List.setIfInBounds_toArray, List.set_cons_zero, List.set_cons_succ])
          refine' takeH_10 (.string ⟨[c0].toArray⟩) (by kernel_rfl) (by kernel_rfl) (by kernel_rfl) (fun _ _ _ h => h) (by rfl) ?zy10 hHeld ?zr10
          case zy10 => (intro w' hSw; clear hSw; go_simp; try rfl)
          (try simp only [Act.put, List.setIfInBounds_toArray, List.set_cons_zero, List.set_cons_succ])
          refine' takeH_11 (.string ⟨[F, F, c0].toArray⟩) (by kernel_rfl) (by kernel_rfl) (by kernel_rfl) (fun _ _ _ h => h) (by rfl) ?zy11 hHeld ?zr11
          case zy11 => (intro w' hSw; clear hSw; go_simp; try rfl)
          (try simp only [Act.put, List.setIfInBounds_toArray, List.set_cons_zero, List.set_cons_succ])
          refine' takeH_12 _ (by kernel_rfl) (by kernel_rfl) (by kernel_rfl) (fun _ _ _ h => h) (by rfl) ?zy12 hHeld ?zr12
          case zy12 => (intro w' hSw; clear hSw; go_simp; try with_reducible rfl)
          (try simp only [Act.put, List.setIfInBounds_toArray, List.set_cons_zero, List.set_cons_succ])
          refine wpAnyH_done (by kernel_rfl) ?_ _
          go_wp2_with fail
          go_meet
          exact ⟨rfl, H18⟩
        case rb =>
          go_simp
          go_at_call 10
          refine Calls.mono (LV.out _) ?_
          rintro e w18 ⟨rfl, hb18⟩
          have H18 : KX w q1 addr v b gS LK w18 := KX.go hHeld hb18
          clear hb18
          go_wp2_with fail
          refine hK.out _ _ H18 (fun hHeld2 => ?_)
          clear hK K hHeld
          have hHeld := hHeld2
          clear hHeld2
          (try simp only [Act.put, List.setIfInBounds_toArray, List.set_cons_zero, List.set_cons_succ])
          refine' takeH_10 (.string ⟨[c0].toArray⟩) (by kernel_rfl) (by kernel_rfl) (by kernel_rfl) (fun _ _ _ h => h) (by rfl) ?zy13 hHeld ?zr13
          case zy13 => (intro w' hSw; clear hSw; go_simp; try rfl)
          (try simp only [Act.put, List.setIfInBounds_toArray, List.set_cons_zero, List.set_cons_succ])
          refine runH_2 (by kernel_rfl) (fun K hK => ?_)
          go_simp
          have H19 : KX w q1 addr v b gS LK (w18.alloc (.cells #[.int .u8 fill, .int .u8 fill] 5)) := H18.go ((Below.refl _ _).alloc (Nat.le_refl _) _)
          have hcv := HCV2.out _ _ (heap_alloc_new w18 (.cells #[.int .u8 fill, .int .u8 fill] 5))
          refine hK.out _ _ H19 (fun hHeld2 => ?_)
          clear hK K hHeld
          have hHeld := hHeld2
          clear hHeld2
          (try simp only [Act.put, List.setIfInBounds_toArray, List.set_cons_zero, List.set_cons_succ])
          refine runH_3 (by kernel_rfl) (fun K hK => ?_)
          go_simp
          refine hK.out _ _ H19 (fun hHeld2 => ?_)
          clear hK K hHeld
          have hHeld := hHeld2
          clear hHeld2
          (try simp only [Act.put, List.setIfInBounds_toArray, List.set_cons_zero, List.set_cons_succ])
          refine' takeH_11 (.string ⟨[F, F, c0].toArray⟩) (by kernel_rfl) (by kernel_rfl) (by kernel_rfl) (fun _ _ _ h => h) (by rfl) ?zy14 hHeld ?zr14
          case zy14 => (intro w' hSw; clear hSw; go_simp; try rfl)
          (try simp only [Act.put, List.setIfInBounds_toArray, List.set_cons_zero, List.set_cons_succ])
          refine' takeH_12 _ (by kernel_rfl) (by kernel_rfl) (by kernel_rfl) (fun _ _ _ h => h) (by rfl) ?zy15 hHeld ?zr15
          case zy15 => (intro w' hSw; clear hSw; go_simp; try with_reducible rfl)
          (try simp only [Act.put, List.setIfInBounds_toArray, List.set_cons_zero, List.set_cons_succ])
          refine wpAnyH_done (by kernel_rfl) ?_ _
          go_wp2_with fail
          go_meet
          exact ⟨rfl, H19⟩
      case rest =>
        obtain ⟨rfl, H17⟩ := hcut
        clear H16 HCV2 LV
        go_wp2_with fail
        go_loopg [24] 5 (fun g s wr => ∃ (j : Nat) (l : List UInt8), j + g = 5 ∧ s = .string ⟨l.toArray⟩ ∧ l.length = 3 + j ∧ Hid (l = [F, F, c0] ++ List.replicate j F) ∧ Hid (KX w q1 addr v b gS LK wr))
        case atStart => exact ⟨0, [F, F, c0], rfl, rfl, rfl, rfl, H17⟩
        case round =>
          obtain ⟨j, l, hj, rfl, hl, hle, hrel⟩ := hrel
          by_cases hjr : j < 5
          · have hcv := HCV1.out wr
            have hlim : ¬ (9223372036854775807 < l.length + 1) := by omega
            go_wp2_with fail
            go_roundg (5 - (j + 1))
            case measure => omega
            case rel => exact ⟨j + 1, l ++ [F], by omega, congrArg Value.string (bytes_append l [F]), by simp [hl]; omega, (by rw [Hid, hle.out, List.append_assoc, List.replicate_succ']), hrel.out.go ((Below.refl _ _).alloc (Nat.le_refl _) _)⟩
          · obtain rfl : j = 5 := by omega
            obtain rfl : l = [F, F, c0, F, F, F, F, F] := hle.out
            clear hl hle hj hjr HCV1 H17
            have k3 := (hrel.out.cell 3).trans HLK.out.1
            have k8 := (hrel.out.cell 8).trans HLK.out.2.1
            have k9 := (hrel.out.cell 9).trans HLK.out.2.2
            have s0 := hrel.out.kw.sc2
            clear HLK
            have hx2 : (⟨#[F, F, c0, F, F, F, F, F]⟩ : ByteArray)[2]'(by show 2 < 8; decide) = c0 := rfl
            have hx3 : (⟨#[F, F, c0, F, F, F, F, F]⟩ : ByteArray)[3]'(by show 3 < 8; decide) = F := rfl
            have hx4 : (⟨#[F, F, c0, F, F, F, F, F]⟩ : ByteArray)[4]'(by show 4 < 8; decide) = F := rfl
            have hx5 : (⟨#[F, F, c0, F, F, F, F, F]⟩ : ByteArray)[5]'(by show 5 < 8; decide) = F := rfl
            have hwF := u32_byte F
            have hwc0 := u32_byte c0
            have hs8 := u32_b8 F
            have hs16 := u32_b16 F
            have hs24 := u32_b24 F
            have ho8 := or_b8 c0 F
            have ho16 := or_b16 c0 F F
            have ho24 := or_b24 c0 F F F
            have hi32 := i8_i32 (c0.toNat : Int)
            have hu32 := i8_u32 (c0.toNat : Int)
            go_wp2_with fail
            go_quiet (fail)
            go_wp2
            exact HKK.out _ _ _ _ _ _ _ _ _ _ _ _ _ _ _ _ _ _ _ _ _ _ _ _ _ _ _ _ _ _ _ _ _ _ _ _ _ _ _ _ _ _ _ _ _ _ _ _ _ _ _ _ _ _ _ _ _ _ _ _ _ _ _ _ _ _ _ _ _ _ _ _ _ _ _ _ _ _ _ _ _ _ _ _ _ _ _ _ _ _ _ _ _ _ _ _ _ _ _ _ _ _ _ _ _ _ _ _ _ _ _ _ _ _ _ _ _ _ _ _ _ _ _ _ _ _ _ _ _ _ _ _ _ _ _ _ _ _ _ _ _ _ _ _ _ _ _ _ _ _ _ _ _ _ _ _ _ _ _ _ _ _ _ _ _ _ _ _ _ _ _ _ _ _ _ _ _ _ _ _ _ _ q1 (hrel.out.kw.go (Below.drewNw (Below.refl _ _) _))
end Go.Proofs.YtdcmdjeooklmjabDoor
