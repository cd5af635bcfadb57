/- What MotionFlat reaches of my texts, part 4. -/
import Derived.Test.YtceoidglhakanaaMotionFlatC
namespace Go.Proofs.Ytceoidglhakanaa
open Go.RowKit

set_option maxHeartbeats 4000000 in
set_option maxRecDepth 100000 in
theorem mo_search (p x y X Y : Int) (b : Nat → Int) (f : FD) (f0 f1 f2 : Value) (T_f0 : Nat → Prop) (T_f1 : Nat → Prop) (T_f2 : Nat → Prop) (w0 : World) (h_f0 : Byt w0 T_f0 f0 ((f).p0)) (h_f1 : Byt w0 T_f1 f1 ((f).p1)) (h_f2 : Byt w0 T_f2 f2 ((f).p2)) :
    Calls Try.prog 19 #[.agg #[.int .i64 ((f).W), .int .i64 ((f).H), f0, f1, f2], .int .i64 (p), .int .i64 (x), .int .i64 (y), blkV (b), .agg #[.int .i64 (X), .int .i64 (Y)]] w0 fun e w' => e = .returned (.tuple #[.agg #[.int .i64 ((srF f p x y b X Y).X), .int .i64 ((srF f p x y b X Y).Y)], .int .i64 ((srF f p x y b X Y).n)]) ∧ Kept (fun _ => False) w0 w' := by
  refine calls_wm (args := [.agg #[.int .i64 ((f).W), .int .i64 ((f).H), f0, f1, f2], .int .i64 (p), .int .i64 (x), .int .i64 (y), blkV (b), .agg #[.int .i64 (X), .int .i64 (Y)]]) 50 Try.func19 rfl rfl (Nat.le_of_ble_eq_true rfl) ?_
  have K0 := Kept.refl (fun _ => False) w0
  have g_f0 := Grew.refl w0 T_f0
  have g_f1 := Grew.refl w0 T_f1
  have g_f2 := Grew.refl w0 T_f2
  refine wq_seq ?_
  refine wq_region ?_
  refine wl_box_stc (vs := [.int .i64 ((f).W), .int .i64 ((f).H), f0, f1, f2]) rfl rfl rfl rfl fun p1 w2 B4 g5 k3 => ?_
  have gr6 : Grew w0 noB (onB p1) := Grew.new K0 g5
  have ap7 : Apart (onB p1) (T_f0) := Apart.new g5 (h_f0).live
  have ap8 : Apart (onB p1) (T_f1) := Apart.new g5 (h_f1).live
  have ap9 : Apart (onB p1) (T_f2) := Apart.new g5 (h_f2).live
  have B10 := h_f0.all k3 Apart.none
  have B11 := h_f1.all k3 Apart.none
  have B12 := h_f2.all k3 Apart.none
  have K13 := K0.trans k3 (fun _ _ x => x.elim)
  refine wl_box_cel rfl rfl rfl rfl (by rfl) fun p14 w15 B18 g20 k16 => ?_
  have gr21 : Grew w0 noB (onB p14) := Grew.new K13 g20
  have ap22 : Apart (onB p14) (T_f0) := Apart.new g20 (B10).live
  have ap23 : Apart (onB p14) (T_f1) := Apart.new g20 (B11).live
  have ap24 : Apart (onB p14) (T_f2) := Apart.new g20 (B12).live
  have ap25 : Apart (onB p14) (onB p1) := Apart.new g20 (onB_live (B4).lt)
  have B26 := B10.all k16 Apart.none
  have B27 := B11.all k16 Apart.none
  have B28 := B12.all k16 Apart.none
  have B29 := B4.all k16 id
  have K30 := K13.trans k16 (fun _ _ x => x.elim)
  refine wl_box_cel rfl rfl rfl rfl (by rfl) fun p31 w32 B35 g37 k33 => ?_
  have gr38 : Grew w0 noB (onB p31) := Grew.new K30 g37
  have ap39 : Apart (onB p31) (T_f0) := Apart.new g37 (B26).live
  have ap40 : Apart (onB p31) (T_f1) := Apart.new g37 (B27).live
  have ap41 : Apart (onB p31) (T_f2) := Apart.new g37 (B28).live
  have ap42 : Apart (onB p31) (onB p1) := Apart.new g37 (onB_live (B29).lt)
  have ap43 : Apart (onB p31) (onB p14) := Apart.new g37 (onB_live (B18).lt)
  have B44 := B26.all k33 Apart.none
  have B45 := B27.all k33 Apart.none
  have B46 := B28.all k33 Apart.none
  have B47 := B29.all k33 id
  have B48 := B18.all k33 id
  have K49 := K30.trans k33 (fun _ _ x => x.elim)
  refine wl_box_cel rfl rfl rfl rfl (by rfl) fun p50 w51 B54 g56 k52 => ?_
  have gr57 : Grew w0 noB (onB p50) := Grew.new K49 g56
  have ap58 : Apart (onB p50) (T_f0) := Apart.new g56 (B44).live
  have ap59 : Apart (onB p50) (T_f1) := Apart.new g56 (B45).live
  have ap60 : Apart (onB p50) (T_f2) := Apart.new g56 (B46).live
  have ap61 : Apart (onB p50) (onB p1) := Apart.new g56 (onB_live (B47).lt)
  have ap62 : Apart (onB p50) (onB p14) := Apart.new g56 (onB_live (B48).lt)
  have ap63 : Apart (onB p50) (onB p31) := Apart.new g56 (onB_live (B35).lt)
  have B64 := B44.all k52 Apart.none
  have B65 := B45.all k52 Apart.none
  have B66 := B46.all k52 Apart.none
  have B67 := B47.all k52 id
  have B68 := B48.all k52 id
  have B69 := B35.all k52 id
  have K70 := K49.trans k52 (fun _ _ x => x.elim)
  refine wl_box_blk rfl rfl rfl rfl fun p71 w72 e75 B73 k74 => ?_
  have g76 := onB_new (Nat.le_of_eq e75.symm)
  have gr77 : Grew w0 noB (onB p71) := Grew.new K70 g76
  have ap78 : Apart (onB p71) (T_f0) := Apart.new g76 (B64).live
  have ap79 : Apart (onB p71) (T_f1) := Apart.new g76 (B65).live
  have ap80 : Apart (onB p71) (T_f2) := Apart.new g76 (B66).live
  have ap81 : Apart (onB p71) (onB p1) := Apart.new g76 (onB_live (B67).lt)
  have ap82 : Apart (onB p71) (onB p14) := Apart.new g76 (onB_live (B68).lt)
  have ap83 : Apart (onB p71) (onB p31) := Apart.new g76 (onB_live (B69).lt)
  have ap84 : Apart (onB p71) (onB p50) := Apart.new g76 (onB_live (B54).lt)
  clear e75 g76
  have B85 := B64.all k74 Apart.none
  have B86 := B65.all k74 Apart.none
  have B87 := B66.all k74 Apart.none
  have B88 := B67.all k74 id
  have B89 := B68.all k74 id
  have B90 := B69.all k74 id
  have B91 := B54.all k74 id
  have K92 := K70.trans k74 (fun _ _ x => x.elim)
  refine wl_box_stc (vs := [.int .i64 (X), .int .i64 (Y)]) rfl rfl rfl rfl fun p93 w94 B96 g97 k95 => ?_
  have gr98 : Grew w0 noB (onB p93) := Grew.new K92 g97
  have ap99 : Apart (onB p93) (T_f0) := Apart.new g97 (B85).live
  have ap100 : Apart (onB p93) (T_f1) := Apart.new g97 (B86).live
  have ap101 : Apart (onB p93) (T_f2) := Apart.new g97 (B87).live
  have ap102 : Apart (onB p93) (onB p1) := Apart.new g97 (onB_live (B88).lt)
  have ap103 : Apart (onB p93) (onB p14) := Apart.new g97 (onB_live (B89).lt)
  have ap104 : Apart (onB p93) (onB p31) := Apart.new g97 (onB_live (B90).lt)
  have ap105 : Apart (onB p93) (onB p50) := Apart.new g97 (onB_live (B91).lt)
  have ap106 : Apart (onB p93) (onB p71) := Apart.new g97 (onB_live (B73).lt)
  have B107 := B85.all k95 Apart.none
  have B108 := B86.all k95 Apart.none
  have B109 := B87.all k95 Apart.none
  have B110 := B88.all k95 id
  have B111 := B89.all k95 id
  have B112 := B90.all k95 id
  have B113 := B91.all k95 id
  have B114 := B73.all k95 id
  have K115 := K92.trans k95 (fun _ _ x => x.elim)
  refine wl_alloc_stc (n := 2) (vs := [.int .i64 (0), .int .i64 (0)]) rfl rfl rfl (by kernel_rfl) fun p116 w117 B119 g120 k118 => ?_
  have gr121 : Grew w0 noB (onB p116) := Grew.new K115 g120
  have ap122 : Apart (onB p116) (T_f0) := Apart.new g120 (B107).live
  have ap123 : Apart (onB p116) (T_f1) := Apart.new g120 (B108).live
  have ap124 : Apart (onB p116) (T_f2) := Apart.new g120 (B109).live
  have ap125 : Apart (onB p116) (onB p1) := Apart.new g120 (onB_live (B110).lt)
  have ap126 : Apart (onB p116) (onB p14) := Apart.new g120 (onB_live (B111).lt)
  have ap127 : Apart (onB p116) (onB p31) := Apart.new g120 (onB_live (B112).lt)
  have ap128 : Apart (onB p116) (onB p50) := Apart.new g120 (onB_live (B113).lt)
  have ap129 : Apart (onB p116) (onB p71) := Apart.new g120 (onB_live (B114).lt)
  have ap130 : Apart (onB p116) (onB p93) := Apart.new g120 (onB_live (B96).lt)
  have B131 := B107.all k118 Apart.none
  have B132 := B108.all k118 Apart.none
  have B133 := B109.all k118 Apart.none
  have B134 := B110.all k118 id
  have B135 := B111.all k118 id
  have B136 := B112.all k118 id
  have B137 := B113.all k118 id
  have B138 := B114.all k118 id
  have B139 := B96.all k118 id
  have K140 := K115.trans k118 (fun _ _ x => x.elim)
  refine wl_alloc_cel (v := .int .i64 (0)) rfl rfl rfl (by kernel_rfl) rfl fun p141 w142 B145 g147 k143 => ?_
  have gr148 : Grew w0 noB (onB p141) := Grew.new K140 g147
  have ap149 : Apart (onB p141) (T_f0) := Apart.new g147 (B131).live
  have ap150 : Apart (onB p141) (T_f1) := Apart.new g147 (B132).live
  have ap151 : Apart (onB p141) (T_f2) := Apart.new g147 (B133).live
  have ap152 : Apart (onB p141) (onB p1) := Apart.new g147 (onB_live (B134).lt)
  have ap153 : Apart (onB p141) (onB p14) := Apart.new g147 (onB_live (B135).lt)
  have ap154 : Apart (onB p141) (onB p31) := Apart.new g147 (onB_live (B136).lt)
  have ap155 : Apart (onB p141) (onB p50) := Apart.new g147 (onB_live (B137).lt)
  have ap156 : Apart (onB p141) (onB p71) := Apart.new g147 (onB_live (B138).lt)
  have ap157 : Apart (onB p141) (onB p93) := Apart.new g147 (onB_live (B139).lt)
  have ap158 : Apart (onB p141) (onB p116) := Apart.new g147 (onB_live (B119).lt)
  have B159 := B131.all k143 Apart.none
  have B160 := B132.all k143 Apart.none
  have B161 := B133.all k143 Apart.none
  have B162 := B134.all k143 id
  have B163 := B135.all k143 id
  have B164 := B136.all k143 id
  have B165 := B137.all k143 id
  have B166 := B138.all k143 id
  have B167 := B139.all k143 id
  have B168 := B119.all k143 id
  have K169 := K140.trans k143 (fun _ _ x => x.elim)
  refine wl_nil fun F170 hF171 => ?_
  have s172 : F170 0 = .agg #[.int .i64 ((f).W), .int .i64 ((f).H), f0, f1, f2] := (hF171 0).trans rfl
  have s173 : F170 1 = .int .i64 (p) := (hF171 1).trans rfl
  have s174 : F170 2 = .int .i64 (x) := (hF171 2).trans rfl
  have s175 : F170 3 = .int .i64 (y) := (hF171 3).trans rfl
  have s176 : F170 4 = blkV (b) := (hF171 4).trans rfl
  have s177 : F170 5 = .agg #[.int .i64 (X), .int .i64 (Y)] := (hF171 5).trans rfl
  have s178 : F170 50 = undef := (hF171 50).trans rfl
  have s179 : F170 6 = .pointer (some ⟨p1, 0, none⟩) := (hF171 6).trans rfl
  have s180 : F170 7 = .pointer (some ⟨p14, 0, none⟩) := (hF171 7).trans rfl
  have s181 : F170 8 = .pointer (some ⟨p31, 0, none⟩) := (hF171 8).trans rfl
  have s182 : F170 9 = .pointer (some ⟨p50, 0, none⟩) := (hF171 9).trans rfl
  have s183 : F170 10 = .pointer (some ⟨p71, 0, none⟩) := (hF171 10).trans rfl
  have s184 : F170 11 = .pointer (some ⟨p93, 0, none⟩) := (hF171 11).trans rfl
  have s185 : F170 12 = .pointer (some ⟨p116, 0, none⟩) := (hF171 12).trans rfl
  have s186 : F170 13 = .pointer (some ⟨p141, 0, none⟩) := (hF171 13).trans rfl
  clear hF171
  refine then_normal ?_
  refine wq_seq ?_
  refine wq_region ?_
  refine wl_v (.agg #[.int .i64 (0), .int .i64 (0)]) rfl rfl (y_buildL (l' := []) (cells := #[.int .i64 (0), .int .i64 (0)]) rfl bpN (by kernel_rfl) rfl ⟨rfl, rfl⟩) ?_
  refine wl_alloc_stc (n := 2) (vs := [.int .i64 (0), .int .i64 (0)]) rfl rfl rfl (by kernel_rfl) fun p187 w188 B190 g191 k189 => ?_
  have gr192 : Grew w0 noB (onB p187) := Grew.new K169 g191
  have ap193 : Apart (onB p187) (T_f0) := Apart.new g191 (B159).live
  have ap194 : Apart (onB p187) (T_f1) := Apart.new g191 (B160).live
  have ap195 : Apart (onB p187) (T_f2) := Apart.new g191 (B161).live
  have ap196 : Apart (onB p187) (onB p1) := Apart.new g191 (onB_live (B162).lt)
  have ap197 : Apart (onB p187) (onB p14) := Apart.new g191 (onB_live (B163).lt)
  have ap198 : Apart (onB p187) (onB p31) := Apart.new g191 (onB_live (B164).lt)
  have ap199 : Apart (onB p187) (onB p50) := Apart.new g191 (onB_live (B165).lt)
  have ap200 : Apart (onB p187) (onB p71) := Apart.new g191 (onB_live (B166).lt)
  have ap201 : Apart (onB p187) (onB p93) := Apart.new g191 (onB_live (B167).lt)
  have ap202 : Apart (onB p187) (onB p116) := Apart.new g191 (onB_live (B168).lt)
  have ap203 : Apart (onB p187) (onB p141) := Apart.new g191 (onB_live (B145).lt)
  have B204 := B159.all k189 Apart.none
  have B205 := B160.all k189 Apart.none
  have B206 := B161.all k189 Apart.none
  have B207 := B162.all k189 id
  have B208 := B163.all k189 id
  have B209 := B164.all k189 id
  have B210 := B165.all k189 id
  have B211 := B166.all k189 id
  have B212 := B167.all k189 id
  have B213 := B168.all k189 id
  have B214 := B145.all k189 id
  have K215 := K169.trans k189 (fun _ _ x => x.elim)
  refine wl_alloc_cel (v := .int .i64 (0)) rfl rfl rfl (by kernel_rfl) rfl fun p216 w217 B220 g222 k218 => ?_
  have gr223 : Grew w0 noB (onB p216) := Grew.new K215 g222
  have ap224 : Apart (onB p216) (T_f0) := Apart.new g222 (B204).live
  have ap225 : Apart (onB p216) (T_f1) := Apart.new g222 (B205).live
  have ap226 : Apart (onB p216) (T_f2) := Apart.new g222 (B206).live
  have ap227 : Apart (onB p216) (onB p1) := Apart.new g222 (onB_live (B207).lt)
  have ap228 : Apart (onB p216) (onB p14) := Apart.new g222 (onB_live (B208).lt)
  have ap229 : Apart (onB p216) (onB p31) := Apart.new g222 (onB_live (B209).lt)
  have ap230 : Apart (onB p216) (onB p50) := Apart.new g222 (onB_live (B210).lt)
  have ap231 : Apart (onB p216) (onB p71) := Apart.new g222 (onB_live (B211).lt)
  have ap232 : Apart (onB p216) (onB p93) := Apart.new g222 (onB_live (B212).lt)
  have ap233 : Apart (onB p216) (onB p116) := Apart.new g222 (onB_live (B213).lt)
  have ap234 : Apart (onB p216) (onB p141) := Apart.new g222 (onB_live (B214).lt)
  have ap235 : Apart (onB p216) (onB p187) := Apart.new g222 (onB_live (B190).lt)
  have B236 := B204.all k218 Apart.none
  have B237 := B205.all k218 Apart.none
  have B238 := B206.all k218 Apart.none
  have B239 := B207.all k218 id
  have B240 := B208.all k218 id
  have B241 := B209.all k218 id
  have B242 := B210.all k218 id
  have B243 := B211.all k218 id
  have B244 := B212.all k218 id
  have B245 := B213.all k218 id
  have B246 := B214.all k218 id
  have B247 := B190.all k218 id
  have K248 := K215.trans k218 (fun _ _ x => x.elim)
  refine wl_store_stc (us := [.int .i64 (0), .int .i64 (0)]) stcT_vector rfl rfl rfl rfl rfl B247 rfl (oneI rfl (oneI rfl oneN)) fun w249 B250 k251 => ?_
  have B252 := B236.all k251 (fun i h x => (((ap193).symm) i h x))
  have B253 := B237.all k251 (fun i h x => (((ap194).symm) i h x))
  have B254 := B238.all k251 (fun i h x => (((ap195).symm) i h x))
  have B255 := B239.all k251 (fun x => (((ap196).symm) p1 rfl x))
  have B256 := B240.all k251 (fun x => (((ap197).symm) p14 rfl x))
  have B257 := B241.all k251 (fun x => (((ap198).symm) p31 rfl x))
  have B258 := B242.all k251 (fun x => (((ap199).symm) p50 rfl x))
  have B259 := B243.all k251 (fun x => (((ap200).symm) p71 rfl x))
  have B260 := B244.all k251 (fun x => (((ap201).symm) p93 rfl x))
  have B261 := B245.all k251 (fun x => (((ap202).symm) p116 rfl x))
  have B262 := B246.all k251 (fun x => (((ap203).symm) p141 rfl x))
  have B263 := B220.all k251 (fun x => ((ap235) p216 rfl x))
  have K264 := K248.trans k251 (Grew.ok (S := fun _ => False) gr192 noB_le)
  refine wl_store_cel rfl rfl rfl rfl rfl B263 (by rfl) (by kernel_rfl) fun w265 B266 k267 => ?_
  have B268 := B252.all k267 (fun i h x => (((ap224).symm) i h x))
  have B269 := B253.all k267 (fun i h x => (((ap225).symm) i h x))
  have B270 := B254.all k267 (fun i h x => (((ap226).symm) i h x))
  have B271 := B255.all k267 (fun x => (((ap227).symm) p1 rfl x))
  have B272 := B256.all k267 (fun x => (((ap228).symm) p14 rfl x))
  have B273 := B257.all k267 (fun x => (((ap229).symm) p31 rfl x))
  have B274 := B258.all k267 (fun x => (((ap230).symm) p50 rfl x))
  have B275 := B259.all k267 (fun x => (((ap231).symm) p71 rfl x))
  have B276 := B260.all k267 (fun x => (((ap232).symm) p93 rfl x))
  have B277 := B261.all k267 (fun x => (((ap233).symm) p116 rfl x))
  have B278 := B262.all k267 (fun x => (((ap234).symm) p141 rfl x))
  have B279 := B250.all k267 (fun x => (((ap235).symm) p187 rfl x))
  have K280 := K264.trans k267 (Grew.ok (S := fun _ => False) gr223 noB_le)
  refine wl_nil fun F281 hF282 => ?_
  have s283 : F281 0 = .agg #[.int .i64 ((f).W), .int .i64 ((f).H), f0, f1, f2] := (hF282 0).trans s172
  have s284 : F281 1 = .int .i64 (p) := (hF282 1).trans s173
  have s285 : F281 2 = .int .i64 (x) := (hF282 2).trans s174
  have s286 : F281 3 = .int .i64 (y) := (hF282 3).trans s175
  have s287 : F281 4 = blkV (b) := (hF282 4).trans s176
  have s288 : F281 5 = .agg #[.int .i64 (X), .int .i64 (Y)] := (hF282 5).trans s177
  have s289 : F281 50 = undef := (hF282 50).trans s178
  have s290 : F281 6 = .pointer (some ⟨p1, 0, none⟩) := (hF282 6).trans s179
  have s291 : F281 7 = .pointer (some ⟨p14, 0, none⟩) := (hF282 7).trans s180
  have s292 : F281 8 = .pointer (some ⟨p31, 0, none⟩) := (hF282 8).trans s181
  have s293 : F281 9 = .pointer (some ⟨p50, 0, none⟩) := (hF282 9).trans s182
  have s294 : F281 10 = .pointer (some ⟨p71, 0, none⟩) := (hF282 10).trans s183
  have s295 : F281 11 = .pointer (some ⟨p93, 0, none⟩) := (hF282 11).trans s184
  have s296 : F281 12 = .pointer (some ⟨p116, 0, none⟩) := (hF282 12).trans s185
  have s297 : F281 13 = .pointer (some ⟨p141, 0, none⟩) := (hF282 13).trans s186
  have s298 : F281 14 = .pointer (some ⟨p187, 0, none⟩) := (hF282 14).trans rfl
  have s299 : F281 15 = .pointer (some ⟨p216, 0, none⟩) := (hF282 15).trans rfl
  clear hF282
  refine then_normal ?_
  refine wq_seq ?_
  refine wq_seq ?_
  refine wq_region ?_
  refine wl_v (.agg #[.int .i64 (X), .int .i64 (Y)]) rfl rfl (y_load_stc stcT_vector rfl s295 B276 ⟨rfl, rfl⟩) ?_
  refine wl_call (R := fun v_ w_ => ∃ (v300 : Nat) (T304 : Nat → Prop) (v301 : Nat) (T305 : Nat → Prop), .func (.func 52) #[] #[.pointer (some ⟨v300, 0, none⟩), .pointer (some ⟨v301, 0, none⟩)] = v_ ∧ Kept (fun _ => False) w265 w_ ∧ (Cin w_ T304 v300 (c34 (Y)) ∧ Grew w265 noB T304) ∧ (Cin w_ T305 v301 (c34 (X)) ∧ Grew w265 noB T305) ∧ Apart T304 T305) rfl rfl (y_cs rfl rfl rfl (fun _ _ => by kernel_rfl) (ev_func _) (vsC rfl vsN) (mo_beside (X) (Y)  _   ) (fun e_ w_ h_ => by obtain ⟨v300_, T304_, v301_, T305_, he_, hr_⟩ := h_; exact ⟨_, he_, v300_, T304_, v301_, T305_, rfl, hr_⟩)) ?_
  rintro _ w302 ⟨v300, T304, v301, T305, rfl, k303, ⟨B306, g308⟩, ⟨B307, g309⟩, ap310⟩
  have B311 := B268.all k303 Apart.none
  have B312 := B269.all k303 Apart.none
  have B313 := B270.all k303 Apart.none
  have B314 := B271.all k303 id
  have B315 := B272.all k303 id
  have B316 := B273.all k303 id
  have B317 := B274.all k303 id
  have B318 := B275.all k303 id
  have B319 := B276.all k303 id
  have B320 := B277.all k303 id
  have B321 := B278.all k303 id
  have B322 := B279.all k303 id
  have B323 := B266.all k303 id
  have K324 := K280.trans k303 (fun _ _ x => x.elim)
  have gr325 : Grew w0 noB (T304) := Grew.new K280 g308
  have ap326 : Apart (T304) (T_f0) := Apart.new g308 (B268).live
  have ap327 : Apart (T304) (T_f1) := Apart.new g308 (B269).live
  have ap328 : Apart (T304) (T_f2) := Apart.new g308 (B270).live
  have ap329 : Apart (T304) (onB p1) := Apart.new g308 (onB_live (B271).lt)
  have ap330 : Apart (T304) (onB p14) := Apart.new g308 (onB_live (B272).lt)
  have ap331 : Apart (T304) (onB p31) := Apart.new g308 (onB_live (B273).lt)
  have ap332 : Apart (T304) (onB p50) := Apart.new g308 (onB_live (B274).lt)
  have ap333 : Apart (T304) (onB p71) := Apart.new g308 (onB_live (B275).lt)
  have ap334 : Apart (T304) (onB p93) := Apart.new g308 (onB_live (B276).lt)
  have ap335 : Apart (T304) (onB p116) := Apart.new g308 (onB_live (B277).lt)
  have ap336 : Apart (T304) (onB p141) := Apart.new g308 (onB_live (B278).lt)
  have ap337 : Apart (T304) (onB p187) := Apart.new g308 (onB_live (B279).lt)
  have ap338 : Apart (T304) (onB p216) := Apart.new g308 (onB_live (B266).lt)
  have gr339 : Grew w0 noB (T305) := Grew.new K280 g309
  have ap340 : Apart (T305) (T_f0) := Apart.new g309 (B268).live
  have ap341 : Apart (T305) (T_f1) := Apart.new g309 (B269).live
  have ap342 : Apart (T305) (T_f2) := Apart.new g309 (B270).live
  have ap343 : Apart (T305) (onB p1) := Apart.new g309 (onB_live (B271).lt)
  have ap344 : Apart (T305) (onB p14) := Apart.new g309 (onB_live (B272).lt)
  have ap345 : Apart (T305) (onB p31) := Apart.new g309 (onB_live (B273).lt)
  have ap346 : Apart (T305) (onB p50) := Apart.new g309 (onB_live (B274).lt)
  have ap347 : Apart (T305) (onB p71) := Apart.new g309 (onB_live (B275).lt)
  have ap348 : Apart (T305) (onB p93) := Apart.new g309 (onB_live (B276).lt)
  have ap349 : Apart (T305) (onB p116) := Apart.new g309 (onB_live (B277).lt)
  have ap350 : Apart (T305) (onB p141) := Apart.new g309 (onB_live (B278).lt)
  have ap351 : Apart (T305) (onB p187) := Apart.new g309 (onB_live (B279).lt)
  have ap352 : Apart (T305) (onB p216) := Apart.new g309 (onB_live (B266).lt)
  refine wl_nil fun F353 hF354 => ?_
  have s355 : F353 0 = .agg #[.int .i64 ((f).W), .int .i64 ((f).H), f0, f1, f2] := (hF354 0).trans s283
  have s356 : F353 1 = .int .i64 (p) := (hF354 1).trans s284
  have s357 : F353 2 = .int .i64 (x) := (hF354 2).trans s285
  have s358 : F353 3 = .int .i64 (y) := (hF354 3).trans s286
  have s359 : F353 4 = blkV (b) := (hF354 4).trans s287
  have s360 : F353 5 = .agg #[.int .i64 (X), .int .i64 (Y)] := (hF354 5).trans s288
  have s361 : F353 50 = undef := (hF354 50).trans s289
  have s362 : F353 6 = .pointer (some ⟨p1, 0, none⟩) := (hF354 6).trans s290
  have s363 : F353 7 = .pointer (some ⟨p14, 0, none⟩) := (hF354 7).trans s291
  have s364 : F353 8 = .pointer (some ⟨p31, 0, none⟩) := (hF354 8).trans s292
  have s365 : F353 9 = .pointer (some ⟨p50, 0, none⟩) := (hF354 9).trans s293
  have s366 : F353 10 = .pointer (some ⟨p71, 0, none⟩) := (hF354 10).trans s294
  have s367 : F353 11 = .pointer (some ⟨p93, 0, none⟩) := (hF354 11).trans s295
  have s368 : F353 12 = .pointer (some ⟨p116, 0, none⟩) := (hF354 12).trans s296
  have s369 : F353 13 = .pointer (some ⟨p141, 0, none⟩) := (hF354 13).trans s297
  have s370 : F353 14 = .pointer (some ⟨p187, 0, none⟩) := (hF354 14).trans s298
  have s371 : F353 15 = .pointer (some ⟨p216, 0, none⟩) := (hF354 15).trans s299
  have s372 : F353 22 = .func (.func 52) #[] #[.pointer (some ⟨v300, 0, none⟩), .pointer (some ⟨v301, 0, none⟩)] := (hF354 22).trans rfl
  clear hF354
  refine then_normal ?_
  refine wq_block ?_
  refine wq_rangeR (α := Vok) (encs := fun el => [.agg #[.int .i64 (el.X), .int .i64 (el.Y)]]) (U := fun i => i ≠ v300 ∧ i ≠ v301) (S := fun xs => xs = vecsTo (c34 X) (c34 Y) 25) (Sp := fun _ => True) (M := 25) s372 (fun _ _ => by kernel_rfl) (bes_seq (c34 X) (c34 Y) v300 v301 _ (c34_le X) (c34_le Y) (B306).2 (B307).2) (fun i hi => ⟨Nat.ne_of_gt (Nat.lt_of_lt_of_le (B306).2.lt hi), Nat.ne_of_gt (Nat.lt_of_lt_of_le (B307).2.lt hi)⟩) [23] rfl (fun _ => rfl) rfl (fun pre ww => Kept (fun _ => False) w0 ww ∧ Byt ww (T_f0) f0 ((f).p0) ∧ Byt ww (T_f1) f1 ((f).p1) ∧ Byt ww (T_f2) f2 ((f).p2) ∧ Stc ww p1 25 [.int .i64 ((f).W), .int .i64 ((f).H), f0, f1, f2] ∧ Cel ww p14 3 (.int .i64 (p)) ∧ Cel ww p31 3 (.int .i64 (x)) ∧ Cel ww p50 3 (.int .i64 (y)) ∧ Blk ww p71 31 (b) ∧ Stc ww p93 27 [.int .i64 (X), .int .i64 (Y)] ∧ Stc ww p116 27 [.int .i64 (0), .int .i64 (0)] ∧ Cel ww p141 3 (.int .i64 (0)) ∧ Stc ww p187 27 [.int .i64 ((foldV f p x y b pre).X), .int .i64 ((foldV f p x y b pre).Y)] ∧ Cel ww p216 3 (.int .i64 ((foldV f p x y b pre).n)) ∧ Cin ww (T304) v300 (c34 (Y)) ∧ Cin ww (T305) v301 (c34 (X))) (fun pre ww => Kept (fun _ => False) w0 ww ∧ Byt ww (T_f0) f0 ((f).p0) ∧ Byt ww (T_f1) f1 ((f).p1) ∧ Byt ww (T_f2) f2 ((f).p2) ∧ Stc ww p1 25 [.int .i64 ((f).W), .int .i64 ((f).H), f0, f1, f2] ∧ Cel ww p14 3 (.int .i64 (p)) ∧ Cel ww p31 3 (.int .i64 (x)) ∧ Cel ww p50 3 (.int .i64 (y)) ∧ Blk ww p71 31 (b) ∧ Stc ww p93 27 [.int .i64 (X), .int .i64 (Y)] ∧ Stc ww p116 27 [.int .i64 (0), .int .i64 (0)] ∧ Cel ww p141 3 (.int .i64 (-1)) ∧ Cin ww (T304) v300 (c34 (Y)) ∧ Cin ww (T305) v301 (c34 (X)) ∧ (¬ placeF f p x y)) ?_ ?_ ⟨K324, B311, B312, B313, B314, B315, B316, B317, B318, B319, B320, B321, B322, B323, B306, B307⟩ (fun el FF WW => ∃ (pa0_ : Nat), FF 0 = .agg #[.int .i64 ((f).W), .int .i64 ((f).H), f0, f1, f2] ∧ FF 1 = .int .i64 (p) ∧ FF 2 = .int .i64 (x) ∧ FF 3 = .int .i64 (y) ∧ FF 4 = blkV (b) ∧ FF 5 = .agg #[.int .i64 (X), .int .i64 (Y)] ∧ FF 6 = .pointer (some ⟨p1, 0, none⟩) ∧ FF 7 = .pointer (some ⟨p14, 0, none⟩) ∧ FF 8 = .pointer (some ⟨p31, 0, none⟩) ∧ FF 9 = .pointer (some ⟨p50, 0, none⟩) ∧ FF 10 = .pointer (some ⟨p71, 0, none⟩) ∧ FF 11 = .pointer (some ⟨p93, 0, none⟩) ∧ FF 12 = .pointer (some ⟨p116, 0, none⟩) ∧ FF 13 = .pointer (some ⟨p141, 0, none⟩) ∧ FF 14 = .pointer (some ⟨p187, 0, none⟩) ∧ FF 15 = .pointer (some ⟨p216, 0, none⟩) ∧ FF 16 = .pointer (some ⟨pa0_, 0, none⟩) ∧ FF 22 = .func (.func 52) #[] #[.pointer (some ⟨v300, 0, none⟩), .pointer (some ⟨v301, 0, none⟩)] ∧ FF 23 = .agg #[.int .i64 (el.X), .int .i64 (el.Y)] ∧ FF 50 = undef ∧ Stc WW pa0_ 27 [.int .i64 (el.X), .int .i64 (el.Y)] ∧ Apart (onB pa0_) (T_f0) ∧ Apart (onB pa0_) (T_f1) ∧ Apart (onB pa0_) (T_f2) ∧ Apart (onB pa0_) (onB p1) ∧ Apart (onB pa0_) (onB p14) ∧ Apart (onB pa0_) (onB p31) ∧ Apart (onB pa0_) (onB p50) ∧ Apart (onB pa0_) (onB p71) ∧ Apart (onB pa0_) (onB p93) ∧ Apart (onB pa0_) (onB p116) ∧ Apart (onB pa0_) (onB p141) ∧ Apart (onB pa0_) (onB p187) ∧ Apart (onB pa0_) (onB p216) ∧ Apart (onB pa0_) (T304) ∧ Apart (onB pa0_) (T305)) ?_ ?_ ?_ ?_ ?_
  · rintro pre A_ B_ row_ ⟨K_, B0_, B1_, B2_, B3_, B4_, B5_, B6_, B7_, B8_, B9_, B10_, B11_, B12_, B13_, B14_⟩ hg_ hr_
    exact ⟨K_.row hg_ hr_ K324.size, B0_.row hg_ hr_, B1_.row hg_ hr_, B2_.row hg_ hr_, B3_.row hg_ hr_, B4_.row hg_ hr_, B5_.row hg_ hr_, B6_.row hg_ hr_, B7_.row hg_ hr_, B8_.row hg_ hr_, B9_.row hg_ hr_, B10_.row hg_ hr_, B11_.row hg_ hr_, B12_.row hg_ hr_, B13_.row hg_ hr_, B14_.row hg_ hr_⟩
  · rintro pre A_ B_ row_ ⟨K_, B0_, B1_, B2_, B3_, B4_, B5_, B6_, B7_, B8_, B9_, B10_, B11_, B12_, i0_⟩ hg_ hr_
    exact ⟨K_.row hg_ hr_ K324.size, B0_.row hg_ hr_, B1_.row hg_ hr_, B2_.row hg_ hr_, B3_.row hg_ hr_, B4_.row hg_ hr_, B5_.row hg_ hr_, B6_.row hg_ hr_, B7_.row hg_ hr_, B8_.row hg_ hr_, B9_.row hg_ hr_, B10_.row hg_ hr_, B11_.row hg_ hr_, B12_.row hg_ hr_, i0_⟩
  · rintro el FF _ A_ B_ row_ ⟨p0_, s0_, s1_, s2_, s3_, s4_, s5_, s6_, s7_, s8_, s9_, s10_, s11_, s12_, s13_, s14_, s15_, s16_, s17_, s18_, s19_, B0_, a0_, a1_, a2_, a3_, a4_, a5_, a6_, a7_, a8_, a9_, a10_, a11_, a12_, a13_, a14_⟩ hg_ hr_
    exact ⟨p0_, s0_, s1_, s2_, s3_, s4_, s5_, s6_, s7_, s8_, s9_, s10_, s11_, s12_, s13_, s14_, s15_, s16_, s17_, s18_, s19_, B0_.row hg_ hr_, a0_, a1_, a2_, a3_, a4_, a5_, a6_, a7_, a8_, a9_, a10_, a11_, a12_, a13_, a14_⟩
  · rintro l_ pre el W_ ⟨K373, B374, B375, B376, B377, B378, B379, B380, B381, B382, B383, B384, B385, B386, B387, B388⟩
    refine wq_region ?_
    refine wl_alloc_stc (n := 2) (vs := [.int .i64 (0), .int .i64 (0)]) rfl rfl rfl (by kernel_rfl) fun p389 w390 B392 g393 k391 => ?_
    have gr394 : Grew W_ noB (onB p389) := Grew.new (Kept.refl (fun _ => False) W_) g393
    have ap395 : Apart (onB p389) (T_f0) := Apart.new g393 (B374).live
    have ap396 : Apart (onB p389) (T_f1) := Apart.new g393 (B375).live
    have ap397 : Apart (onB p389) (T_f2) := Apart.new g393 (B376).live
    have ap398 : Apart (onB p389) (onB p1) := Apart.new g393 (onB_live (B377).lt)
    have ap399 : Apart (onB p389) (onB p14) := Apart.new g393 (onB_live (B378).lt)
    have ap400 : Apart (onB p389) (onB p31) := Apart.new g393 (onB_live (B379).lt)
    have ap401 : Apart (onB p389) (onB p50) := Apart.new g393 (onB_live (B380).lt)
    have ap402 : Apart (onB p389) (onB p71) := Apart.new g393 (onB_live (B381).lt)
    have ap403 : Apart (onB p389) (onB p93) := Apart.new g393 (onB_live (B382).lt)
    have ap404 : Apart (onB p389) (onB p116) := Apart.new g393 (onB_live (B383).lt)
    have ap405 : Apart (onB p389) (onB p141) := Apart.new g393 (onB_live (B384).lt)
    have ap406 : Apart (onB p389) (onB p187) := Apart.new g393 (onB_live (B385).lt)
    have ap407 : Apart (onB p389) (onB p216) := Apart.new g393 (onB_live (B386).lt)
    have ap408 : Apart (onB p389) (T304) := Apart.new g393 (B387).live
    have ap409 : Apart (onB p389) (T305) := Apart.new g393 (B388).live
    have B410 := B374.all k391 Apart.none
    have B411 := B375.all k391 Apart.none
    have B412 := B376.all k391 Apart.none
    have B413 := B377.all k391 id
    have B414 := B378.all k391 id
    have B415 := B379.all k391 id
    have B416 := B380.all k391 id
    have B417 := B381.all k391 id
    have B418 := B382.all k391 id
    have B419 := B383.all k391 id
    have B420 := B384.all k391 id
    have B421 := B385.all k391 id
    have B422 := B386.all k391 id
    have B423 := B387.all k391 Apart.none
    have B424 := B388.all k391 Apart.none
    have K425 := (Kept.refl (fun _ => False) W_).trans k391 (fun _ _ x => x.elim)
    refine wl_store_stc (us := [.int .i64 (el.X), .int .i64 (el.Y)]) stcT_vector rfl rfl rfl rfl rfl B392 rfl (oneI rfl (oneI rfl oneN)) fun w426 B427 k428 => ?_
    have B429 := B410.all k428 (fun i h x => (((ap395).symm) i h x))
    have B430 := B411.all k428 (fun i h x => (((ap396).symm) i h x))
    have B431 := B412.all k428 (fun i h x => (((ap397).symm) i h x))
    have B432 := B413.all k428 (fun x => (((ap398).symm) p1 rfl x))
    have B433 := B414.all k428 (fun x => (((ap399).symm) p14 rfl x))
    have B434 := B415.all k428 (fun x => (((ap400).symm) p31 rfl x))
    have B435 := B416.all k428 (fun x => (((ap401).symm) p50 rfl x))
    have B436 := B417.all k428 (fun x => (((ap402).symm) p71 rfl x))
    have B437 := B418.all k428 (fun x => (((ap403).symm) p93 rfl x))
    have B438 := B419.all k428 (fun x => (((ap404).symm) p116 rfl x))
    have B439 := B420.all k428 (fun x => (((ap405).symm) p141 rfl x))
    have B440 := B421.all k428 (fun x => (((ap406).symm) p187 rfl x))
    have B441 := B422.all k428 (fun x => (((ap407).symm) p216 rfl x))
    have B442 := B423.all k428 (fun i h x => (((ap408).symm) i h x))
    have B443 := B424.all k428 (fun i h x => (((ap409).symm) i h x))
    have K444 := K425.trans k428 (Grew.ok (S := fun _ => False) gr394 noB_le)
    refine wl_nil fun F445 hF446 => ?_
    have s447 : F445 0 = .agg #[.int .i64 ((f).W), .int .i64 ((f).H), f0, f1, f2] := (hF446 0).trans s355
    have s448 : F445 1 = .int .i64 (p) := (hF446 1).trans s356
    have s449 : F445 2 = .int .i64 (x) := (hF446 2).trans s357
    have s450 : F445 3 = .int .i64 (y) := (hF446 3).trans s358
    have s451 : F445 4 = blkV (b) := (hF446 4).trans s359
    have s452 : F445 5 = .agg #[.int .i64 (X), .int .i64 (Y)] := (hF446 5).trans s360
    have s453 : F445 50 = undef := (hF446 50).trans rfl
    have s454 : F445 6 = .pointer (some ⟨p1, 0, none⟩) := (hF446 6).trans s362
    have s455 : F445 7 = .pointer (some ⟨p14, 0, none⟩) := (hF446 7).trans s363
    have s456 : F445 8 = .pointer (some ⟨p31, 0, none⟩) := (hF446 8).trans s364
    have s457 : F445 9 = .pointer (some ⟨p50, 0, none⟩) := (hF446 9).trans s365
    have s458 : F445 10 = .pointer (some ⟨p71, 0, none⟩) := (hF446 10).trans s366
    have s459 : F445 11 = .pointer (some ⟨p93, 0, none⟩) := (hF446 11).trans s367
    have s460 : F445 12 = .pointer (some ⟨p116, 0, none⟩) := (hF446 12).trans s368
    have s461 : F445 13 = .pointer (some ⟨p141, 0, none⟩) := (hF446 13).trans s369
    have s462 : F445 14 = .pointer (some ⟨p187, 0, none⟩) := (hF446 14).trans s370
    have s463 : F445 15 = .pointer (some ⟨p216, 0, none⟩) := (hF446 15).trans s371
    have s464 : F445 22 = .func (.func 52) #[] #[.pointer (some ⟨v300, 0, none⟩), .pointer (some ⟨v301, 0, none⟩)] := (hF446 22).trans s372
    have s465 : F445 23 = .agg #[.int .i64 (el.X), .int .i64 (el.Y)] := (hF446 23).trans rfl
    have s466 : F445 16 = .pointer (some ⟨p389, 0, none⟩) := (hF446 16).trans rfl
    clear hF446
    exact ⟨Cells.keeps Cells.no K444 _, K444.mono (fun _ _ x => x.elim), ⟨K373.trans K444 (fun _ _ x => x.elim), B429, B430, B431, B432, B433, B434, B435, B436, B437, B438, B439, B440, B441, B442, B443⟩, ⟨p389, s447, s448, s449, s450, s451, s452, s454, s455, s456, s457, s458, s459, s460, s461, s462, s463, s466, s464, s465, s453, B427, ap395, ap396, ap397, ap398, ap399, ap400, ap401, ap402, ap403, ap404, ap405, ap406, ap407, ap408, ap409⟩⟩
  · rintro l_ pre el F484 w483 ⟨K467, B468, B469, B470, B471, B472, B473, B474, B475, B476, B477, B478, B479, B480, B481, B482⟩ ⟨p485, s486, s487, s488, s489, s490, s491, s492, s493, s494, s495, s496, s497, s498, s499, s500, s501, s502, s503, s504, s505, B506, ap507, ap508, ap509, ap510, ap511, ap512, ap513, ap514, ap515, ap516, ap517, ap518, ap519, ap520, ap521⟩ hlen_
    have K522 := Kept.refl (fun i => (onB p116) i ∨ ((onB p141) i ∨ ((onB p187) i ∨ ((onB p216) i)))) w483
    refine wq_block ?_
    refine wq_seq ?_
    refine wq_region ?_
    refine wl_v (.agg #[.int .i64 ((f).W), .int .i64 ((f).H), f0, f1, f2]) rfl rfl (y_load_stc stcT_frame rfl s492 B471 ⟨rfl, rfl⟩) ?_
    refine wl_v (.int .i64 (p)) rfl rfl (y_load_cel rfl s493 Try.underlying3 B472 rfl ⟨rfl, rfl⟩) ?_
    refine wl_v (.int .i64 (x)) rfl rfl (y_load_cel rfl s494 Try.underlying3 B473 rfl ⟨rfl, rfl⟩) ?_
    refine wl_v (.int .i64 (y)) rfl rfl (y_load_cel rfl s495 Try.underlying3 B474 rfl ⟨rfl, rfl⟩) ?_
    refine wl_v (.agg #[.int .i64 (el.X), .int .i64 (el.Y)]) rfl rfl (y_load_stc stcT_vector rfl s502 B506 ⟨rfl, rfl⟩) ?_
    refine wl_call (R := fun v_ w_ => v_ = .tuple #[blkV (mvB (f) (p) (x) (y) (el.X) (el.Y)), .int .i64 (mvE (f) (p) (x) (y) (el.X) (el.Y))] ∧ Kept (fun _ => False) w483 w_) rfl rfl (y_cs rfl rfl rfl (fun _ _ => by kernel_rfl) (ev_func _) (vsC rfl (vsC rfl (vsC rfl (vsC rfl (vsC rfl vsN))))) (mo_predict (p) (x) (y) (el.X) (el.Y) (f) (f0) (f1) (f2) (T_f0) (T_f1) (T_f2) _  B468 B469 B470 ) (fun e_ w_ h_ => ⟨_, h_.1, rfl, h_.2⟩)) ?_
    rintro _ w523 ⟨rfl, k524⟩
    have B525 := B468.all k524 Apart.none
    have B526 := B469.all k524 Apart.none
    have B527 := B470.all k524 Apart.none
    have B528 := B471.all k524 id
    have B529 := B472.all k524 id
    have B530 := B473.all k524 id
    have B531 := B474.all k524 id
    have B532 := B475.all k524 id
    have B533 := B476.all k524 id
    have B534 := B477.all k524 id
    have B535 := B478.all k524 id
    have B536 := B479.all k524 id
    have B537 := B480.all k524 id
    have B538 := B481.all k524 Apart.none
    have B539 := B482.all k524 Apart.none
    have B540 := B506.all k524 id
    have K541 := K522.trans k524 (fun _ _ x => x.elim)
    refine wl_v (.tuple #[blkV (mvB (f) (p) (x) (y) (el.X) (el.Y)), .int .i64 (mvE (f) (p) (x) (y) (el.X) (el.Y))]) rfl rfl (y_mov rfl rfl ⟨rfl, rfl⟩) ?_
    refine wl_v (blkV (mvB (f) (p) (x) (y) (el.X) (el.Y))) rfl rfl (y_ext rfl rfl rfl ⟨rfl, rfl⟩) ?_
    refine wl_v (.int .i64 (mvE (f) (p) (x) (y) (el.X) (el.Y))) rfl rfl (y_ext rfl rfl rfl ⟨rfl, rfl⟩) ?_
    refine wl_alloc_blk rfl rfl rfl blkT_block.2.2 fun p542 w543 e546 B544 k545 => ?_
    have g547 := onB_new (Nat.le_of_eq e546.symm)
    have gr548 : Grew w483 noB (onB p542) := Grew.new K541 g547
    have ap549 : Apart (onB p542) (T_f0) := Apart.new g547 (B525).live
    have ap550 : Apart (onB p542) (T_f1) := Apart.new g547 (B526).live
    have ap551 : Apart (onB p542) (T_f2) := Apart.new g547 (B527).live
    have ap552 : Apart (onB p542) (onB p1) := Apart.new g547 (onB_live (B528).lt)
    have ap553 : Apart (onB p542) (onB p14) := Apart.new g547 (onB_live (B529).lt)
    have ap554 : Apart (onB p542) (onB p31) := Apart.new g547 (onB_live (B530).lt)
    have ap555 : Apart (onB p542) (onB p50) := Apart.new g547 (onB_live (B531).lt)
    have ap556 : Apart (onB p542) (onB p71) := Apart.new g547 (onB_live (B532).lt)
    have ap557 : Apart (onB p542) (onB p93) := Apart.new g547 (onB_live (B533).lt)
    have ap558 : Apart (onB p542) (onB p116) := Apart.new g547 (onB_live (B534).lt)
    have ap559 : Apart (onB p542) (onB p141) := Apart.new g547 (onB_live (B535).lt)
    have ap560 : Apart (onB p542) (onB p187) := Apart.new g547 (onB_live (B536).lt)
    have ap561 : Apart (onB p542) (onB p216) := Apart.new g547 (onB_live (B537).lt)
    have ap562 : Apart (onB p542) (T304) := Apart.new g547 (B538).live
    have ap563 : Apart (onB p542) (T305) := Apart.new g547 (B539).live
    have ap564 : Apart (onB p542) (onB p485) := Apart.new g547 (onB_live (B540).lt)
    clear e546 g547
    have B565 := B525.all k545 Apart.none
    have B566 := B526.all k545 Apart.none
    have B567 := B527.all k545 Apart.none
    have B568 := B528.all k545 id
    have B569 := B529.all k545 id
    have B570 := B530.all k545 id
    have B571 := B531.all k545 id
    have B572 := B532.all k545 id
    have B573 := B533.all k545 id
    have B574 := B534.all k545 id
    have B575 := B535.all k545 id
    have B576 := B536.all k545 id
    have B577 := B537.all k545 id
    have B578 := B538.all k545 Apart.none
    have B579 := B539.all k545 Apart.none
    have B580 := B540.all k545 id
    have K581 := K541.trans k545 (fun _ _ x => x.elim)
    refine wl_store_blk blkT_block rfl rfl rfl rfl rfl B544 fun w582 B583 k584 => ?_
    have B585 := B565.all k584 (fun i h x => (((ap549).symm) i h x))
    have B586 := B566.all k584 (fun i h x => (((ap550).symm) i h x))
    have B587 := B567.all k584 (fun i h x => (((ap551).symm) i h x))
    have B588 := B568.all k584 (fun x => (((ap552).symm) p1 rfl x))
    have B589 := B569.all k584 (fun x => (((ap553).symm) p14 rfl x))
    have B590 := B570.all k584 (fun x => (((ap554).symm) p31 rfl x))
    have B591 := B571.all k584 (fun x => (((ap555).symm) p50 rfl x))
    have B592 := B572.all k584 (fun x => (((ap556).symm) p71 rfl x))
    have B593 := B573.all k584 (fun x => (((ap557).symm) p93 rfl x))
    have B594 := B574.all k584 (fun x => (((ap558).symm) p116 rfl x))
    have B595 := B575.all k584 (fun x => (((ap559).symm) p141 rfl x))
    have B596 := B576.all k584 (fun x => (((ap560).symm) p187 rfl x))
    have B597 := B577.all k584 (fun x => (((ap561).symm) p216 rfl x))
    have B598 := B578.all k584 (fun i h x => (((ap562).symm) i h x))
    have B599 := B579.all k584 (fun i h x => (((ap563).symm) i h x))
    have B600 := B580.all k584 (fun x => (((ap564).symm) p485 rfl x))
    have K601 := K581.trans k584 (Grew.ok (S := fun i => (onB p116) i ∨ ((onB p141) i ∨ ((onB p187) i ∨ ((onB p216) i)))) gr548 noB_le)
    refine wl_v (.int .i64 (mvE (f) (p) (x) (y) (el.X) (el.Y))) rfl rfl (y_asg rfl rfl ⟨rfl, rfl⟩) ?_
    refine wl_nil fun F602 hF603 => ?_
    have s604 : F602 0 = .agg #[.int .i64 ((f).W), .int .i64 ((f).H), f0, f1, f2] := (hF603 0).trans s486
    have s605 : F602 1 = .int .i64 (p) := (hF603 1).trans s487
    have s606 : F602 2 = .int .i64 (x) := (hF603 2).trans s488
    have s607 : F602 3 = .int .i64 (y) := (hF603 3).trans s489
    have s608 : F602 4 = blkV (b) := (hF603 4).trans s490
    have s609 : F602 5 = .agg #[.int .i64 (X), .int .i64 (Y)] := (hF603 5).trans s491
    have s610 : F602 6 = .pointer (some ⟨p1, 0, none⟩) := (hF603 6).trans s492
    have s611 : F602 7 = .pointer (some ⟨p14, 0, none⟩) := (hF603 7).trans s493
    have s612 : F602 8 = .pointer (some ⟨p31, 0, none⟩) := (hF603 8).trans s494
    have s613 : F602 9 = .pointer (some ⟨p50, 0, none⟩) := (hF603 9).trans s495
    have s614 : F602 10 = .pointer (some ⟨p71, 0, none⟩) := (hF603 10).trans s496
    have s615 : F602 11 = .pointer (some ⟨p93, 0, none⟩) := (hF603 11).trans s497
    have s616 : F602 12 = .pointer (some ⟨p116, 0, none⟩) := (hF603 12).trans s498
    have s617 : F602 13 = .pointer (some ⟨p141, 0, none⟩) := (hF603 13).trans s499
    have s618 : F602 14 = .pointer (some ⟨p187, 0, none⟩) := (hF603 14).trans s500
    have s619 : F602 15 = .pointer (some ⟨p216, 0, none⟩) := (hF603 15).trans s501
    have s620 : F602 16 = .pointer (some ⟨p485, 0, none⟩) := (hF603 16).trans s502
    have s621 : F602 22 = .func (.func 52) #[] #[.pointer (some ⟨v300, 0, none⟩), .pointer (some ⟨v301, 0, none⟩)] := (hF603 22).trans s503
    have s622 : F602 23 = .agg #[.int .i64 (el.X), .int .i64 (el.Y)] := (hF603 23).trans s504
    have s623 : F602 50 = undef := (hF603 50).trans s505
    have s624 : F602 17 = .pointer (some ⟨p542, 0, none⟩) := (hF603 17).trans rfl
    have s625 : F602 18 = .int .i64 (mvE (f) (p) (x) (y) (el.X) (el.Y)) := (hF603 18).trans rfl
    clear hF603
    refine then_normal ?_
    refine wq_seq ?_
    refine wq_seq ?_
    refine wq_region ?_
    refine wl_v (.int .i64 (mvE (f) (p) (x) (y) (el.X) (el.Y))) rfl rfl (y_mov rfl s625 ⟨rfl, rfl⟩) ?_
    refine wl_v (.bool (decide ((mvE (f) (p) (x) (y) (el.X) (el.Y)) ≠ (0)))) rfl rfl (y_neqI rfl rfl rfl rfl ⟨rfl, rfl⟩) ?_
    refine wl_nil fun F626 hF627 => ?_
    have s628 : F626 0 = .agg #[.int .i64 ((f).W), .int .i64 ((f).H), f0, f1, f2] := (hF627 0).trans s604
    have s629 : F626 1 = .int .i64 (p) := (hF627 1).trans s605
    have s630 : F626 2 = .int .i64 (x) := (hF627 2).trans s606
    have s631 : F626 3 = .int .i64 (y) := (hF627 3).trans s607
    have s632 : F626 4 = blkV (b) := (hF627 4).trans s608
    have s633 : F626 5 = .agg #[.int .i64 (X), .int .i64 (Y)] := (hF627 5).trans s609
    have s634 : F626 6 = .pointer (some ⟨p1, 0, none⟩) := (hF627 6).trans s610
    have s635 : F626 7 = .pointer (some ⟨p14, 0, none⟩) := (hF627 7).trans s611
    have s636 : F626 8 = .pointer (some ⟨p31, 0, none⟩) := (hF627 8).trans s612
    have s637 : F626 9 = .pointer (some ⟨p50, 0, none⟩) := (hF627 9).trans s613
    have s638 : F626 10 = .pointer (some ⟨p71, 0, none⟩) := (hF627 10).trans s614
    have s639 : F626 11 = .pointer (some ⟨p93, 0, none⟩) := (hF627 11).trans s615
    have s640 : F626 12 = .pointer (some ⟨p116, 0, none⟩) := (hF627 12).trans s616
    have s641 : F626 13 = .pointer (some ⟨p141, 0, none⟩) := (hF627 13).trans s617
    have s642 : F626 14 = .pointer (some ⟨p187, 0, none⟩) := (hF627 14).trans s618
    have s643 : F626 15 = .pointer (some ⟨p216, 0, none⟩) := (hF627 15).trans s619
    have s644 : F626 16 = .pointer (some ⟨p485, 0, none⟩) := (hF627 16).trans s620
    have s645 : F626 22 = .func (.func 52) #[] #[.pointer (some ⟨v300, 0, none⟩), .pointer (some ⟨v301, 0, none⟩)] := (hF627 22).trans s621
    have s646 : F626 23 = .agg #[.int .i64 (el.X), .int .i64 (el.Y)] := (hF627 23).trans s622
    have s647 : F626 50 = undef := (hF627 50).trans s623
    have s648 : F626 17 = .pointer (some ⟨p542, 0, none⟩) := (hF627 17).trans s624
    have s649 : F626 18 = .int .i64 (mvE (f) (p) (x) (y) (el.X) (el.Y)) := (hF627 18).trans s625
    have s650 : F626 34 = .bool (decide ((mvE (f) (p) (x) (y) (el.X) (el.Y)) ≠ (0))) := (hF627 34).trans rfl
    clear hF627
    refine then_normal ?_
    refine wq_cond s650 (fun c651 => ?_) (fun c651 => ?_)
    · replace c651 := of_decide_eq_true c651
      refine wq_seq ?_
      refine wq_region ?_
      refine wl_v (.agg #[.int .i64 (0), .int .i64 (0)]) rfl rfl (y_buildL (l' := []) (cells := #[.int .i64 (0), .int .i64 (0)]) rfl bpN (by kernel_rfl) rfl ⟨rfl, rfl⟩) ?_
      refine wl_store_stc (us := [.int .i64 (0), .int .i64 (0)]) stcT_vector rfl rfl rfl s640 rfl B594 rfl (oneI rfl (oneI rfl oneN)) fun w652 B653 k654 => ?_
      have B655 := B585.all k654 (fun i h x => (((ap122).symm) i h x))
      have B656 := B586.all k654 (fun i h x => (((ap123).symm) i h x))
      have B657 := B587.all k654 (fun i h x => (((ap124).symm) i h x))
      have B658 := B588.all k654 (fun x => (((ap125).symm) p1 rfl x))
      have B659 := B589.all k654 (fun x => (((ap126).symm) p14 rfl x))
      have B660 := B590.all k654 (fun x => (((ap127).symm) p31 rfl x))
      have B661 := B591.all k654 (fun x => (((ap128).symm) p50 rfl x))
      have B662 := B592.all k654 (fun x => (((ap129).symm) p71 rfl x))
      have B663 := B593.all k654 (fun x => (((ap130).symm) p93 rfl x))
      have B664 := B595.all k654 (fun x => ((ap158) p141 rfl x))
      have B665 := B596.all k654 (fun x => ((ap202) p187 rfl x))
      have B666 := B597.all k654 (fun x => ((ap233) p216 rfl x))
      have B667 := B598.all k654 (fun i h x => ((ap335) i h x))
      have B668 := B599.all k654 (fun i h x => ((ap349) i h x))
      have B669 := B600.all k654 (fun x => ((ap516) p485 rfl x))
      have B670 := B583.all k654 (fun x => ((ap558) p542 rfl x))
      have K671 := K601.trans k654 (Grew.ok (S := fun i => (onB p116) i ∨ ((onB p141) i ∨ ((onB p187) i ∨ ((onB p216) i)))) (Grew.refl w483 (onB p116)) (fun _ x => Or.inl x))
      refine wl_store_cel rfl rfl rfl s641 rfl B664 (by rfl) (by kernel_rfl) fun w672 B673 k674 => ?_
      have B675 := B655.all k674 (fun i h x => (((ap149).symm) i h x))
      have B676 := B656.all k674 (fun i h x => (((ap150).symm) i h x))
      have B677 := B657.all k674 (fun i h x => (((ap151).symm) i h x))
      have B678 := B658.all k674 (fun x => (((ap152).symm) p1 rfl x))
      have B679 := B659.all k674 (fun x => (((ap153).symm) p14 rfl x))
      have B680 := B660.all k674 (fun x => (((ap154).symm) p31 rfl x))
      have B681 := B661.all k674 (fun x => (((ap155).symm) p50 rfl x))
      have B682 := B662.all k674 (fun x => (((ap156).symm) p71 rfl x))
      have B683 := B663.all k674 (fun x => (((ap157).symm) p93 rfl x))
      have B684 := B653.all k674 (fun x => (((ap158).symm) p116 rfl x))
      have B685 := B665.all k674 (fun x => ((ap203) p187 rfl x))
      have B686 := B666.all k674 (fun x => ((ap234) p216 rfl x))
      have B687 := B667.all k674 (fun i h x => ((ap336) i h x))
      have B688 := B668.all k674 (fun i h x => ((ap350) i h x))
      have B689 := B669.all k674 (fun x => ((ap517) p485 rfl x))
      have B690 := B670.all k674 (fun x => ((ap559) p542 rfl x))
      have K691 := K671.trans k674 (Grew.ok (S := fun i => (onB p116) i ∨ ((onB p141) i ∨ ((onB p187) i ∨ ((onB p216) i)))) (Grew.refl w483 (onB p141)) (fun _ x => Or.inr (Or.inl x)))
      refine wl_nil fun F692 hF693 => ?_
      have s694 : F692 12 = .pointer (some ⟨p116, 0, none⟩) := (hF693 12).trans s640
      have s695 : F692 13 = .pointer (some ⟨p141, 0, none⟩) := (hF693 13).trans s641
      have s696 : F692 50 = undef := (hF693 50).trans s647
      clear hF693
      refine then_normal ?_
      refine wq_ret ?_
      refine then_ret ?_
      refine in_ret ?_
      exact ⟨Cells.keeps (Cells.or (B477).cells (Cells.or (B478).cells (Cells.or (B479).cells (B480).cells))) K691 _, ⟨K467.trans K691 (fun i hi x => (x.elim (fun y => ((Grew.ok (S := fun _ => False) gr121 noB_le) i hi y)) (fun y => (y.elim (fun y => ((Grew.ok (S := fun _ => False) gr148 noB_le) i hi y)) (fun y => (y.elim (fun y => ((Grew.ok (S := fun _ => False) gr192 noB_le) i hi y)) (fun y => ((Grew.ok (S := fun _ => False) gr223 noB_le) i hi y)))))))), B675, B676, B677, B678, B679, B680, B681, B682, B683, B684, B673, B687, B688, (fun h => absurd ((mvE_iff f p x y el.X el.Y).2 ⟨h, el.ok⟩) (by assumption))⟩⟩
    · replace c651 := of_decide_eq_false c651
      refine wq_skip ?_
      refine then_normal ?_
      refine wq_seq ?_
      have he : mvE f p x y el.X el.Y = 0 := by first | assumption | (apply Decidable.byContradiction; assumption)
      refine wq_region ?_
      refine wl_v (blkV (mvB (f) (p) (x) (y) (el.X) (el.Y))) rfl rfl (y_load_blk blkT_block rfl s648 B583 ⟨rfl, rfl⟩) ?_
      refine wl_v (blkV (b)) rfl rfl (y_load_blk blkT_block rfl s638 B592 ⟨rfl, rfl⟩) ?_
      refine wl_call (R := fun v_ w_ => v_ = .int .i64 (costF (mvB (f) (p) (x) (y) (el.X) (el.Y)) (b)) ∧ Kept (fun _ => False) w582 w_) rfl rfl (y_cs rfl rfl rfl (fun _ _ => by kernel_rfl) (ev_func _) (vsC rfl (vsC rfl vsN)) (il_cost (mvB (f) (p) (x) (y) (el.X) (el.Y)) (b)  _   ) (fun e_ w_ h_ => ⟨_, h_.1, rfl, h_.2⟩)) ?_
      rintro _ w697 ⟨rfl, k698⟩
      have B699 := B585.all k698 Apart.none
      have B700 := B586.all k698 Apart.none
      have B701 := B587.all k698 Apart.none
      have B702 := B588.all k698 id
      have B703 := B589.all k698 id
      have B704 := B590.all k698 id
      have B705 := B591.all k698 id
      have B706 := B592.all k698 id
      have B707 := B593.all k698 id
      have B708 := B594.all k698 id
      have B709 := B595.all k698 id
      have B710 := B596.all k698 id
      have B711 := B597.all k698 id
      have B712 := B598.all k698 Apart.none
      have B713 := B599.all k698 Apart.none
      have B714 := B600.all k698 id
      have B715 := B583.all k698 id
      have K716 := K601.trans k698 (fun _ _ x => x.elim)
      refine wl_v (.int .i64 (costF (mvB (f) (p) (x) (y) (el.X) (el.Y)) (b))) rfl rfl (y_asg rfl rfl ⟨rfl, rfl⟩) ?_
      refine wl_nil fun F717 hF718 => ?_
      have s719 : F717 0 = .agg #[.int .i64 ((f).W), .int .i64 ((f).H), f0, f1, f2] := (hF718 0).trans s628
      have s720 : F717 1 = .int .i64 (p) := (hF718 1).trans s629
      have s721 : F717 2 = .int .i64 (x) := (hF718 2).trans s630
      have s722 : F717 3 = .int .i64 (y) := (hF718 3).trans s631
      have s723 : F717 4 = blkV (b) := (hF718 4).trans s632
      have s724 : F717 5 = .agg #[.int .i64 (X), .int .i64 (Y)] := (hF718 5).trans s633
      have s725 : F717 6 = .pointer (some ⟨p1, 0, none⟩) := (hF718 6).trans s634
      have s726 : F717 7 = .pointer (some ⟨p14, 0, none⟩) := (hF718 7).trans s635
      have s727 : F717 8 = .pointer (some ⟨p31, 0, none⟩) := (hF718 8).trans s636
      have s728 : F717 9 = .pointer (some ⟨p50, 0, none⟩) := (hF718 9).trans s637
      have s729 : F717 10 = .pointer (some ⟨p71, 0, none⟩) := (hF718 10).trans s638
      have s730 : F717 11 = .pointer (some ⟨p93, 0, none⟩) := (hF718 11).trans s639
      have s731 : F717 12 = .pointer (some ⟨p116, 0, none⟩) := (hF718 12).trans s640
      have s732 : F717 13 = .pointer (some ⟨p141, 0, none⟩) := (hF718 13).trans s641
      have s733 : F717 14 = .pointer (some ⟨p187, 0, none⟩) := (hF718 14).trans s642
      have s734 : F717 15 = .pointer (some ⟨p216, 0, none⟩) := (hF718 15).trans s643
      have s735 : F717 16 = .pointer (some ⟨p485, 0, none⟩) := (hF718 16).trans s644
      have s736 : F717 22 = .func (.func 52) #[] #[.pointer (some ⟨v300, 0, none⟩), .pointer (some ⟨v301, 0, none⟩)] := (hF718 22).trans s645
      have s737 : F717 23 = .agg #[.int .i64 (el.X), .int .i64 (el.Y)] := (hF718 23).trans s646
      have s738 : F717 50 = undef := (hF718 50).trans s647
      have s739 : F717 17 = .pointer (some ⟨p542, 0, none⟩) := (hF718 17).trans s648
      have s740 : F717 18 = .int .i64 (mvE (f) (p) (x) (y) (el.X) (el.Y)) := (hF718 18).trans s649
      have s741 : F717 34 = .bool (decide ((mvE (f) (p) (x) (y) (el.X) (el.Y)) ≠ (0))) := (hF718 34).trans s650
      have s742 : F717 19 = .int .i64 (costF (mvB (f) (p) (x) (y) (el.X) (el.Y)) (b)) := (hF718 19).trans rfl
      clear hF718
      refine then_normal ?_
      refine wq_seq ?_
      by_cases d743 : ((foldV f p x y b pre).n) < (0)
      · skip
        refine wq_region ?_
        refine wl_v (.int .i64 ((foldV f p x y b pre).n)) rfl rfl (y_load_cel rfl s734 Try.underlying3 B711 rfl ⟨rfl, rfl⟩) ?_
        refine wl_v (.bool true) rfl rfl (y_lss rfl rfl rfl (decide_eq_true d743) ⟨rfl, rfl⟩) ?_
        refine wl_v (.bool true) rfl rfl (y_mov rfl rfl ⟨rfl, rfl⟩) ?_
        refine wl_unless 2 false 41 rfl rfl rfl (Or.inl rfl) rfl ?_
        refine wl_unless 2 false 41 rfl rfl rfl (Or.inl rfl) rfl ?_
        refine wl_unless 2 false 41 rfl rfl rfl (Or.inl rfl) rfl ?_
        refine wl_v (.bool true) rfl rfl (y_pickT rfl rfl rfl ⟨rfl, rfl⟩) ?_
        refine wl_nil fun F744 hF745 => ?_
        have s746 : F744 0 = .agg #[.int .i64 ((f).W), .int .i64 ((f).H), f0, f1, f2] := (hF745 0).trans s719
        have s747 : F744 1 = .int .i64 (p) := (hF745 1).trans s720
        have s748 : F744 2 = .int .i64 (x) := (hF745 2).trans s721
        have s749 : F744 3 = .int .i64 (y) := (hF745 3).trans s722
        have s750 : F744 4 = blkV (b) := (hF745 4).trans s723
        have s751 : F744 5 = .agg #[.int .i64 (X), .int .i64 (Y)] := (hF745 5).trans s724
        have s752 : F744 6 = .pointer (some ⟨p1, 0, none⟩) := (hF745 6).trans s725
        have s753 : F744 7 = .pointer (some ⟨p14, 0, none⟩) := (hF745 7).trans s726
        have s754 : F744 8 = .pointer (some ⟨p31, 0, none⟩) := (hF745 8).trans s727
        have s755 : F744 9 = .pointer (some ⟨p50, 0, none⟩) := (hF745 9).trans s728
        have s756 : F744 10 = .pointer (some ⟨p71, 0, none⟩) := (hF745 10).trans s729
        have s757 : F744 11 = .pointer (some ⟨p93, 0, none⟩) := (hF745 11).trans s730
        have s758 : F744 12 = .pointer (some ⟨p116, 0, none⟩) := (hF745 12).trans s731
        have s759 : F744 13 = .pointer (some ⟨p141, 0, none⟩) := (hF745 13).trans s732
        have s760 : F744 14 = .pointer (some ⟨p187, 0, none⟩) := (hF745 14).trans s733
        have s761 : F744 15 = .pointer (some ⟨p216, 0, none⟩) := (hF745 15).trans s734
        have s762 : F744 16 = .pointer (some ⟨p485, 0, none⟩) := (hF745 16).trans s735
        have s763 : F744 22 = .func (.func 52) #[] #[.pointer (some ⟨v300, 0, none⟩), .pointer (some ⟨v301, 0, none⟩)] := (hF745 22).trans s736
        have s764 : F744 23 = .agg #[.int .i64 (el.X), .int .i64 (el.Y)] := (hF745 23).trans s737
        have s765 : F744 50 = undef := (hF745 50).trans s738
        have s766 : F744 17 = .pointer (some ⟨p542, 0, none⟩) := (hF745 17).trans s739
        have s767 : F744 18 = .int .i64 (mvE (f) (p) (x) (y) (el.X) (el.Y)) := (hF745 18).trans s740
        have s768 : F744 34 = .bool (decide ((mvE (f) (p) (x) (y) (el.X) (el.Y)) ≠ (0))) := (hF745 34).trans s741
        have s769 : F744 19 = .int .i64 (costF (mvB (f) (p) (x) (y) (el.X) (el.Y)) (b)) := (hF745 19).trans s742
        have s770 : F744 45 = .bool true := (hF745 45).trans rfl
        clear hF745
        refine then_normal ?_
        refine wq_cond (t := true) s770 (fun _ => ?_) (fun e => by cases e)
        refine wq_region ?_
        refine wl_v (.agg #[.int .i64 (el.X), .int .i64 (el.Y)]) rfl rfl (y_load_stc stcT_vector rfl s762 B714 ⟨rfl, rfl⟩) ?_
        refine wl_v (.int .i64 (costF (mvB (f) (p) (x) (y) (el.X) (el.Y)) (b))) rfl rfl (y_mov rfl s769 ⟨rfl, rfl⟩) ?_
        refine wl_store_stc (us := [.int .i64 (el.X), .int .i64 (el.Y)]) stcT_vector rfl rfl rfl s760 rfl B710 rfl (oneI rfl (oneI rfl oneN)) fun w771 B772 k773 => ?_
        have B774 := B699.all k773 (fun i h x => (((ap193).symm) i h x))
        have B775 := B700.all k773 (fun i h x => (((ap194).symm) i h x))
        have B776 := B701.all k773 (fun i h x => (((ap195).symm) i h x))
        have B777 := B702.all k773 (fun x => (((ap196).symm) p1 rfl x))
        have B778 := B703.all k773 (fun x => (((ap197).symm) p14 rfl x))
        have B779 := B704.all k773 (fun x => (((ap198).symm) p31 rfl x))
        have B780 := B705.all k773 (fun x => (((ap199).symm) p50 rfl x))
        have B781 := B706.all k773 (fun x => (((ap200).symm) p71 rfl x))
        have B782 := B707.all k773 (fun x => (((ap201).symm) p93 rfl x))
        have B783 := B708.all k773 (fun x => (((ap202).symm) p116 rfl x))
        have B784 := B709.all k773 (fun x => (((ap203).symm) p141 rfl x))
        have B785 := B711.all k773 (fun x => ((ap235) p216 rfl x))
        have B786 := B712.all k773 (fun i h x => ((ap337) i h x))
        have B787 := B713.all k773 (fun i h x => ((ap351) i h x))
        have B788 := B714.all k773 (fun x => ((ap518) p485 rfl x))
        have B789 := B715.all k773 (fun x => ((ap560) p542 rfl x))
        have K790 := K716.trans k773 (Grew.ok (S := fun i => (onB p116) i ∨ ((onB p141) i ∨ ((onB p187) i ∨ ((onB p216) i)))) (Grew.refl w483 (onB p187)) (fun _ x => Or.inr (Or.inr (Or.inl x))))
        refine wl_store_cel rfl rfl rfl s761 rfl B785 (by rfl) (by kernel_rfl) fun w791 B792 k793 => ?_
        have B794 := B774.all k793 (fun i h x => (((ap224).symm) i h x))
        have B795 := B775.all k793 (fun i h x => (((ap225).symm) i h x))
        have B796 := B776.all k793 (fun i h x => (((ap226).symm) i h x))
        have B797 := B777.all k793 (fun x => (((ap227).symm) p1 rfl x))
        have B798 := B778.all k793 (fun x => (((ap228).symm) p14 rfl x))
        have B799 := B779.all k793 (fun x => (((ap229).symm) p31 rfl x))
        have B800 := B780.all k793 (fun x => (((ap230).symm) p50 rfl x))
        have B801 := B781.all k793 (fun x => (((ap231).symm) p71 rfl x))
        have B802 := B782.all k793 (fun x => (((ap232).symm) p93 rfl x))
        have B803 := B783.all k793 (fun x => (((ap233).symm) p116 rfl x))
        have B804 := B784.all k793 (fun x => (((ap234).symm) p141 rfl x))
        have B805 := B772.all k793 (fun x => (((ap235).symm) p187 rfl x))
        have B806 := B786.all k793 (fun i h x => ((ap338) i h x))
        have B807 := B787.all k793 (fun i h x => ((ap352) i h x))
        have B808 := B788.all k793 (fun x => ((ap519) p485 rfl x))
        have B809 := B789.all k793 (fun x => ((ap561) p542 rfl x))
        have K810 := K790.trans k793 (Grew.ok (S := fun i => (onB p116) i ∨ ((onB p141) i ∨ ((onB p187) i ∨ ((onB p216) i)))) (Grew.refl w483 (onB p216)) (fun _ x => Or.inr (Or.inr (Or.inr x))))
        refine wl_nil fun F811 hF812 => ?_
        have s813 : F811 0 = .agg #[.int .i64 ((f).W), .int .i64 ((f).H), f0, f1, f2] := (hF812 0).trans s746
        have s814 : F811 1 = .int .i64 (p) := (hF812 1).trans s747
        have s815 : F811 2 = .int .i64 (x) := (hF812 2).trans s748
        have s816 : F811 3 = .int .i64 (y) := (hF812 3).trans s749
        have s817 : F811 4 = blkV (b) := (hF812 4).trans s750
        have s818 : F811 5 = .agg #[.int .i64 (X), .int .i64 (Y)] := (hF812 5).trans s751
        have s819 : F811 6 = .pointer (some ⟨p1, 0, none⟩) := (hF812 6).trans s752
        have s820 : F811 7 = .pointer (some ⟨p14, 0, none⟩) := (hF812 7).trans s753
        have s821 : F811 8 = .pointer (some ⟨p31, 0, none⟩) := (hF812 8).trans s754
        have s822 : F811 9 = .pointer (some ⟨p50, 0, none⟩) := (hF812 9).trans s755
        have s823 : F811 10 = .pointer (some ⟨p71, 0, none⟩) := (hF812 10).trans s756
        have s824 : F811 11 = .pointer (some ⟨p93, 0, none⟩) := (hF812 11).trans s757
        have s825 : F811 12 = .pointer (some ⟨p116, 0, none⟩) := (hF812 12).trans s758
        have s826 : F811 13 = .pointer (some ⟨p141, 0, none⟩) := (hF812 13).trans s759
        have s827 : F811 14 = .pointer (some ⟨p187, 0, none⟩) := (hF812 14).trans s760
        have s828 : F811 15 = .pointer (some ⟨p216, 0, none⟩) := (hF812 15).trans s761
        have s829 : F811 16 = .pointer (some ⟨p485, 0, none⟩) := (hF812 16).trans s762
        have s830 : F811 22 = .func (.func 52) #[] #[.pointer (some ⟨v300, 0, none⟩), .pointer (some ⟨v301, 0, none⟩)] := (hF812 22).trans s763
        have s831 : F811 23 = .agg #[.int .i64 (el.X), .int .i64 (el.Y)] := (hF812 23).trans s764
        have s832 : F811 50 = undef := (hF812 50).trans s765
        have s833 : F811 17 = .pointer (some ⟨p542, 0, none⟩) := (hF812 17).trans s766
        have s834 : F811 18 = .int .i64 (mvE (f) (p) (x) (y) (el.X) (el.Y)) := (hF812 18).trans s767
        have s835 : F811 34 = .bool (decide ((mvE (f) (p) (x) (y) (el.X) (el.Y)) ≠ (0))) := (hF812 34).trans s768
        have s836 : F811 19 = .int .i64 (costF (mvB (f) (p) (x) (y) (el.X) (el.Y)) (b)) := (hF812 19).trans s769
        have s837 : F811 45 = .bool true := (hF812 45).trans s770
        clear hF812
        refine in_normal ?_
        exact ⟨Cells.keeps (Cells.or (B477).cells (Cells.or (B478).cells (Cells.or (B479).cells (B480).cells))) K810 _, K810.mono (fun i hi x => (x.elim (fun y => ⟨fun e => (ap335).symm i y (by rw [(B481).1]; exact e), fun e => (ap349).symm i y (by rw [(B482).1]; exact e)⟩) (fun y => (y.elim (fun y => ⟨fun e => (ap336).symm i y (by rw [(B481).1]; exact e), fun e => (ap350).symm i y (by rw [(B482).1]; exact e)⟩) (fun y => (y.elim (fun y => ⟨fun e => (ap337).symm i y (by rw [(B481).1]; exact e), fun e => (ap351).symm i y (by rw [(B482).1]; exact e)⟩) (fun y => ⟨fun e => (ap338).symm i y (by rw [(B481).1]; exact e), fun e => (ap352).symm i y (by rw [(B482).1]; exact e)⟩))))))), ⟨K467.trans K810 (fun i hi x => (x.elim (fun y => ((Grew.ok (S := fun _ => False) gr121 noB_le) i hi y)) (fun y => (y.elim (fun y => ((Grew.ok (S := fun _ => False) gr148 noB_le) i hi y)) (fun y => (y.elim (fun y => ((Grew.ok (S := fun _ => False) gr192 noB_le) i hi y)) (fun y => ((Grew.ok (S := fun _ => False) gr223 noB_le) i hi y)))))))), B794, B795, B796, B797, B798, B799, B800, B801, B802, B803, B804, (by first | (rw [fold_take he (Or.inl (by assumption))]; exact B805) | (rw [fold_take he (Or.inr (by assumption))]; exact B805) | (rw [fold_keep (by rintro (h | h) <;> exact absurd h (by assumption))]; exact B805)), (by first | (rw [fold_take he (Or.inl (by assumption))]; exact B792) | (rw [fold_take he (Or.inr (by assumption))]; exact B792) | (rw [fold_keep (by rintro (h | h) <;> exact absurd h (by assumption))]; exact B792)), B806, B807⟩⟩
      · skip
        refine wq_region ?_
        refine wl_v (.int .i64 ((foldV f p x y b pre).n)) rfl rfl (y_load_cel rfl s734 Try.underlying3 B711 rfl ⟨rfl, rfl⟩) ?_
        refine wl_v (.bool false) rfl rfl (y_lss rfl rfl rfl (decide_eq_false d743) ⟨rfl, rfl⟩) ?_
        refine wl_v (.bool false) rfl rfl (y_mov rfl rfl ⟨rfl, rfl⟩) ?_
        refine wl_vw (.int .i64 (costF (mvB (f) (p) (x) (y) (el.X) (el.Y)) (b))) 2 false 41 rfl rfl rfl rfl rfl (y_mov rfl s742 ⟨rfl, rfl⟩) ?_
        refine wl_vw (.int .i64 ((foldV f p x y b pre).n)) 2 false 41 rfl rfl rfl rfl rfl (y_load_cel rfl s734 Try.underlying3 B711 rfl ⟨rfl, rfl⟩) ?_
        refine wl_vw (.bool (decide ((costF (mvB (f) (p) (x) (y) (el.X) (el.Y)) (b)) < ((foldV f p x y b pre).n)))) 2 false 41 rfl rfl rfl rfl rfl (y_lss rfl rfl rfl rfl ⟨rfl, rfl⟩) ?_
        refine wl_v (.bool (decide ((costF (mvB (f) (p) (x) (y) (el.X) (el.Y)) (b)) < ((foldV f p x y b pre).n)))) rfl rfl (y_pickF rfl rfl rfl ⟨rfl, rfl⟩) ?_
        refine wl_nil fun F838 hF839 => ?_
        have s840 : F838 0 = .agg #[.int .i64 ((f).W), .int .i64 ((f).H), f0, f1, f2] := (hF839 0).trans s719
        have s841 : F838 1 = .int .i64 (p) := (hF839 1).trans s720
        have s842 : F838 2 = .int .i64 (x) := (hF839 2).trans s721
        have s843 : F838 3 = .int .i64 (y) := (hF839 3).trans s722
        have s844 : F838 4 = blkV (b) := (hF839 4).trans s723
        have s845 : F838 5 = .agg #[.int .i64 (X), .int .i64 (Y)] := (hF839 5).trans s724
        have s846 : F838 6 = .pointer (some ⟨p1, 0, none⟩) := (hF839 6).trans s725
        have s847 : F838 7 = .pointer (some ⟨p14, 0, none⟩) := (hF839 7).trans s726
        have s848 : F838 8 = .pointer (some ⟨p31, 0, none⟩) := (hF839 8).trans s727
        have s849 : F838 9 = .pointer (some ⟨p50, 0, none⟩) := (hF839 9).trans s728
        have s850 : F838 10 = .pointer (some ⟨p71, 0, none⟩) := (hF839 10).trans s729
        have s851 : F838 11 = .pointer (some ⟨p93, 0, none⟩) := (hF839 11).trans s730
        have s852 : F838 12 = .pointer (some ⟨p116, 0, none⟩) := (hF839 12).trans s731
        have s853 : F838 13 = .pointer (some ⟨p141, 0, none⟩) := (hF839 13).trans s732
        have s854 : F838 14 = .pointer (some ⟨p187, 0, none⟩) := (hF839 14).trans s733
        have s855 : F838 15 = .pointer (some ⟨p216, 0, none⟩) := (hF839 15).trans s734
        have s856 : F838 16 = .pointer (some ⟨p485, 0, none⟩) := (hF839 16).trans s735
        have s857 : F838 22 = .func (.func 52) #[] #[.pointer (some ⟨v300, 0, none⟩), .pointer (some ⟨v301, 0, none⟩)] := (hF839 22).trans s736
        have s858 : F838 23 = .agg #[.int .i64 (el.X), .int .i64 (el.Y)] := (hF839 23).trans s737
        have s859 : F838 50 = undef := (hF839 50).trans s738
        have s860 : F838 17 = .pointer (some ⟨p542, 0, none⟩) := (hF839 17).trans s739
        have s861 : F838 18 = .int .i64 (mvE (f) (p) (x) (y) (el.X) (el.Y)) := (hF839 18).trans s740
        have s862 : F838 34 = .bool (decide ((mvE (f) (p) (x) (y) (el.X) (el.Y)) ≠ (0))) := (hF839 34).trans s741
        have s863 : F838 19 = .int .i64 (costF (mvB (f) (p) (x) (y) (el.X) (el.Y)) (b)) := (hF839 19).trans s742
        have s864 : F838 45 = .bool (decide ((costF (mvB (f) (p) (x) (y) (el.X) (el.Y)) (b)) < ((foldV f p x y b pre).n))) := (hF839 45).trans rfl
        clear hF839
        refine then_normal ?_
        refine wq_cond s864 (fun c865 => ?_) (fun c865 => ?_)
        · replace c865 := of_decide_eq_true c865
          refine wq_region ?_
          refine wl_v (.agg #[.int .i64 (el.X), .int .i64 (el.Y)]) rfl rfl (y_load_stc stcT_vector rfl s856 B714 ⟨rfl, rfl⟩) ?_
          refine wl_v (.int .i64 (costF (mvB (f) (p) (x) (y) (el.X) (el.Y)) (b))) rfl rfl (y_mov rfl s863 ⟨rfl, rfl⟩) ?_
          refine wl_store_stc (us := [.int .i64 (el.X), .int .i64 (el.Y)]) stcT_vector rfl rfl rfl s854 rfl B710 rfl (oneI rfl (oneI rfl oneN)) fun w866 B867 k868 => ?_
          have B869 := B699.all k868 (fun i h x => (((ap193).symm) i h x))
          have B870 := B700.all k868 (fun i h x => (((ap194).symm) i h x))
          have B871 := B701.all k868 (fun i h x => (((ap195).symm) i h x))
          have B872 := B702.all k868 (fun x => (((ap196).symm) p1 rfl x))
          have B873 := B703.all k868 (fun x => (((ap197).symm) p14 rfl x))
          have B874 := B704.all k868 (fun x => (((ap198).symm) p31 rfl x))
          have B875 := B705.all k868 (fun x => (((ap199).symm) p50 rfl x))
          have B876 := B706.all k868 (fun x => (((ap200).symm) p71 rfl x))
          have B877 := B707.all k868 (fun x => (((ap201).symm) p93 rfl x))
          have B878 := B708.all k868 (fun x => (((ap202).symm) p116 rfl x))
          have B879 := B709.all k868 (fun x => (((ap203).symm) p141 rfl x))
          have B880 := B711.all k868 (fun x => ((ap235) p216 rfl x))
          have B881 := B712.all k868 (fun i h x => ((ap337) i h x))
          have B882 := B713.all k868 (fun i h x => ((ap351) i h x))
          have B883 := B714.all k868 (fun x => ((ap518) p485 rfl x))
          have B884 := B715.all k868 (fun x => ((ap560) p542 rfl x))
          have K885 := K716.trans k868 (Grew.ok (S := fun i => (onB p116) i ∨ ((onB p141) i ∨ ((onB p187) i ∨ ((onB p216) i)))) (Grew.refl w483 (onB p187)) (fun _ x => Or.inr (Or.inr (Or.inl x))))
          refine wl_store_cel rfl rfl rfl s855 rfl B880 (by rfl) (by kernel_rfl) fun w886 B887 k888 => ?_
          have B889 := B869.all k888 (fun i h x => (((ap224).symm) i h x))
          have B890 := B870.all k888 (fun i h x => (((ap225).symm) i h x))
          have B891 := B871.all k888 (fun i h x => (((ap226).symm) i h x))
          have B892 := B872.all k888 (fun x => (((ap227).symm) p1 rfl x))
          have B893 := B873.all k888 (fun x => (((ap228).symm) p14 rfl x))
          have B894 := B874.all k888 (fun x => (((ap229).symm) p31 rfl x))
          have B895 := B875.all k888 (fun x => (((ap230).symm) p50 rfl x))
          have B896 := B876.all k888 (fun x => (((ap231).symm) p71 rfl x))
          have B897 := B877.all k888 (fun x => (((ap232).symm) p93 rfl x))
          have B898 := B878.all k888 (fun x => (((ap233).symm) p116 rfl x))
          have B899 := B879.all k888 (fun x => (((ap234).symm) p141 rfl x))
          have B900 := B867.all k888 (fun x => (((ap235).symm) p187 rfl x))
          have B901 := B881.all k888 (fun i h x => ((ap338) i h x))
          have B902 := B882.all k888 (fun i h x => ((ap352) i h x))
          have B903 := B883.all k888 (fun x => ((ap519) p485 rfl x))
          have B904 := B884.all k888 (fun x => ((ap561) p542 rfl x))
          have K905 := K885.trans k888 (Grew.ok (S := fun i => (onB p116) i ∨ ((onB p141) i ∨ ((onB p187) i ∨ ((onB p216) i)))) (Grew.refl w483 (onB p216)) (fun _ x => Or.inr (Or.inr (Or.inr x))))
          refine wl_nil fun F906 hF907 => ?_
          have s908 : F906 0 = .agg #[.int .i64 ((f).W), .int .i64 ((f).H), f0, f1, f2] := (hF907 0).trans s840
          have s909 : F906 1 = .int .i64 (p) := (hF907 1).trans s841
          have s910 : F906 2 = .int .i64 (x) := (hF907 2).trans s842
          have s911 : F906 3 = .int .i64 (y) := (hF907 3).trans s843
          have s912 : F906 4 = blkV (b) := (hF907 4).trans s844
          have s913 : F906 5 = .agg #[.int .i64 (X), .int .i64 (Y)] := (hF907 5).trans s845
          have s914 : F906 6 = .pointer (some ⟨p1, 0, none⟩) := (hF907 6).trans s846
          have s915 : F906 7 = .pointer (some ⟨p14, 0, none⟩) := (hF907 7).trans s847
          have s916 : F906 8 = .pointer (some ⟨p31, 0, none⟩) := (hF907 8).trans s848
          have s917 : F906 9 = .pointer (some ⟨p50, 0, none⟩) := (hF907 9).trans s849
          have s918 : F906 10 = .pointer (some ⟨p71, 0, none⟩) := (hF907 10).trans s850
          have s919 : F906 11 = .pointer (some ⟨p93, 0, none⟩) := (hF907 11).trans s851
          have s920 : F906 12 = .pointer (some ⟨p116, 0, none⟩) := (hF907 12).trans s852
          have s921 : F906 13 = .pointer (some ⟨p141, 0, none⟩) := (hF907 13).trans s853
          have s922 : F906 14 = .pointer (some ⟨p187, 0, none⟩) := (hF907 14).trans s854
          have s923 : F906 15 = .pointer (some ⟨p216, 0, none⟩) := (hF907 15).trans s855
          have s924 : F906 16 = .pointer (some ⟨p485, 0, none⟩) := (hF907 16).trans s856
          have s925 : F906 22 = .func (.func 52) #[] #[.pointer (some ⟨v300, 0, none⟩), .pointer (some ⟨v301, 0, none⟩)] := (hF907 22).trans s857
          have s926 : F906 23 = .agg #[.int .i64 (el.X), .int .i64 (el.Y)] := (hF907 23).trans s858
          have s927 : F906 50 = undef := (hF907 50).trans s859
          have s928 : F906 17 = .pointer (some ⟨p542, 0, none⟩) := (hF907 17).trans s860
          have s929 : F906 18 = .int .i64 (mvE (f) (p) (x) (y) (el.X) (el.Y)) := (hF907 18).trans s861
          have s930 : F906 34 = .bool (decide ((mvE (f) (p) (x) (y) (el.X) (el.Y)) ≠ (0))) := (hF907 34).trans s862
          have s931 : F906 19 = .int .i64 (costF (mvB (f) (p) (x) (y) (el.X) (el.Y)) (b)) := (hF907 19).trans s863
          have s932 : F906 45 = .bool (decide ((costF (mvB (f) (p) (x) (y) (el.X) (el.Y)) (b)) < ((foldV f p x y b pre).n))) := (hF907 45).trans s864
          clear hF907
          refine in_normal ?_
          exact ⟨Cells.keeps (Cells.or (B477).cells (Cells.or (B478).cells (Cells.or (B479).cells (B480).cells))) K905 _, K905.mono (fun i hi x => (x.elim (fun y => ⟨fun e => (ap335).symm i y (by rw [(B481).1]; exact e), fun e => (ap349).symm i y (by rw [(B482).1]; exact e)⟩) (fun y => (y.elim (fun y => ⟨fun e => (ap336).symm i y (by rw [(B481).1]; exact e), fun e => (ap350).symm i y (by rw [(B482).1]; exact e)⟩) (fun y => (y.elim (fun y => ⟨fun e => (ap337).symm i y (by rw [(B481).1]; exact e), fun e => (ap351).symm i y (by rw [(B482).1]; exact e)⟩) (fun y => ⟨fun e => (ap338).symm i y (by rw [(B481).1]; exact e), fun e => (ap352).symm i y (by rw [(B482).1]; exact e)⟩))))))), ⟨K467.trans K905 (fun i hi x => (x.elim (fun y => ((Grew.ok (S := fun _ => False) gr121 noB_le) i hi y)) (fun y => (y.elim (fun y => ((Grew.ok (S := fun _ => False) gr148 noB_le) i hi y)) (fun y => (y.elim (fun y => ((Grew.ok (S := fun _ => False) gr192 noB_le) i hi y)) (fun y => ((Grew.ok (S := fun _ => False) gr223 noB_le) i hi y)))))))), B889, B890, B891, B892, B893, B894, B895, B896, B897, B898, B899, (by first | (rw [fold_take he (Or.inl (by assumption))]; exact B900) | (rw [fold_take he (Or.inr (by assumption))]; exact B900) | (rw [fold_keep (by rintro (h | h) <;> exact absurd h (by assumption))]; exact B900)), (by first | (rw [fold_take he (Or.inl (by assumption))]; exact B887) | (rw [fold_take he (Or.inr (by assumption))]; exact B887) | (rw [fold_keep (by rintro (h | h) <;> exact absurd h (by assumption))]; exact B887)), B901, B902⟩⟩
        · replace c865 := of_decide_eq_false c865
          refine wq_skip ?_
          refine in_normal ?_
          exact ⟨Cells.keeps (Cells.or (B477).cells (Cells.or (B478).cells (Cells.or (B479).cells (B480).cells))) K716 _, K716.mono (fun i hi x => (x.elim (fun y => ⟨fun e => (ap335).symm i y (by rw [(B481).1]; exact e), fun e => (ap349).symm i y (by rw [(B482).1]; exact e)⟩) (fun y => (y.elim (fun y => ⟨fun e => (ap336).symm i y (by rw [(B481).1]; exact e), fun e => (ap350).symm i y (by rw [(B482).1]; exact e)⟩) (fun y => (y.elim (fun y => ⟨fun e => (ap337).symm i y (by rw [(B481).1]; exact e), fun e => (ap351).symm i y (by rw [(B482).1]; exact e)⟩) (fun y => ⟨fun e => (ap338).symm i y (by rw [(B481).1]; exact e), fun e => (ap352).symm i y (by rw [(B482).1]; exact e)⟩))))))), ⟨K467.trans K716 (fun i hi x => (x.elim (fun y => ((Grew.ok (S := fun _ => False) gr121 noB_le) i hi y)) (fun y => (y.elim (fun y => ((Grew.ok (S := fun _ => False) gr148 noB_le) i hi y)) (fun y => (y.elim (fun y => ((Grew.ok (S := fun _ => False) gr192 noB_le) i hi y)) (fun y => ((Grew.ok (S := fun _ => False) gr223 noB_le) i hi y)))))))), B699, B700, B701, B702, B703, B704, B705, B706, B707, B708, B709, (by first | (rw [fold_take he (Or.inl (by assumption))]; exact B710) | (rw [fold_take he (Or.inr (by assumption))]; exact B710) | (rw [fold_keep (by rintro (h | h) <;> exact absurd h (by assumption))]; exact B710)), (by first | (rw [fold_take he (Or.inl (by assumption))]; exact B711) | (rw [fold_take he (Or.inr (by assumption))]; exact B711) | (rw [fold_keep (by rintro (h | h) <;> exact absurd h (by assumption))]; exact B711)), B712, B713⟩⟩
  · rintro D949 xs_ w950 d951 hS_ ⟨K933, B934, B935, B936, B937, B938, B939, B940, B941, B942, B943, B944, B945, B946, B947, B948⟩ B952
    subst hS_
    have B952 : Mrk w950 D949 := B952
    have gr953 : Grew w0 noB (onB D949) := onB_new (Nat.le_trans K324.size d951)
    have ap954 : Apart (onB D949) (T_f0) := Mrk.far d951 (B311).live
    have ap955 : Apart (onB D949) (T_f1) := Mrk.far d951 (B312).live
    have ap956 : Apart (onB D949) (T_f2) := Mrk.far d951 (B313).live
    have ap957 : Apart (onB D949) (onB p1) := Mrk.far d951 (onB_live (B314).lt)
    have ap958 : Apart (onB D949) (onB p14) := Mrk.far d951 (onB_live (B315).lt)
    have ap959 : Apart (onB D949) (onB p31) := Mrk.far d951 (onB_live (B316).lt)
    have ap960 : Apart (onB D949) (onB p50) := Mrk.far d951 (onB_live (B317).lt)
    have ap961 : Apart (onB D949) (onB p71) := Mrk.far d951 (onB_live (B318).lt)
    have ap962 : Apart (onB D949) (onB p93) := Mrk.far d951 (onB_live (B319).lt)
    have ap963 : Apart (onB D949) (onB p116) := Mrk.far d951 (onB_live (B320).lt)
    have ap964 : Apart (onB D949) (onB p141) := Mrk.far d951 (onB_live (B321).lt)
    have ap965 : Apart (onB D949) (onB p187) := Mrk.far d951 (onB_live (B322).lt)
    have ap966 : Apart (onB D949) (onB p216) := Mrk.far d951 (onB_live (B323).lt)
    have ap967 : Apart (onB D949) (T304) := Mrk.far d951 (B306).live
    have ap968 : Apart (onB D949) (T305) := Mrk.far d951 (B307).live
    have s969 : markV (D949 :: marksOf (F353 50)) = markV [D949] := congrArg (fun z => markV (D949 :: marksOf z)) s361
    refine in_normal ?_
    refine then_normal ?_
    refine wq_seq ?_
    refine wq_cells (S := fun i => (onB p116) i ∨ ((onB p141) i)) [some 48, some 49, none, none] [Pc.eq (.agg #[.int .i64 ((foldV f p x y b (vecsTo (c34 X) (c34 Y) 25)).X), .int .i64 ((foldV f p x y b (vecsTo (c34 X) (c34 Y) 25)).Y)]), Pc.eq (.int .i64 ((foldV f p x y b (vecsTo (c34 X) (c34 Y) 25)).n)), Pc.told p116 27 [.int .i64 (0), .int .i64 (0)] [.int .i64 ((foldV f p x y b (vecsTo (c34 X) (c34 Y) 25)).X), .int .i64 ((foldV f p x y b (vecsTo (c34 X) (c34 Y) 25)).Y)], Pc.told p141 3 [.int .i64 (0)] [.int .i64 ((foldV f p x y b (vecsTo (c34 X) (c34 Y) 25)).n)]] (by kernel_rfl) (by kernel_rfl) (by kernel_rfl) rfl ⟨⟨Or.inl rfl, B943, ⟨fun e_ => (ap158).symm p116 rfl e_, trivial⟩⟩, ⟨⟨Or.inr rfl, B944, trivial⟩, trivial⟩⟩ ?_ ?_
    · refine stepsFC_cons ?_ ?_
      · refine StepFC.one rfl fun F_ w_ hR hout hD => ?_
        exact (y_load_stc stcT_vector rfl ((hout 14 rfl (by decide)).trans s370) (B945.all hR (fun x => (x.elim (fun y => ((ap202) p187 rfl y)) (fun y => ((ap203) p187 rfl y))))) ⟨rfl, Kept.refl _ _⟩)
      refine stepsFC_cons ?_ ?_
      · refine StepFC.one rfl fun F_ w_ hR hout hD => ?_
        exact (y_load_cel rfl ((hout 15 rfl (by decide)).trans s371) Try.underlying3 (B946.all hR (fun x => (x.elim (fun y => ((ap233) p216 rfl y)) (fun y => ((ap234) p216 rfl y))))) rfl ⟨rfl, Kept.refl _ _⟩)
      refine stepsFC_cons ?_ ?_
      · refine StepFC.old rfl rfl fun F_ w_ hR hout hD hO_ => ?_
        have g48 : F_ 48 = .agg #[.int .i64 ((foldV f p x y b (vecsTo (c34 X) (c34 Y) 25)).X), .int .i64 ((foldV f p x y b (vecsTo (c34 X) (c34 Y) 25)).Y)] := hD.get 0 rfl rfl rfl
        exact y_storeStc (us := [.int .i64 ((foldV f p x y b (vecsTo (c34 X) (c34 Y) 25)).X), .int .i64 ((foldV f p x y b (vecsTo (c34 X) (c34 Y) 25)).Y)]) stcT_vector rfl ((hout 12 rfl (by decide)).trans s368) g48 hO_ rfl (oneI rfl (oneI rfl oneN)) fun w2_ b_ k_ => ⟨b_, k_⟩
      refine stepsFC_cons ?_ ?_
      · refine StepFC.old rfl rfl fun F_ w_ hR hout hD hO_ => ?_
        have g49 : F_ 49 = .int .i64 ((foldV f p x y b (vecsTo (c34 X) (c34 Y) 25)).n) := hD.get 0 rfl rfl rfl
        exact y_storeCel rfl ((hout 13 rfl (by decide)).trans s369) g49 hO_ (by rfl) (by kernel_rfl) fun _ w2_ b_ k_ => ⟨b_, k_⟩
      exact stepsFC_nil
    intro v970 F971 w972 k973 G974 H976 hF975
    have B977 := B934.all k973 (fun i h x => (x.elim (fun y => (((ap122).symm) i h y)) (fun y => (((ap149).symm) i h y))))
    have B978 := B935.all k973 (fun i h x => (x.elim (fun y => (((ap123).symm) i h y)) (fun y => (((ap150).symm) i h y))))
    have B979 := B936.all k973 (fun i h x => (x.elim (fun y => (((ap124).symm) i h y)) (fun y => (((ap151).symm) i h y))))
    have B980 := B937.all k973 (fun x => (x.elim (fun y => (((ap125).symm) p1 rfl y)) (fun y => (((ap152).symm) p1 rfl y))))
    have B981 := B938.all k973 (fun x => (x.elim (fun y => (((ap126).symm) p14 rfl y)) (fun y => (((ap153).symm) p14 rfl y))))
    have B982 := B939.all k973 (fun x => (x.elim (fun y => (((ap127).symm) p31 rfl y)) (fun y => (((ap154).symm) p31 rfl y))))
    have B983 := B940.all k973 (fun x => (x.elim (fun y => (((ap128).symm) p50 rfl y)) (fun y => (((ap155).symm) p50 rfl y))))
    have B984 := B941.all k973 (fun x => (x.elim (fun y => (((ap129).symm) p71 rfl y)) (fun y => (((ap156).symm) p71 rfl y))))
    have B985 := B942.all k973 (fun x => (x.elim (fun y => (((ap130).symm) p93 rfl y)) (fun y => (((ap157).symm) p93 rfl y))))
    have B986 := B945.all k973 (fun x => (x.elim (fun y => ((ap202) p187 rfl y)) (fun y => ((ap203) p187 rfl y))))
    have B987 := B946.all k973 (fun x => (x.elim (fun y => ((ap233) p216 rfl y)) (fun y => ((ap234) p216 rfl y))))
    have B988 := B947.all k973 (fun i h x => (x.elim (fun y => ((ap335) i h y)) (fun y => ((ap336) i h y))))
    have B989 := B948.all k973 (fun i h x => (x.elim (fun y => ((ap349) i h y)) (fun y => ((ap350) i h y))))
    have B990 := B952.all k973 (fun x => (x.elim (fun y => ((ap963) D949 rfl y)) (fun y => ((ap964) D949 rfl y))))
    have K991 := K933.trans k973 (fun i hi x => (x.elim (fun y => ((Grew.ok (S := fun _ => False) gr121 noB_le) i hi y)) (fun y => ((Grew.ok (S := fun _ => False) gr148 noB_le) i hi y))))
    have B992 : Stc w972 p116 27 [.int .i64 ((foldV f p x y b (vecsTo (c34 X) (c34 Y) 25)).X), .int .i64 ((foldV f p x y b (vecsTo (c34 X) (c34 Y) 25)).Y)] := G974 2 (by decide)
    have B993 : Cel w972 p141 3 (.int .i64 ((foldV f p x y b (vecsTo (c34 X) (c34 Y) 25)).n)) := G974 3 (by decide)
    have s994 : F971 50 = markV [D949] := (hF975 50).trans s969
    have s995 : F971 12 = .pointer (some ⟨p116, 0, none⟩) := (hF975 12).trans s368
    have s996 : F971 13 = .pointer (some ⟨p141, 0, none⟩) := (hF975 13).trans s369
    clear G974 hF975 H976
    refine then_normal ?_
    refine wq_ret ?_
    have k997 := kept_shut w972 D949
    have B999 := B977.all k997 (fun i h x => (((ap954).symm) i h x))
    have B1000 := B978.all k997 (fun i h x => (((ap955).symm) i h x))
    have B1001 := B979.all k997 (fun i h x => (((ap956).symm) i h x))
    have B1002 := B980.all k997 (fun x => (((ap957).symm) p1 rfl x))
    have B1003 := B981.all k997 (fun x => (((ap958).symm) p14 rfl x))
    have B1004 := B982.all k997 (fun x => (((ap959).symm) p31 rfl x))
    have B1005 := B983.all k997 (fun x => (((ap960).symm) p50 rfl x))
    have B1006 := B984.all k997 (fun x => (((ap961).symm) p71 rfl x))
    have B1007 := B985.all k997 (fun x => (((ap962).symm) p93 rfl x))
    have B1008 := B992.all k997 (fun x => (((ap963).symm) p116 rfl x))
    have B1009 := B993.all k997 (fun x => (((ap964).symm) p141 rfl x))
    have B1010 := B986.all k997 (fun x => (((ap965).symm) p187 rfl x))
    have B1011 := B987.all k997 (fun x => (((ap966).symm) p216 rfl x))
    have B1012 := B988.all k997 (fun i h x => (((ap967).symm) i h x))
    have B1013 := B989.all k997 (fun i h x => (((ap968).symm) i h x))
    have K998 := K991.trans k997 (Grew.ok (S := fun _ => False) gr953 noB_le)
    exact endm_2 (ms := [D949]) s994 (B990).opens rfl (res_stc (vs := [.int .i64 ((foldV f p x y b (vecsTo (c34 X) (c34 Y) 25)).X), .int .i64 ((foldV f p x y b (vecsTo (c34 X) (c34 Y) 25)).Y)]) stcT_vector rfl s995 B1008) (res_cel Try.underlying3 rfl rfl s996 B1009) ⟨(by first | rw [show srF f p x y b X Y = ⟨0, 0, -1⟩ from sr_noplace hno b X Y 25] | rw [sr_is_fold]), K998⟩
  · rintro D1028 xs_ w1029 d1030 ⟨K1014, B1015, B1016, B1017, B1018, B1019, B1020, B1021, B1022, B1023, B1024, B1025, B1026, B1027, hno⟩ B1031
    have B1031 : Mrk w1029 D1028 := B1031
    have gr1032 : Grew w0 noB (onB D1028) := onB_new (Nat.le_trans K324.size d1030)
    have ap1033 : Apart (onB D1028) (T_f0) := Mrk.far d1030 (B311).live
    have ap1034 : Apart (onB D1028) (T_f1) := Mrk.far d1030 (B312).live
    have ap1035 : Apart (onB D1028) (T_f2) := Mrk.far d1030 (B313).live
    have ap1036 : Apart (onB D1028) (onB p1) := Mrk.far d1030 (onB_live (B314).lt)
    have ap1037 : Apart (onB D1028) (onB p14) := Mrk.far d1030 (onB_live (B315).lt)
    have ap1038 : Apart (onB D1028) (onB p31) := Mrk.far d1030 (onB_live (B316).lt)
    have ap1039 : Apart (onB D1028) (onB p50) := Mrk.far d1030 (onB_live (B317).lt)
    have ap1040 : Apart (onB D1028) (onB p71) := Mrk.far d1030 (onB_live (B318).lt)
    have ap1041 : Apart (onB D1028) (onB p93) := Mrk.far d1030 (onB_live (B319).lt)
    have ap1042 : Apart (onB D1028) (onB p116) := Mrk.far d1030 (onB_live (B320).lt)
    have ap1043 : Apart (onB D1028) (onB p141) := Mrk.far d1030 (onB_live (B321).lt)
    have ap1044 : Apart (onB D1028) (T304) := Mrk.far d1030 (B306).live
    have ap1045 : Apart (onB D1028) (T305) := Mrk.far d1030 (B307).live
    have s1046 : markV (D1028 :: marksOf (F353 50)) = markV [D1028] := congrArg (fun z => markV (D1028 :: marksOf z)) s361
    refine in_ret ?_
    refine then_ret ?_
    have k1047 := kept_shut w1029 D1028
    have B1049 := B1015.all k1047 (fun i h x => (((ap1033).symm) i h x))
    have B1050 := B1016.all k1047 (fun i h x => (((ap1034).symm) i h x))
    have B1051 := B1017.all k1047 (fun i h x => (((ap1035).symm) i h x))
    have B1052 := B1018.all k1047 (fun x => (((ap1036).symm) p1 rfl x))
    have B1053 := B1019.all k1047 (fun x => (((ap1037).symm) p14 rfl x))
    have B1054 := B1020.all k1047 (fun x => (((ap1038).symm) p31 rfl x))
    have B1055 := B1021.all k1047 (fun x => (((ap1039).symm) p50 rfl x))
    have B1056 := B1022.all k1047 (fun x => (((ap1040).symm) p71 rfl x))
    have B1057 := B1023.all k1047 (fun x => (((ap1041).symm) p93 rfl x))
    have B1058 := B1024.all k1047 (fun x => (((ap1042).symm) p116 rfl x))
    have B1059 := B1025.all k1047 (fun x => (((ap1043).symm) p141 rfl x))
    have B1060 := B1026.all k1047 (fun i h x => (((ap1044).symm) i h x))
    have B1061 := B1027.all k1047 (fun i h x => (((ap1045).symm) i h x))
    have K1048 := K1014.trans k1047 (Grew.ok (S := fun _ => False) gr1032 noB_le)
    exact endm_2 (ms := [D1028]) s1046 (B1031).opens rfl (res_stc (vs := [.int .i64 (0), .int .i64 (0)]) stcT_vector rfl s368 B1058) (res_cel Try.underlying3 rfl rfl s369 B1059) ⟨(by first | rw [show srF f p x y b X Y = ⟨0, 0, -1⟩ from sr_noplace hno b X Y 25] | rw [sr_is_fold]), K1048⟩
end Go.Proofs.Ytceoidglhakanaa
namespace Go.Proofs.Ytceoidglhakanaa
open Go.RowKit

theorem u8_line (n : Int) : IntKind.u8.wrap (max 0 (min n 255)) = ((byteI n : Nat) : Int) := by rw [show max 0 (min n 255) = min (max n 0) 255 by omega]; exact u8_byte n
set_option maxHeartbeats 4000000 in
set_option maxRecDepth 100000 in
theorem ps_line (b : Nat → Int) (i : Nat) (w0 : World) (hi : i < 4) :
    Calls Try.prog 47 #[blkV (b), .int .i64 (((i : Nat) : Int))] w0 fun e w' => e = .returned (.agg #[.int .u8 (((byteI (b (i * 4)) : Nat) : Int)), .int .u8 (((byteI (b (i * 4 + 1)) : Nat) : Int)), .int .u8 (((byteI (b (i * 4 + 2)) : Nat) : Int)), .int .u8 (((byteI (b (i * 4 + 3)) : Nat) : Int))]) ∧ Kept (fun _ => False) w0 w' := by
  refine calls_wq (args := [blkV (b), .int .i64 (((i : Nat) : Int))]) 22 Try.func47 rfl rfl (Nat.le_of_ble_eq_true rfl) ?_
  have K0 := Kept.refl (fun _ => False) w0
  refine wq_seq ?_
  refine wq_region ?_
  refine wl_box_blk rfl rfl rfl rfl fun p1 w2 e5 B3 k4 => ?_
  have g6 := onB_new (Nat.le_of_eq e5.symm)
  have gr7 : Grew w0 noB (onB p1) := Grew.new K0 g6
  clear e5 g6
  have K8 := K0.trans k4 (fun _ _ x => x.elim)
  refine wl_alloc_stc (n := 4) (vs := [.int .u8 (0), .int .u8 (0), .int .u8 (0), .int .u8 (0)]) rfl rfl rfl (by kernel_rfl) fun p9 w10 B12 g13 k11 => ?_
  have gr14 : Grew w0 noB (onB p9) := Grew.new K8 g13
  have ap15 : Apart (onB p9) (onB p1) := Apart.new g13 (onB_live (B3).lt)
  have B16 := B3.all k11 id
  have K17 := K8.trans k11 (fun _ _ x => x.elim)
  refine wl_nil fun F18 hF19 => ?_
  have s20 : F18 1 = .int .i64 (((i : Nat) : Int)) := (hF19 1).trans rfl
  have s21 : F18 22 = undef := (hF19 22).trans rfl
  have s22 : F18 2 = .pointer (some ⟨p1, 0, none⟩) := (hF19 2).trans rfl
  have s23 : F18 4 = .pointer (some ⟨p9, 0, none⟩) := (hF19 4).trans rfl
  clear hF19
  refine then_normal ?_
  refine wq_seq ?_
  refine wq_region ?_
  refine wl_alloc_stc (n := 4) (vs := [.int .u8 (0), .int .u8 (0), .int .u8 (0), .int .u8 (0)]) rfl rfl rfl (by kernel_rfl) fun p24 w25 B27 g28 k26 => ?_
  have gr29 : Grew w0 noB (onB p24) := Grew.new K17 g28
  have ap30 : Apart (onB p24) (onB p1) := Apart.new g28 (onB_live (B16).lt)
  have ap31 : Apart (onB p24) (onB p9) := Apart.new g28 (onB_live (B12).lt)
  have B32 := B16.all k26 id
  have B33 := B12.all k26 id
  have K34 := K17.trans k26 (fun _ _ x => x.elim)
  refine wl_nil fun F35 hF36 => ?_
  have s37 : F35 1 = .int .i64 (((i : Nat) : Int)) := (hF36 1).trans s20
  have s38 : F35 22 = undef := (hF36 22).trans s21
  have s39 : F35 2 = .pointer (some ⟨p1, 0, none⟩) := (hF36 2).trans s22
  have s40 : F35 4 = .pointer (some ⟨p9, 0, none⟩) := (hF36 4).trans s23
  have s41 : F35 5 = .pointer (some ⟨p24, 0, none⟩) := (hF36 5).trans rfl
  clear hF36
  refine then_normal ?_
  refine wq_seq ?_
  refine wq_seq ?_
  refine wq_region ?_
  refine wl_v (.int .i64 (0)) rfl rfl (y_mov rfl rfl ⟨rfl, rfl⟩) ?_
  refine wl_nil fun F42 hF43 => ?_
  have s44 : F42 1 = .int .i64 (((i : Nat) : Int)) := (hF43 1).trans s37
  have s45 : F42 22 = undef := (hF43 22).trans s38
  have s46 : F42 2 = .pointer (some ⟨p1, 0, none⟩) := (hF43 2).trans s39
  have s47 : F42 4 = .pointer (some ⟨p9, 0, none⟩) := (hF43 4).trans s40
  have s48 : F42 5 = .pointer (some ⟨p24, 0, none⟩) := (hF43 5).trans s41
  have s49 : F42 7 = .int .i64 (0) := (hF43 7).trans rfl
  clear hF43
  refine then_normal ?_
  refine wq_block ?_
  refine wq_rounds 5 ?_
  refine wqr_step ?_
  refine wq_seq ?_
  refine wq_region ?_
  refine wl_v (.bool true) rfl rfl (y_lss rfl s49 rfl rfl ⟨rfl, rfl⟩) ?_
  refine wl_nil fun F50 hF51 => ?_
  have s52 : F50 1 = .int .i64 (((i : Nat) : Int)) := (hF51 1).trans s44
  have s53 : F50 22 = undef := (hF51 22).trans s45
  have s54 : F50 2 = .pointer (some ⟨p1, 0, none⟩) := (hF51 2).trans s46
  have s55 : F50 4 = .pointer (some ⟨p9, 0, none⟩) := (hF51 4).trans s47
  have s56 : F50 5 = .pointer (some ⟨p24, 0, none⟩) := (hF51 5).trans s48
  have s57 : F50 7 = .int .i64 (0) := (hF51 7).trans s49
  have s58 : F50 8 = .bool true := (hF51 8).trans rfl
  clear hF51
  refine then_normal ?_
  refine wq_seq ?_
  refine wq_cond (t := true) s58 (fun _ => ?_) (fun e => by cases e)
  refine wq_skip ?_
  refine then_normal ?_
  refine wq_seq ?_
  refine wq_block ?_
  refine wq_seq ?_
  refine wq_region ?_
  refine wl_v (.int .i64 (0)) rfl rfl (y_mov rfl s57 ⟨rfl, rfl⟩) ?_
  refine wl_v (.int .i64 (0)) rfl rfl (y_asg rfl rfl ⟨rfl, rfl⟩) ?_
  refine wl_nil fun F59 hF60 => ?_
  have s61 : F59 1 = .int .i64 (((i : Nat) : Int)) := (hF60 1).trans s52
  have s62 : F59 22 = undef := (hF60 22).trans s53
  have s63 : F59 2 = .pointer (some ⟨p1, 0, none⟩) := (hF60 2).trans s54
  have s64 : F59 4 = .pointer (some ⟨p9, 0, none⟩) := (hF60 4).trans s55
  have s65 : F59 5 = .pointer (some ⟨p24, 0, none⟩) := (hF60 5).trans s56
  have s66 : F59 7 = .int .i64 (0) := (hF60 7).trans s57
  have s67 : F59 6 = .int .i64 (0) := (hF60 6).trans rfl
  clear hF60
  refine then_normal ?_
  refine wq_region ?_
  refine wl_v (.int .i64 (0)) rfl rfl (y_mov rfl s67 ⟨rfl, rfl⟩) ?_
  refine wl_v (.int .i64 (((i : Nat) : Int))) rfl rfl (y_mov rfl s61 ⟨rfl, rfl⟩) ?_
  refine wl_v (.int .i64 ((((i * 4) : Nat) : Int))) rfl rfl (y_mul rfl rfl rfl (i64_n (by omega) (by omega)) ⟨rfl, rfl⟩) ?_
  refine wl_v (.int .i64 (0)) rfl rfl (y_mov rfl s67 ⟨rfl, rfl⟩) ?_
  refine wl_v (.int .i64 ((((i * 4 + 0) : Nat) : Int))) rfl rfl (y_add rfl rfl rfl (i64_n (by omega) (by omega)) ⟨rfl, rfl⟩) ?_
  refine wl_v (.pointer (some ⟨p1, (i * 4 + 0), none⟩)) rfl rfl (y_atR ((i * 4 + 0)) (s := 1) rfl s63 rfl (by omega) Try.underlying31 (by omega) (by kernel_rfl) (by omega) ⟨rfl, rfl⟩) ?_
  refine wl_v (.int .i64 ((b) ((i * 4 + 0)))) rfl rfl (y_ldR rfl rfl Try.underlying3 ((B32).cell (by omega)) ⟨rfl, rfl⟩) ?_
  refine wl_call (R := fun v_ w_ => v_ = .int .i64 (max (0) (min ((b) ((i * 4 + 0))) (255))) ∧ Kept (fun _ => False) w25 w_) rfl rfl (y_cs rfl rfl rfl (fun _ _ => by kernel_rfl) (ev_func _) (vsC rfl (vsC rfl (vsC rfl vsN))) (ps_clamped ((b) ((i * 4 + 0))) (0) (255)  _   ) (fun e_ w_ h_ => ⟨_, h_.1, rfl, h_.2⟩)) ?_
  rintro _ w68 ⟨rfl, k69⟩
  have B70 := B32.all k69 id
  have B71 := B33.all k69 id
  have B72 := B27.all k69 id
  have K73 := K34.trans k69 (fun _ _ x => x.elim)
  refine wl_v (.int .u8 (((byteI (b (i * 4 + 0)) : Nat) : Int))) rfl rfl (y_convR rfl rfl Try.underlying3 Try.underlying5 (by first | exact u8_line _ | exact u8_line (b (i * 4 + 0))) ⟨rfl, rfl⟩) ?_
  refine wl_v (.pointer (some ⟨p24, 0, none⟩)) rfl rfl (y_atR (0) (s := 1) rfl s65 rfl (by omega) Try.underlying74 (by omega) (by kernel_rfl) (by omega) ⟨rfl, rfl⟩) ?_
  refine wl_set_stc rfl rfl rfl rfl rfl B72 rfl rfl (by kernel_rfl) fun w74 B75 k76 => ?_
  replace B75 : Stc w74 p24 74 [.int .u8 (((byteI (b (i * 4 + 0)) : Nat) : Int)), .int .u8 (0), .int .u8 (0), .int .u8 (0)] := B75
  have B77 := B70.all k76 (fun x => (((ap30).symm) p1 rfl x))
  have B78 := B71.all k76 (fun x => (((ap31).symm) p9 rfl x))
  have K79 := K73.trans k76 (Grew.ok (S := fun _ => False) gr29 noB_le)
  refine wl_nil fun F80 hF81 => ?_
  have s82 : F80 1 = .int .i64 (((i : Nat) : Int)) := (hF81 1).trans s61
  have s83 : F80 22 = undef := (hF81 22).trans s62
  have s84 : F80 2 = .pointer (some ⟨p1, 0, none⟩) := (hF81 2).trans s63
  have s85 : F80 4 = .pointer (some ⟨p9, 0, none⟩) := (hF81 4).trans s64
  have s86 : F80 5 = .pointer (some ⟨p24, 0, none⟩) := (hF81 5).trans s65
  have s87 : F80 7 = .int .i64 (0) := (hF81 7).trans s66
  clear hF81
  refine in_normal ?_
  refine then_normal ?_
  refine wq_region ?_
  refine wl_v (.int .i64 (((1 : Nat) : Int))) rfl rfl (y_add rfl s87 rfl (i64_n (by omega) (by omega)) ⟨rfl, rfl⟩) ?_
  refine wl_v (.int .i64 (((1 : Nat) : Int))) rfl rfl (y_mov rfl rfl ⟨rfl, rfl⟩) ?_
  refine wl_nil fun F88 hF89 => ?_
  have s90 : F88 1 = .int .i64 (((i : Nat) : Int)) := (hF89 1).trans s82
  have s91 : F88 22 = undef := (hF89 22).trans s83
  have s92 : F88 2 = .pointer (some ⟨p1, 0, none⟩) := (hF89 2).trans s84
  have s93 : F88 4 = .pointer (some ⟨p9, 0, none⟩) := (hF89 4).trans s85
  have s94 : F88 5 = .pointer (some ⟨p24, 0, none⟩) := (hF89 5).trans s86
  have s95 : F88 7 = .int .i64 (((1 : Nat) : Int)) := (hF89 7).trans rfl
  clear hF89
  refine then_normal ?_
  refine wqr_step ?_
  refine wq_seq ?_
  refine wq_region ?_
  refine wl_v (.bool true) rfl rfl (y_lss rfl s95 rfl rfl ⟨rfl, rfl⟩) ?_
  refine wl_nil fun F96 hF97 => ?_
  have s98 : F96 1 = .int .i64 (((i : Nat) : Int)) := (hF97 1).trans s90
  have s99 : F96 22 = undef := (hF97 22).trans s91
  have s100 : F96 2 = .pointer (some ⟨p1, 0, none⟩) := (hF97 2).trans s92
  have s101 : F96 4 = .pointer (some ⟨p9, 0, none⟩) := (hF97 4).trans s93
  have s102 : F96 5 = .pointer (some ⟨p24, 0, none⟩) := (hF97 5).trans s94
  have s103 : F96 7 = .int .i64 (((1 : Nat) : Int)) := (hF97 7).trans s95
  have s104 : F96 8 = .bool true := (hF97 8).trans rfl
  clear hF97
  refine then_normal ?_
  refine wq_seq ?_
  refine wq_cond (t := true) s104 (fun _ => ?_) (fun e => by cases e)
  refine wq_skip ?_
  refine then_normal ?_
  refine wq_seq ?_
  refine wq_block ?_
  refine wq_seq ?_
  refine wq_region ?_
  refine wl_v (.int .i64 (((1 : Nat) : Int))) rfl rfl (y_mov rfl s103 ⟨rfl, rfl⟩) ?_
  refine wl_v (.int .i64 (((1 : Nat) : Int))) rfl rfl (y_asg rfl rfl ⟨rfl, rfl⟩) ?_
  refine wl_nil fun F105 hF106 => ?_
  have s107 : F105 1 = .int .i64 (((i : Nat) : Int)) := (hF106 1).trans s98
  have s108 : F105 22 = undef := (hF106 22).trans s99
  have s109 : F105 2 = .pointer (some ⟨p1, 0, none⟩) := (hF106 2).trans s100
  have s110 : F105 4 = .pointer (some ⟨p9, 0, none⟩) := (hF106 4).trans s101
  have s111 : F105 5 = .pointer (some ⟨p24, 0, none⟩) := (hF106 5).trans s102
  have s112 : F105 7 = .int .i64 (((1 : Nat) : Int)) := (hF106 7).trans s103
  have s113 : F105 6 = .int .i64 (((1 : Nat) : Int)) := (hF106 6).trans rfl
  clear hF106
  refine then_normal ?_
  refine wq_region ?_
  refine wl_v (.int .i64 (((1 : Nat) : Int))) rfl rfl (y_mov rfl s113 ⟨rfl, rfl⟩) ?_
  refine wl_v (.int .i64 (((i : Nat) : Int))) rfl rfl (y_mov rfl s107 ⟨rfl, rfl⟩) ?_
  refine wl_v (.int .i64 ((((i * 4) : Nat) : Int))) rfl rfl (y_mul rfl rfl rfl (i64_n (by omega) (by omega)) ⟨rfl, rfl⟩) ?_
  refine wl_v (.int .i64 (((1 : Nat) : Int))) rfl rfl (y_mov rfl s113 ⟨rfl, rfl⟩) ?_
  refine wl_v (.int .i64 ((((i * 4 + 1) : Nat) : Int))) rfl rfl (y_add rfl rfl rfl (i64_n (by omega) (by omega)) ⟨rfl, rfl⟩) ?_
  refine wl_v (.pointer (some ⟨p1, (i * 4 + 1), none⟩)) rfl rfl (y_atR ((i * 4 + 1)) (s := 1) rfl s109 rfl (by omega) Try.underlying31 (by omega) (by kernel_rfl) (by omega) ⟨rfl, rfl⟩) ?_
  refine wl_v (.int .i64 ((b) ((i * 4 + 1)))) rfl rfl (y_ldR rfl rfl Try.underlying3 ((B77).cell (by omega)) ⟨rfl, rfl⟩) ?_
  refine wl_call (R := fun v_ w_ => v_ = .int .i64 (max (0) (min ((b) ((i * 4 + 1))) (255))) ∧ Kept (fun _ => False) w74 w_) rfl rfl (y_cs rfl rfl rfl (fun _ _ => by kernel_rfl) (ev_func _) (vsC rfl (vsC rfl (vsC rfl vsN))) (ps_clamped ((b) ((i * 4 + 1))) (0) (255)  _   ) (fun e_ w_ h_ => ⟨_, h_.1, rfl, h_.2⟩)) ?_
  rintro _ w114 ⟨rfl, k115⟩
  have B116 := B77.all k115 id
  have B117 := B78.all k115 id
  have B118 := B75.all k115 id
  have K119 := K79.trans k115 (fun _ _ x => x.elim)
  refine wl_v (.int .u8 (((byteI (b (i * 4 + 1)) : Nat) : Int))) rfl rfl (y_convR rfl rfl Try.underlying3 Try.underlying5 (by first | exact u8_line _ | exact u8_line (b (i * 4 + 0))) ⟨rfl, rfl⟩) ?_
  refine wl_v (.pointer (some ⟨p24, 1, none⟩)) rfl rfl (y_atR (1) (s := 1) rfl s111 rfl (by omega) Try.underlying74 (by omega) (by kernel_rfl) (by omega) ⟨rfl, rfl⟩) ?_
  refine wl_set_stc rfl rfl rfl rfl rfl B118 rfl rfl (by kernel_rfl) fun w120 B121 k122 => ?_
  replace B121 : Stc w120 p24 74 [.int .u8 (((byteI (b (i * 4 + 0)) : Nat) : Int)), .int .u8 (((byteI (b (i * 4 + 1)) : Nat) : Int)), .int .u8 (0), .int .u8 (0)] := B121
  have B123 := B116.all k122 (fun x => (((ap30).symm) p1 rfl x))
  have B124 := B117.all k122 (fun x => (((ap31).symm) p9 rfl x))
  have K125 := K119.trans k122 (Grew.ok (S := fun _ => False) gr29 noB_le)
  refine wl_nil fun F126 hF127 => ?_
  have s128 : F126 1 = .int .i64 (((i : Nat) : Int)) := (hF127 1).trans s107
  have s129 : F126 22 = undef := (hF127 22).trans s108
  have s130 : F126 2 = .pointer (some ⟨p1, 0, none⟩) := (hF127 2).trans s109
  have s131 : F126 4 = .pointer (some ⟨p9, 0, none⟩) := (hF127 4).trans s110
  have s132 : F126 5 = .pointer (some ⟨p24, 0, none⟩) := (hF127 5).trans s111
  have s133 : F126 7 = .int .i64 (((1 : Nat) : Int)) := (hF127 7).trans s112
  clear hF127
  refine in_normal ?_
  refine then_normal ?_
  refine wq_region ?_
  refine wl_v (.int .i64 (((2 : Nat) : Int))) rfl rfl (y_add rfl s133 rfl (i64_n (by omega) (by omega)) ⟨rfl, rfl⟩) ?_
  refine wl_v (.int .i64 (((2 : Nat) : Int))) rfl rfl (y_mov rfl rfl ⟨rfl, rfl⟩) ?_
  refine wl_nil fun F134 hF135 => ?_
  have s136 : F134 1 = .int .i64 (((i : Nat) : Int)) := (hF135 1).trans s128
  have s137 : F134 22 = undef := (hF135 22).trans s129
  have s138 : F134 2 = .pointer (some ⟨p1, 0, none⟩) := (hF135 2).trans s130
  have s139 : F134 4 = .pointer (some ⟨p9, 0, none⟩) := (hF135 4).trans s131
  have s140 : F134 5 = .pointer (some ⟨p24, 0, none⟩) := (hF135 5).trans s132
  have s141 : F134 7 = .int .i64 (((2 : Nat) : Int)) := (hF135 7).trans rfl
  clear hF135
  refine then_normal ?_
  refine wqr_step ?_
  refine wq_seq ?_
  refine wq_region ?_
  refine wl_v (.bool true) rfl rfl (y_lss rfl s141 rfl rfl ⟨rfl, rfl⟩) ?_
  refine wl_nil fun F142 hF143 => ?_
  have s144 : F142 1 = .int .i64 (((i : Nat) : Int)) := (hF143 1).trans s136
  have s145 : F142 22 = undef := (hF143 22).trans s137
  have s146 : F142 2 = .pointer (some ⟨p1, 0, none⟩) := (hF143 2).trans s138
  have s147 : F142 4 = .pointer (some ⟨p9, 0, none⟩) := (hF143 4).trans s139
  have s148 : F142 5 = .pointer (some ⟨p24, 0, none⟩) := (hF143 5).trans s140
  have s149 : F142 7 = .int .i64 (((2 : Nat) : Int)) := (hF143 7).trans s141
  have s150 : F142 8 = .bool true := (hF143 8).trans rfl
  clear hF143
  refine then_normal ?_
  refine wq_seq ?_
  refine wq_cond (t := true) s150 (fun _ => ?_) (fun e => by cases e)
  refine wq_skip ?_
  refine then_normal ?_
  refine wq_seq ?_
  refine wq_block ?_
  refine wq_seq ?_
  refine wq_region ?_
  refine wl_v (.int .i64 (((2 : Nat) : Int))) rfl rfl (y_mov rfl s149 ⟨rfl, rfl⟩) ?_
  refine wl_v (.int .i64 (((2 : Nat) : Int))) rfl rfl (y_asg rfl rfl ⟨rfl, rfl⟩) ?_
  refine wl_nil fun F151 hF152 => ?_
  have s153 : F151 1 = .int .i64 (((i : Nat) : Int)) := (hF152 1).trans s144
  have s154 : F151 22 = undef := (hF152 22).trans s145
  have s155 : F151 2 = .pointer (some ⟨p1, 0, none⟩) := (hF152 2).trans s146
  have s156 : F151 4 = .pointer (some ⟨p9, 0, none⟩) := (hF152 4).trans s147
  have s157 : F151 5 = .pointer (some ⟨p24, 0, none⟩) := (hF152 5).trans s148
  have s158 : F151 7 = .int .i64 (((2 : Nat) : Int)) := (hF152 7).trans s149
  have s159 : F151 6 = .int .i64 (((2 : Nat) : Int)) := (hF152 6).trans rfl
  clear hF152
  refine then_normal ?_
  refine wq_region ?_
  refine wl_v (.int .i64 (((2 : Nat) : Int))) rfl rfl (y_mov rfl s159 ⟨rfl, rfl⟩) ?_
  refine wl_v (.int .i64 (((i : Nat) : Int))) rfl rfl (y_mov rfl s153 ⟨rfl, rfl⟩) ?_
  refine wl_v (.int .i64 ((((i * 4) : Nat) : Int))) rfl rfl (y_mul rfl rfl rfl (i64_n (by omega) (by omega)) ⟨rfl, rfl⟩) ?_
  refine wl_v (.int .i64 (((2 : Nat) : Int))) rfl rfl (y_mov rfl s159 ⟨rfl, rfl⟩) ?_
  refine wl_v (.int .i64 ((((i * 4 + 2) : Nat) : Int))) rfl rfl (y_add rfl rfl rfl (i64_n (by omega) (by omega)) ⟨rfl, rfl⟩) ?_
  refine wl_v (.pointer (some ⟨p1, (i * 4 + 2), none⟩)) rfl rfl (y_atR ((i * 4 + 2)) (s := 1) rfl s155 rfl (by omega) Try.underlying31 (by omega) (by kernel_rfl) (by omega) ⟨rfl, rfl⟩) ?_
  refine wl_v (.int .i64 ((b) ((i * 4 + 2)))) rfl rfl (y_ldR rfl rfl Try.underlying3 ((B123).cell (by omega)) ⟨rfl, rfl⟩) ?_
  refine wl_call (R := fun v_ w_ => v_ = .int .i64 (max (0) (min ((b) ((i * 4 + 2))) (255))) ∧ Kept (fun _ => False) w120 w_) rfl rfl (y_cs rfl rfl rfl (fun _ _ => by kernel_rfl) (ev_func _) (vsC rfl (vsC rfl (vsC rfl vsN))) (ps_clamped ((b) ((i * 4 + 2))) (0) (255)  _   ) (fun e_ w_ h_ => ⟨_, h_.1, rfl, h_.2⟩)) ?_
  rintro _ w160 ⟨rfl, k161⟩
  have B162 := B123.all k161 id
  have B163 := B124.all k161 id
  have B164 := B121.all k161 id
  have K165 := K125.trans k161 (fun _ _ x => x.elim)
  refine wl_v (.int .u8 (((byteI (b (i * 4 + 2)) : Nat) : Int))) rfl rfl (y_convR rfl rfl Try.underlying3 Try.underlying5 (by first | exact u8_line _ | exact u8_line (b (i * 4 + 0))) ⟨rfl, rfl⟩) ?_
  refine wl_v (.pointer (some ⟨p24, 2, none⟩)) rfl rfl (y_atR (2) (s := 1) rfl s157 rfl (by omega) Try.underlying74 (by omega) (by kernel_rfl) (by omega) ⟨rfl, rfl⟩) ?_
  refine wl_set_stc rfl rfl rfl rfl rfl B164 rfl rfl (by kernel_rfl) fun w166 B167 k168 => ?_
  replace B167 : Stc w166 p24 74 [.int .u8 (((byteI (b (i * 4 + 0)) : Nat) : Int)), .int .u8 (((byteI (b (i * 4 + 1)) : Nat) : Int)), .int .u8 (((byteI (b (i * 4 + 2)) : Nat) : Int)), .int .u8 (0)] := B167
  have B169 := B162.all k168 (fun x => (((ap30).symm) p1 rfl x))
  have B170 := B163.all k168 (fun x => (((ap31).symm) p9 rfl x))
  have K171 := K165.trans k168 (Grew.ok (S := fun _ => False) gr29 noB_le)
  refine wl_nil fun F172 hF173 => ?_
  have s174 : F172 1 = .int .i64 (((i : Nat) : Int)) := (hF173 1).trans s153
  have s175 : F172 22 = undef := (hF173 22).trans s154
  have s176 : F172 2 = .pointer (some ⟨p1, 0, none⟩) := (hF173 2).trans s155
  have s177 : F172 4 = .pointer (some ⟨p9, 0, none⟩) := (hF173 4).trans s156
  have s178 : F172 5 = .pointer (some ⟨p24, 0, none⟩) := (hF173 5).trans s157
  have s179 : F172 7 = .int .i64 (((2 : Nat) : Int)) := (hF173 7).trans s158
  clear hF173
  refine in_normal ?_
  refine then_normal ?_
  refine wq_region ?_
  refine wl_v (.int .i64 (((3 : Nat) : Int))) rfl rfl (y_add rfl s179 rfl (i64_n (by omega) (by omega)) ⟨rfl, rfl⟩) ?_
  refine wl_v (.int .i64 (((3 : Nat) : Int))) rfl rfl (y_mov rfl rfl ⟨rfl, rfl⟩) ?_
  refine wl_nil fun F180 hF181 => ?_
  have s182 : F180 1 = .int .i64 (((i : Nat) : Int)) := (hF181 1).trans s174
  have s183 : F180 22 = undef := (hF181 22).trans s175
  have s184 : F180 2 = .pointer (some ⟨p1, 0, none⟩) := (hF181 2).trans s176
  have s185 : F180 4 = .pointer (some ⟨p9, 0, none⟩) := (hF181 4).trans s177
  have s186 : F180 5 = .pointer (some ⟨p24, 0, none⟩) := (hF181 5).trans s178
  have s187 : F180 7 = .int .i64 (((3 : Nat) : Int)) := (hF181 7).trans rfl
  clear hF181
  refine then_normal ?_
  refine wqr_step ?_
  refine wq_seq ?_
  refine wq_region ?_
  refine wl_v (.bool true) rfl rfl (y_lss rfl s187 rfl rfl ⟨rfl, rfl⟩) ?_
  refine wl_nil fun F188 hF189 => ?_
  have s190 : F188 1 = .int .i64 (((i : Nat) : Int)) := (hF189 1).trans s182
  have s191 : F188 22 = undef := (hF189 22).trans s183
  have s192 : F188 2 = .pointer (some ⟨p1, 0, none⟩) := (hF189 2).trans s184
  have s193 : F188 4 = .pointer (some ⟨p9, 0, none⟩) := (hF189 4).trans s185
  have s194 : F188 5 = .pointer (some ⟨p24, 0, none⟩) := (hF189 5).trans s186
  have s195 : F188 7 = .int .i64 (((3 : Nat) : Int)) := (hF189 7).trans s187
  have s196 : F188 8 = .bool true := (hF189 8).trans rfl
  clear hF189
  refine then_normal ?_
  refine wq_seq ?_
  refine wq_cond (t := true) s196 (fun _ => ?_) (fun e => by cases e)
  refine wq_skip ?_
  refine then_normal ?_
  refine wq_seq ?_
  refine wq_block ?_
  refine wq_seq ?_
  refine wq_region ?_
  refine wl_v (.int .i64 (((3 : Nat) : Int))) rfl rfl (y_mov rfl s195 ⟨rfl, rfl⟩) ?_
  refine wl_v (.int .i64 (((3 : Nat) : Int))) rfl rfl (y_asg rfl rfl ⟨rfl, rfl⟩) ?_
  refine wl_nil fun F197 hF198 => ?_
  have s199 : F197 1 = .int .i64 (((i : Nat) : Int)) := (hF198 1).trans s190
  have s200 : F197 22 = undef := (hF198 22).trans s191
  have s201 : F197 2 = .pointer (some ⟨p1, 0, none⟩) := (hF198 2).trans s192
  have s202 : F197 4 = .pointer (some ⟨p9, 0, none⟩) := (hF198 4).trans s193
  have s203 : F197 5 = .pointer (some ⟨p24, 0, none⟩) := (hF198 5).trans s194
  have s204 : F197 7 = .int .i64 (((3 : Nat) : Int)) := (hF198 7).trans s195
  have s205 : F197 6 = .int .i64 (((3 : Nat) : Int)) := (hF198 6).trans rfl
  clear hF198
  refine then_normal ?_
  refine wq_region ?_
  refine wl_v (.int .i64 (((3 : Nat) : Int))) rfl rfl (y_mov rfl s205 ⟨rfl, rfl⟩) ?_
  refine wl_v (.int .i64 (((i : Nat) : Int))) rfl rfl (y_mov rfl s199 ⟨rfl, rfl⟩) ?_
  refine wl_v (.int .i64 ((((i * 4) : Nat) : Int))) rfl rfl (y_mul rfl rfl rfl (i64_n (by omega) (by omega)) ⟨rfl, rfl⟩) ?_
  refine wl_v (.int .i64 (((3 : Nat) : Int))) rfl rfl (y_mov rfl s205 ⟨rfl, rfl⟩) ?_
  refine wl_v (.int .i64 ((((i * 4 + 3) : Nat) : Int))) rfl rfl (y_add rfl rfl rfl (i64_n (by omega) (by omega)) ⟨rfl, rfl⟩) ?_
  refine wl_v (.pointer (some ⟨p1, (i * 4 + 3), none⟩)) rfl rfl (y_atR ((i * 4 + 3)) (s := 1) rfl s201 rfl (by omega) Try.underlying31 (by omega) (by kernel_rfl) (by omega) ⟨rfl, rfl⟩) ?_
  refine wl_v (.int .i64 ((b) ((i * 4 + 3)))) rfl rfl (y_ldR rfl rfl Try.underlying3 ((B169).cell (by omega)) ⟨rfl, rfl⟩) ?_
  refine wl_call (R := fun v_ w_ => v_ = .int .i64 (max (0) (min ((b) ((i * 4 + 3))) (255))) ∧ Kept (fun _ => False) w166 w_) rfl rfl (y_cs rfl rfl rfl (fun _ _ => by kernel_rfl) (ev_func _) (vsC rfl (vsC rfl (vsC rfl vsN))) (ps_clamped ((b) ((i * 4 + 3))) (0) (255)  _   ) (fun e_ w_ h_ => ⟨_, h_.1, rfl, h_.2⟩)) ?_
  rintro _ w206 ⟨rfl, k207⟩
  have B208 := B169.all k207 id
  have B209 := B170.all k207 id
  have B210 := B167.all k207 id
  have K211 := K171.trans k207 (fun _ _ x => x.elim)
  refine wl_v (.int .u8 (((byteI (b (i * 4 + 3)) : Nat) : Int))) rfl rfl (y_convR rfl rfl Try.underlying3 Try.underlying5 (by first | exact u8_line _ | exact u8_line (b (i * 4 + 0))) ⟨rfl, rfl⟩) ?_
  refine wl_v (.pointer (some ⟨p24, 3, none⟩)) rfl rfl (y_atR (3) (s := 1) rfl s203 rfl (by omega) Try.underlying74 (by omega) (by kernel_rfl) (by omega) ⟨rfl, rfl⟩) ?_
  refine wl_set_stc rfl rfl rfl rfl rfl B210 rfl rfl (by kernel_rfl) fun w212 B213 k214 => ?_
  replace B213 : Stc w212 p24 74 [.int .u8 (((byteI (b (i * 4 + 0)) : Nat) : Int)), .int .u8 (((byteI (b (i * 4 + 1)) : Nat) : Int)), .int .u8 (((byteI (b (i * 4 + 2)) : Nat) : Int)), .int .u8 (((byteI (b (i * 4 + 3)) : Nat) : Int))] := B213
  have B215 := B208.all k214 (fun x => (((ap30).symm) p1 rfl x))
  have B216 := B209.all k214 (fun x => (((ap31).symm) p9 rfl x))
  have K217 := K211.trans k214 (Grew.ok (S := fun _ => False) gr29 noB_le)
  refine wl_nil fun F218 hF219 => ?_
  have s220 : F218 1 = .int .i64 (((i : Nat) : Int)) := (hF219 1).trans s199
  have s221 : F218 22 = undef := (hF219 22).trans s200
  have s222 : F218 2 = .pointer (some ⟨p1, 0, none⟩) := (hF219 2).trans s201
  have s223 : F218 4 = .pointer (some ⟨p9, 0, none⟩) := (hF219 4).trans s202
  have s224 : F218 5 = .pointer (some ⟨p24, 0, none⟩) := (hF219 5).trans s203
  have s225 : F218 7 = .int .i64 (((3 : Nat) : Int)) := (hF219 7).trans s204
  clear hF219
  refine in_normal ?_
  refine then_normal ?_
  refine wq_region ?_
  refine wl_v (.int .i64 (((4 : Nat) : Int))) rfl rfl (y_add rfl s225 rfl (i64_n (by omega) (by omega)) ⟨rfl, rfl⟩) ?_
  refine wl_v (.int .i64 (((4 : Nat) : Int))) rfl rfl (y_mov rfl rfl ⟨rfl, rfl⟩) ?_
  refine wl_nil fun F226 hF227 => ?_
  have s228 : F226 1 = .int .i64 (((i : Nat) : Int)) := (hF227 1).trans s220
  have s229 : F226 22 = undef := (hF227 22).trans s221
  have s230 : F226 2 = .pointer (some ⟨p1, 0, none⟩) := (hF227 2).trans s222
  have s231 : F226 4 = .pointer (some ⟨p9, 0, none⟩) := (hF227 4).trans s223
  have s232 : F226 5 = .pointer (some ⟨p24, 0, none⟩) := (hF227 5).trans s224
  have s233 : F226 7 = .int .i64 (((4 : Nat) : Int)) := (hF227 7).trans rfl
  clear hF227
  refine then_normal ?_
  refine wqr_step ?_
  refine wq_seq ?_
  refine wq_region ?_
  refine wl_v (.bool false) rfl rfl (y_lss rfl s233 rfl rfl ⟨rfl, rfl⟩) ?_
  refine wl_nil fun F234 hF235 => ?_
  have s236 : F234 1 = .int .i64 (((i : Nat) : Int)) := (hF235 1).trans s228
  have s237 : F234 22 = undef := (hF235 22).trans s229
  have s238 : F234 2 = .pointer (some ⟨p1, 0, none⟩) := (hF235 2).trans s230
  have s239 : F234 4 = .pointer (some ⟨p9, 0, none⟩) := (hF235 4).trans s231
  have s240 : F234 5 = .pointer (some ⟨p24, 0, none⟩) := (hF235 5).trans s232
  have s241 : F234 7 = .int .i64 (((4 : Nat) : Int)) := (hF235 7).trans s233
  have s242 : F234 8 = .bool false := (hF235 8).trans rfl
  clear hF235
  refine then_normal ?_
  refine wq_seq ?_
  refine wq_cond (t := false) s242 (fun e => by cases e) (fun _ => ?_)
  refine wq_exit ?_
  refine then_exit ?_
  refine then_exit ?_
  refine in_here ?_
  refine then_normal ?_
  refine wq_seq ?_
  refine wq_region ?_
  refine wl_v (.agg #[.int .u8 (((byteI (b (i * 4 + 0)) : Nat) : Int)), .int .u8 (((byteI (b (i * 4 + 1)) : Nat) : Int)), .int .u8 (((byteI (b (i * 4 + 2)) : Nat) : Int)), .int .u8 (((byteI (b (i * 4 + 3)) : Nat) : Int))]) rfl rfl (y_load_stc stcT_by4 rfl s240 B213 ⟨rfl, rfl⟩) ?_
  refine wl_store_stc (us := [.int .u8 (((byteI (b (i * 4 + 0)) : Nat) : Int)), .int .u8 (((byteI (b (i * 4 + 1)) : Nat) : Int)), .int .u8 (((byteI (b (i * 4 + 2)) : Nat) : Int)), .int .u8 (((byteI (b (i * 4 + 3)) : Nat) : Int))]) stcT_by4 rfl rfl rfl s239 rfl B216 rfl (oneI rfl (oneI rfl (oneI rfl (oneI rfl oneN)))) fun w243 B244 k245 => ?_
  have B246 := B215.all k245 (fun x => (((ap15).symm) p1 rfl x))
  have B247 := B213.all k245 (fun x => ((ap31) p24 rfl x))
  have K248 := K217.trans k245 (Grew.ok (S := fun _ => False) gr14 noB_le)
  refine wl_nil fun F249 hF250 => ?_
  have s251 : F249 22 = undef := (hF250 22).trans s237
  have s252 : F249 4 = .pointer (some ⟨p9, 0, none⟩) := (hF250 4).trans s239
  clear hF250
  refine then_normal ?_
  refine wq_ret ?_
  exact end_stc (vs := [.int .u8 (((byteI (b (i * 4 + 0)) : Nat) : Int)), .int .u8 (((byteI (b (i * 4 + 1)) : Nat) : Int)), .int .u8 (((byteI (b (i * 4 + 2)) : Nat) : Int)), .int .u8 (((byteI (b (i * 4 + 3)) : Nat) : Int))]) stcT_by4 s251 rfl rfl s252 B244 ⟨rfl, K248⟩

def layF (l : List Nat) (i j : Nat) (x : Int) (c : List Nat) : List Nat :=
  l.take (i + (max 0 (min x ((j - i : Nat) : Int))).toNat) ++ ((c.drop (max 0 (min (-x) 4)).toNat).take ((j - i) - (max 0 (min x ((j - i : Nat) : Int))).toNat) ++ l.drop (i + (max 0 (min x ((j - i : Nat) : Int))).toNat + min ((j - i) - (max 0 (min x ((j - i : Nat) : Int))).toNat) (c.drop (max 0 (min (-x) 4)).toNat).length))
set_option maxHeartbeats 4000000 in
set_option maxRecDepth 100000 in
theorem ps_lay (v : Value) (l : List Nat) (i j : Nat) (x : Int) (a b c d : Nat) (T_s : Nat → Prop) (w0 : World) (hij : i ≤ j) (hj : j ≤ l.length) (hx : -64 ≤ x ∧ x ≤ 128) (ha : a < 256) (hb : b < 256) (hc : c < 256) (hd : d < 256) (h_s : Owb w0 T_s v (l)) :
    Calls Try.prog 46 #[subV (v) (i) (j) (j), .int .i64 (x), .agg #[.int .u8 (((a : Nat) : Int)), .int .u8 (((b : Nat) : Int)), .int .u8 (((c : Nat) : Int)), .int .u8 (((d : Nat) : Int))]] w0 fun e w' => ∃ (T_s' : Nat → Prop), e = .returned (.tuple #[]) ∧ Kept (T_s) w0 w' ∧ (Owb w' T_s' v (layF l i j x [a, b, c, d]) ∧ Grew w0 T_s T_s') := by
  refine calls_wq (args := [subV (v) (i) (j) (j), .int .i64 (x), .agg #[.int .u8 (((a : Nat) : Int)), .int .u8 (((b : Nat) : Int)), .int .u8 (((c : Nat) : Int)), .int .u8 (((d : Nat) : Int))]]) 17 Try.func46 rfl rfl (Nat.le_of_ble_eq_true rfl) ?_
  have K0 := Kept.refl (T_s) w0
  have g_s := Grew.refl w0 T_s
  refine wq_seq ?_
  refine wq_region ?_
  refine wl_box_stc (vs := [.int .u8 (((a : Nat) : Int)), .int .u8 (((b : Nat) : Int)), .int .u8 (((c : Nat) : Int)), .int .u8 (((d : Nat) : Int))]) rfl rfl rfl rfl fun p1 w2 B4 g5 k3 => ?_
  have gr6 : Grew w0 noB (onB p1) := Grew.new K0 g5
  have ap7 : Apart (onB p1) (T_s) := Apart.new g5 (h_s).live
  have B8 := h_s.all k3 Apart.none
  have K9 := K0.trans k3 (fun _ _ x => x.elim)
  refine wl_nil fun F10 hF11 => ?_
  have s12 : F10 0 = subV (v) (i) (j) (j) := (hF11 0).trans rfl
  have s13 : F10 1 = .int .i64 (x) := (hF11 1).trans rfl
  have s14 : F10 17 = undef := (hF11 17).trans rfl
  have s15 : F10 5 = .pointer (some ⟨p1, 0, none⟩) := (hF11 5).trans rfl
  clear hF11
  refine then_normal ?_
  refine wq_tail 10 [some 6, some 7, some 8, some 9, some 10, some 11, some 12, some 13, some 14, some 15] [Pd.eq (subV (v) (i) (j) (j)), Pd.eq (.int .i64 (x)), Pd.eq (subV (v) (i) (j) (j)), Pd.eq (.int .i64 ((((j) - (i) : Nat) : Int))), Pd.eq (.int .i64 (max (0) (min (x) ((((j) - (i) : Nat) : Int))))), Pd.eq (subV (subV (v) (i) (j) (j)) ((max (0) (min (x) ((((j) - (i) : Nat) : Int)))).toNat) ((j) - (i)) ((j) - (i))), Pd.eq (.int .i64 (x)), Pd.eq (.int .i64 (-(x))), Pd.eq (.int .i64 (max (0) (min (-(x)) (4)))), Pd.eq (arrV (p1) ((max (0) (min (-(x)) (4))).toNat))] (by kernel_rfl) (by kernel_rfl) (by kernel_rfl) ?_ ?_
  · refine stepsF_cons ?_ ?_
    · refine StepF.one rfl fun F_ w_ hR hout hD => ?_
      exact (y_mov rfl ((hout 0 rfl (by decide)).trans s12) ⟨rfl, Kept.refl _ _⟩)
    refine stepsF_cons ?_ ?_
    · refine StepF.one rfl fun F_ w_ hR hout hD => ?_
      exact (y_mov rfl ((hout 1 rfl (by decide)).trans s13) ⟨rfl, Kept.refl _ _⟩)
    refine stepsF_cons ?_ ?_
    · refine StepF.one rfl fun F_ w_ hR hout hD => ?_
      exact (y_mov rfl ((hout 0 rfl (by decide)).trans s12) ⟨rfl, Kept.refl _ _⟩)
    refine stepsF_cons ?_ ?_
    · refine StepF.one rfl fun F_ w_ hR hout hD => ?_
      have g8 : F_ 8 = subV (v) (i) (j) (j) := hD.get 0 rfl rfl rfl
      exact (y_lenS rfl rfl g8 ((B8.all hR Apart.none)).byt ⟨rfl, Kept.refl _ _⟩)
    refine stepsF_cons ?_ ?_
    · refine StepF.one rfl fun F_ w_ hR hout hD => ?_
      have g7 : F_ 7 = .int .i64 (x) := hD.get 0 rfl rfl rfl
      have g9 : F_ 9 = .int .i64 ((((j) - (i) : Nat) : Int)) := hD.get 1 rfl rfl rfl
      exact (y_cs rfl rfl rfl (fun _ _ => by kernel_rfl) (ev_func _) (vsC g7 (vsC rfl (vsC g9 vsN))) (ps_clamped (x) (0) ((((j) - (i) : Nat) : Int))  _   ) (fun e_ w_ h_ => ⟨_, h_.1, rfl, h_.2⟩))
    refine stepsF_cons ?_ ?_
    · refine StepF.one rfl fun F_ w_ hR hout hD => ?_
      have g6 : F_ 6 = subV (v) (i) (j) (j) := hD.get 0 rfl rfl rfl
      have g10 : F_ 10 = .int .i64 (max (0) (min (x) ((((j) - (i) : Nat) : Int)))) := hD.get 1 rfl rfl rfl
      exact (y_cut2L ((max (0) (min (x) ((((j) - (i) : Nat) : Int)))).toNat) rfl g6 g10 (by omega) ((B8.all hR Apart.none)).byt (by omega) ⟨rfl, Kept.refl _ _⟩)
    refine stepsF_cons ?_ ?_
    · refine StepF.one rfl fun F_ w_ hR hout hD => ?_
      exact (y_mov rfl ((hout 1 rfl (by decide)).trans s13) ⟨rfl, Kept.refl _ _⟩)
    refine stepsF_cons ?_ ?_
    · refine StepF.one rfl fun F_ w_ hR hout hD => ?_
      have g12 : F_ 12 = .int .i64 (x) := hD.get 0 rfl rfl rfl
      exact (y_neg rfl g12 (i64_i rfl (by omega)) ⟨rfl, Kept.refl _ _⟩)
    refine stepsF_cons ?_ ?_
    · refine StepF.one rfl fun F_ w_ hR hout hD => ?_
      have g13 : F_ 13 = .int .i64 (-(x)) := hD.get 0 rfl rfl rfl
      exact (y_cs rfl rfl rfl (fun _ _ => by kernel_rfl) (ev_func _) (vsC g13 (vsC rfl (vsC rfl vsN))) (ps_clamped (-(x)) (0) (4)  _   ) (fun e_ w_ h_ => ⟨_, h_.1, rfl, h_.2⟩))
    refine stepsF_cons ?_ ?_
    · refine StepF.one rfl fun F_ w_ hR hout hD => ?_
      have g14 : F_ 14 = .int .i64 (max (0) (min (-(x)) (4))) := hD.get 0 rfl rfl rfl
      exact (y_cutA ((max (0) (min (-(x)) (4))).toNat) rfl ((hout 5 rfl (by decide)).trans s15) g14 (by omega) (by omega) ⟨rfl, Kept.refl _ _⟩)
    exact stepsF_nil
  intro v16 F17 w18 k19 G20 hF21
  have B23 := B8.all k19 Apart.none
  have B24 := B4.all k19 id
  have K25 := K9.trans k19 (fun _ _ x => x.elim)
  have s26 : F17 17 = undef := (hF21 17).trans s14
  have s27 : F17 11 = subV (subV (v) (i) (j) (j)) ((max (0) (min (x) ((((j) - (i) : Nat) : Int)))).toNat) ((j) - (i)) ((j) - (i)) := (hF21 11).trans (G20 5 (by decide))
  have s28 : F17 15 = arrV (p1) ((max (0) (min (-(x)) (4))).toNat) := (hF21 15).trans (G20 9 (by decide))
  clear G20 hF21
  refine wl_copyM rfl rfl rfl rfl s27 (part_sub2 (r := (i) + ((max (0) (min (x) ((((j) - (i) : Nat) : Int)))).toNat)) (B23).byt (by omega) (by omega) rfl) s28 B23 ((B24).bytes (by omega) (by omega) (by omega) (by omega) (k := (max (0) (min (-(x)) (4))).toNat) (by omega)) (by omega) fun w30 B32 k31 => ?_
  have B35 := B24.all k31 (fun x => ((ap7) p1 rfl x))
  have K36 := K25.trans k31 (Grew.ok (S := T_s) g_s (fun _ x => x))
  refine wl_nil fun F37 hF38 => ?_
  have s39 : F37 17 = undef := (hF38 17).trans s26
  clear hF38
  exact end_none s39 rfl ⟨T_s, rfl, K36, ⟨B32, g_s⟩⟩
end Go.Proofs.Ytceoidglhakanaa
namespace Go.Proofs.Ytceoidglhakanaa
open Go.RowKit

/-- One number of a line is laid, if it is within. -/
def step1 (l : List Nat) (n w : Nat) (u : Int) (c : Nat) : List Nat := if 0 ≤ u ∧ u < (w : Int) then l.set (n + u.toNat) c else l
theorem step1_length (l : List Nat) (n w : Nat) (u : Int) (c : Nat) : (step1 l n w u c).length = l.length := by unfold step1; split <;> simp
theorem step1_at (l : List Nat) (n w : Nat) (u : Int) (c q : Nat) : (step1 l n w u c).getD q 0 = if 0 ≤ u ∧ u < (w : Int) ∧ n + u.toNat = q ∧ q < l.length then c else l.getD q 0 := by
  unfold step1
  by_cases h : 0 ≤ u ∧ u < (w : Int)
  · rw [if_pos h, getD_set]
    by_cases h2 : n + u.toNat = q ∧ q < l.length
    · rw [if_pos h2, if_pos ⟨h.1, h.2, h2.1, h2.2⟩]
    · rw [if_neg h2, if_neg (fun k => h2 ⟨k.2.2.1, k.2.2.2⟩)]
  · rw [if_neg h, if_neg (fun k => h ⟨k.1, k.2.1⟩)]
theorem ext_getD {l m : List Nat} (hl : l.length = m.length) (h : ∀ q, q < l.length → l.getD q 0 = m.getD q 0) : l = m := by
  apply List.ext_getElem hl
  intro i h1 h2
  have := h i h1
  simpa [List.getD, h1, h2] using this
theorem cut_at (l m : List Nat) (off n q : Nat) (h : off + min n m.length ≤ l.length) : (l.take off ++ (m.take n ++ l.drop (off + min n m.length))).getD q 0 = if q < off then l.getD q 0 else if q < off + min n m.length then m.getD (q - off) 0 else l.getD q 0 := by
  have h1 : (l.take off).length = off := by rw [List.length_take]; omega
  have h2 : (m.take n).length = min n m.length := List.length_take ..
  simp only [List.getD_eq_getElem?_getD]
  by_cases hq : q < off
  · rw [if_pos hq, List.getElem?_append_left (by omega), List.getElem?_take, if_pos hq]
  · rw [if_neg hq, List.getElem?_append_right (by omega), h1]
    by_cases hr : q < off + min n m.length
    · rw [if_pos hr, List.getElem?_append_left (by omega), List.getElem?_take, if_pos (by omega)]
    · rw [if_neg hr, List.getElem?_append_right (by omega), h2, List.getElem?_drop]
      congr 2; omega
set_option maxHeartbeats 4000000 in
theorem lay_steps (l : List Nat) (n w : Nat) (x : Int) (a b c d : Nat) (h : n + w ≤ l.length) : layF l n (n + w) x [a, b, c, d] = step1 (step1 (step1 (step1 l n w x a) n w (x + 1) b) n w (x + 2) c) n w (x + 3) d := by
  unfold layF
  rw [show n + w - n = w by omega]
  obtain ⟨cx, hcx⟩ : ∃ k, k = (max 0 (min x (w : Int))).toNat := ⟨_, rfl⟩
  obtain ⟨dx, hdx⟩ : ∃ k, k = (max 0 (min (-x) 4)).toNat := ⟨_, rfl⟩
  rw [← hcx, ← hdx]
  have hd4 : ([a, b, c, d].drop dx).length = 4 - dx := by simp
  apply ext_getD
  · rw [step1_length, step1_length, step1_length, step1_length]
    simp; omega
  · intro q hq
    have hql : q < l.length := by
      have : (l.take (n + cx) ++ (([a, b, c, d].drop dx).take (w - cx) ++ l.drop (n + cx + min (w - cx) ([a, b, c, d].drop dx).length))).length = l.length := by simp; omega
      omega
    rw [cut_at _ _ _ _ _ (by rw [hd4]; omega), hd4]
    simp only [step1_at, step1_length]
    have hg : ∀ t, ([a, b, c, d].drop dx).getD t 0 = [a, b, c, d].getD (dx + t) 0 := fun t => by simp [List.getD_eq_getElem?_getD, List.getElem?_drop]
    rw [hg]
    by_cases h3 : 0 ≤ x + 3 ∧ x + 3 < (w : Int) ∧ n + (x + 3).toNat = q ∧ q < l.length
    · rw [if_pos h3, if_neg (by omega), if_pos (by omega), show dx + (q - (n + cx)) = 3 by omega]; rfl
    · rw [if_neg h3]
      by_cases h2 : 0 ≤ x + 2 ∧ x + 2 < (w : Int) ∧ n + (x + 2).toNat = q ∧ q < l.length
      · rw [if_pos h2, if_neg (by omega), if_pos (by omega), show dx + (q - (n + cx)) = 2 by omega]; rfl
      · rw [if_neg h2]
        by_cases h1 : 0 ≤ x + 1 ∧ x + 1 < (w : Int) ∧ n + (x + 1).toNat = q ∧ q < l.length
        · rw [if_pos h1, if_neg (by omega), if_pos (by omega), show dx + (q - (n + cx)) = 1 by omega]; rfl
        · rw [if_neg h1]
          by_cases h0 : 0 ≤ x ∧ x < (w : Int) ∧ n + x.toNat = q ∧ q < l.length
          · rw [if_pos h0, if_neg (by omega), if_pos (by omega), show dx + (q - (n + cx)) = 0 by omega]; rfl
          · rw [if_neg h0]
            by_cases hA : q < n + cx
            · rw [if_pos hA]
            · rw [if_neg hA, if_neg (by omega)]
/-- A block's line, of a plane that is there. -/
theorem put_step {f : FD} {p : Int} (x y : Int) (b : Nat → Int) (k : Nat) (hp : 0 ≤ p) (hp2 : p ≤ 2) (hy : 0 ≤ nearI y + ((k / 4 : Nat) : Int) ∧ nearI y + ((k / 4 : Nat) : Int) < (sizeF f p).2) :
    (putTo f p x y b (k + 1)).pl p = step1 ((putTo f p x y b k).pl p) ((nearI y + ((k / 4 : Nat) : Int)) * (sizeF f p).1).toNat (sizeF f p).1.toNat (nearI x + ((k % 4 : Nat) : Int)) (byteI (b k)) ∧ ∀ q, 0 ≤ q → q ≤ 2 → q ≠ p → (putTo f p x y b (k + 1)).pl q = (putTo f p x y b k).pl q := by
  have hb := size_bounds f p
  by_cases h : within (sizeF f p).1 (sizeF f p).2 (nearI x + ((k % 4 : Nat) : Int)) (nearI y + ((k / 4 : Nat) : Int))
  · have hc := within_cell h
    rw [put_in h]
    have hs := setp_pl (putTo f p x y b k) p ((nearI y + ((k / 4 : Nat) : Int)) * (sizeF f p).1 + (nearI x + ((k % 4 : Nat) : Int))).toNat (byteI (b k)) hp hp2
    refine ⟨?_, hs.2⟩
    rw [hs.1]
    unfold step1
    unfold within at h
    rw [if_pos ⟨h.1, by omega⟩, Int.toNat_add (by omega) (by omega)]
  · rw [put_out h]
    refine ⟨?_, fun _ _ _ _ => rfl⟩
    unfold step1
    unfold within at h
    rw [if_neg (by omega)]
theorem put_line {f : FD} {p : Int} (x y : Int) (b : Nat → Int) (i : Nat) (hp : 0 ≤ p) (hp2 : p ≤ 2) (hsz : (sizeF f p).1 ≠ 0) (hy : 0 ≤ nearI y + (i : Int) ∧ nearI y + (i : Int) < (sizeF f p).2) :
    (putTo f p x y b (4 * (i + 1))).pl p = layF ((putTo f p x y b (4 * i)).pl p) ((nearI y + (i : Int)) * (sizeF f p).1).toNat ((nearI y + (i : Int)) * (sizeF f p).1 + (sizeF f p).1).toNat (nearI x) [byteI (b (i * 4)), byteI (b (i * 4 + 1)), byteI (b (i * 4 + 2)), byteI (b (i * 4 + 3))] ∧ ∀ q, 0 ≤ q → q ≤ 2 → q ≠ p → (putTo f p x y b (4 * (i + 1))).pl q = (putTo f p x y b (4 * i)).pl q := by
  have hb := size_bounds f p
  have hin : within (sizeF f p).1 (sizeF f p).2 0 (nearI y + (i : Int)) := ⟨by omega, by omega, hy.1, hy.2⟩
  have hin2 : within (sizeF f p).1 (sizeF f p).2 ((sizeF f p).1 - 1) (nearI y + (i : Int)) := ⟨by omega, by omega, hy.1, hy.2⟩
  have hc := within_cell hin
  have hc2 := within_cell hin2
  have q0 : 4 * i / 4 = i := by omega
  have q1 : (4 * i + 1) / 4 = i := by omega
  have q2 : (4 * i + 2) / 4 = i := by omega
  have q3 : (4 * i + 3) / 4 = i := by omega
  have r0 : 4 * i % 4 = 0 := by omega
  have r1 : (4 * i + 1) % 4 = 1 := by omega
  have r2 : (4 * i + 2) % 4 = 2 := by omega
  have r3 : (4 * i + 3) % 4 = 3 := by omega
  have s0 := put_step (f := f) (p := p) x y b (4 * i) hp hp2 (by rw [q0]; exact hy)
  have s1 := put_step (f := f) (p := p) x y b (4 * i + 1) hp hp2 (by rw [q1]; exact hy)
  have s2 := put_step (f := f) (p := p) x y b (4 * i + 2) hp hp2 (by rw [q2]; exact hy)
  have s3 := put_step (f := f) (p := p) x y b (4 * i + 3) hp hp2 (by rw [q3]; exact hy)
  rw [q0, r0] at s0
  rw [q1, r1] at s1
  rw [q2, r2] at s2
  rw [q3, r3] at s3
  have hlen : ((putTo f p x y b (4 * i)).pl p).length = (f.pl p).length := by
    have h := put_lens x y b (4 * i) hsz
    have : p = 0 ∨ p = 1 ∨ p = 2 := by omega
    rcases this with rfl | rfl | rfl
    · exact h.1
    · exact h.2.1
    · exact h.2.2
  have e : ((nearI y + (i : Int)) * (sizeF f p).1 + (sizeF f p).1).toNat = ((nearI y + (i : Int)) * (sizeF f p).1).toNat + (sizeF f p).1.toNat := Int.toNat_add (by omega) (by omega)
  rw [show 4 * (i + 1) = 4 * i + 3 + 1 by omega]
  refine ⟨?_, fun q h0 h2 hq => by rw [s3.2 q h0 h2 hq, s2.2 q h0 h2 hq, s1.2 q h0 h2 hq, s0.2 q h0 h2 hq]⟩
  rw [e, lay_steps _ _ _ _ _ _ _ _ (by rw [hlen]; omega), s3.1, s2.1, s1.1, s0.1]
  rw [show i * 4 = 4 * i by omega]
  rw [show nearI x + ((0 : Nat) : Int) = nearI x by omega]
  rfl
theorem size_copy (f : FD) (p : Int) : sizeF (copyF f) p = sizeF f p := by
  by_cases h : okF f
  · rw [copyF_yes h]
  · rw [copyF_no h, sizeF_no (fun k => h k.1), sizeF_no (fun k => absurd k.1 (by decide))]
theorem put_skip {f : FD} {p x y : Int} {b : Nat → Int} {i : Nat} (h : ¬ (0 ≤ nearI y + (i : Int) ∧ nearI y + (i : Int) < (sizeF f p).2)) : putTo f p x y b (4 * (i + 1)) = putTo f p x y b (4 * i) := by
  rw [show 4 * (i + 1) = 4 * i + 3 + 1 by omega]
  rw [put_out (k := 4 * i + 3) (by unfold within; rw [show (4 * i + 3) / 4 = i by omega]; omega), put_out (k := 4 * i + 2) (by unfold within; rw [show (4 * i + 2) / 4 = i by omega]; omega), put_out (k := 4 * i + 1) (by unfold within; rw [show (4 * i + 1) / 4 = i by omega]; omega), put_out (k := 4 * i) (by unfold within; rw [show (4 * i) / 4 = i by omega]; omega)]
end Go.Proofs.Ytceoidglhakanaa
namespace Go.Proofs.Ytceoidglhakanaa
open Go.RowKit
theorem Owb.of_eq {w : World} {T : Nat → Prop} {v : Value} {l m : List Nat} (e : m = l) (h : Owb w T v l) : Owb w T v m := e ▸ h
theorem size_two {f : FD} {p : Int} (h : 0 < (sizeF f p).2) : (sizeF f p).1 ≠ 0 := by
  by_cases hk : okF f ∧ 0 ≤ p ∧ p ≤ 2
  · have := (size_pos hk); omega
  · rw [sizeF_no hk] at h; exact absurd h (by decide)
set_option maxHeartbeats 4000000 in
set_option maxRecDepth 100000 in
theorem pl_put (p x y : Int) (b : Nat → Int) (f : FD) (f0 f1 f2 : Value) (T_f0 : Nat → Prop) (T_f1 : Nat → Prop) (T_f2 : Nat → Prop) (w0 : World) (h_f0 : Byt w0 T_f0 f0 ((f).p0)) (h_f1 : Byt w0 T_f1 f1 ((f).p1)) (h_f2 : Byt w0 T_f2 f2 ((f).p2)) :
    Calls Try.prog 25 #[.agg #[.int .i64 ((f).W), .int .i64 ((f).H), f0, f1, f2], .int .i64 (p), .int .i64 (x), .int .i64 (y), blkV (b)] w0 fun e w' => ∃ (v1 : Value) (T1 : Nat → Prop) (v2 : Value) (T2 : Nat → Prop) (v3 : Value) (T3 : Nat → Prop), e = .returned (.agg #[.int .i64 ((putFr f p x y b).W), .int .i64 ((putFr f p x y b).H), v1, v2, v3]) ∧ Kept (fun _ => False) w0 w' ∧ (Owb w' T1 v1 ((putFr f p x y b).p0) ∧ Grew w0 noB T1) ∧ (Owb w' T2 v2 ((putFr f p x y b).p1) ∧ Grew w0 noB T2) ∧ (Owb w' T3 v3 ((putFr f p x y b).p2) ∧ Grew w0 noB T3) ∧ Apart T1 T2 ∧ Apart T1 T3 ∧ Apart T2 T3 := by
  refine calls_wq (args := [.agg #[.int .i64 ((f).W), .int .i64 ((f).H), f0, f1, f2], .int .i64 (p), .int .i64 (x), .int .i64 (y), blkV (b)]) 55 Try.func25 rfl rfl (Nat.le_of_ble_eq_true rfl) ?_
  have K0 := Kept.refl (fun _ => False) w0
  have hnx := near_bounds x
  have hny := near_bounds y
  have hsb := size_bounds f p
  have g_f0 := Grew.refl w0 T_f0
  have g_f1 := Grew.refl w0 T_f1
  have g_f2 := Grew.refl w0 T_f2
  refine wq_seq ?_
  refine wq_region ?_
  refine wl_box_stc (vs := [.int .i64 ((f).W), .int .i64 ((f).H), f0, f1, f2]) rfl rfl rfl rfl fun p1 w2 B4 g5 k3 => ?_
  have gr6 : Grew w0 noB (onB p1) := Grew.new K0 g5
  have ap7 : Apart (onB p1) (T_f0) := Apart.new g5 (h_f0).live
  have ap8 : Apart (onB p1) (T_f1) := Apart.new g5 (h_f1).live
  have ap9 : Apart (onB p1) (T_f2) := Apart.new g5 (h_f2).live
  have B10 := h_f0.all k3 Apart.none
  have B11 := h_f1.all k3 Apart.none
  have B12 := h_f2.all k3 Apart.none
  have K13 := K0.trans k3 (fun _ _ x => x.elim)
  refine wl_box_blk rfl rfl rfl rfl fun p14 w15 e18 B16 k17 => ?_
  have g19 := onB_new (Nat.le_of_eq e18.symm)
  have gr20 : Grew w0 noB (onB p14) := Grew.new K13 g19
  have ap21 : Apart (onB p14) (T_f0) := Apart.new g19 (B10).live
  have ap22 : Apart (onB p14) (T_f1) := Apart.new g19 (B11).live
  have ap23 : Apart (onB p14) (T_f2) := Apart.new g19 (B12).live
  have ap24 : Apart (onB p14) (onB p1) := Apart.new g19 (onB_live (B4).lt)
  clear e18 g19
  have B25 := B10.all k17 Apart.none
  have B26 := B11.all k17 Apart.none
  have B27 := B12.all k17 Apart.none
  have B28 := B4.all k17 id
  have K29 := K13.trans k17 (fun _ _ x => x.elim)
  refine wl_alloc_stc (n := 5) (vs := [.int .i64 (0), .int .i64 (0), .slice none 0 0, .slice none 0 0, .slice none 0 0]) rfl rfl rfl (by kernel_rfl) fun p30 w31 B33 g34 k32 => ?_
  have gr35 : Grew w0 noB (onB p30) := Grew.new K29 g34
  have ap36 : Apart (onB p30) (T_f0) := Apart.new g34 (B25).live
  have ap37 : Apart (onB p30) (T_f1) := Apart.new g34 (B26).live
  have ap38 : Apart (onB p30) (T_f2) := Apart.new g34 (B27).live
  have ap39 : Apart (onB p30) (onB p1) := Apart.new g34 (onB_live (B28).lt)
  have ap40 : Apart (onB p30) (onB p14) := Apart.new g34 (onB_live (B16).lt)
  have B41 := B25.all k32 Apart.none
  have B42 := B26.all k32 Apart.none
  have B43 := B27.all k32 Apart.none
  have B44 := B28.all k32 id
  have B45 := B16.all k32 id
  have K46 := K29.trans k32 (fun _ _ x => x.elim)
  refine wl_nil fun F47 hF48 => ?_
  have s49 : F47 1 = .int .i64 (p) := (hF48 1).trans rfl
  have s50 : F47 2 = .int .i64 (x) := (hF48 2).trans rfl
  have s51 : F47 3 = .int .i64 (y) := (hF48 3).trans rfl
  have s52 : F47 55 = undef := (hF48 55).trans rfl
  have s53 : F47 5 = .pointer (some ⟨p1, 0, none⟩) := (hF48 5).trans rfl
  have s54 : F47 9 = .pointer (some ⟨p14, 0, none⟩) := (hF48 9).trans rfl
  have s55 : F47 10 = .pointer (some ⟨p30, 0, none⟩) := (hF48 10).trans rfl
  clear hF48
  refine then_normal ?_
  refine wq_seq ?_
  refine wq_region ?_
  refine wl_v (.agg #[.int .i64 ((f).W), .int .i64 ((f).H), f0, f1, f2]) rfl rfl (y_load_stc stcT_frame rfl s53 B44 ⟨rfl, rfl⟩) ?_
  refine wl_call (R := fun v_ w_ => ∃ (v56 : Value) (T61 : Nat → Prop) (v57 : Value) (T62 : Nat → Prop) (v58 : Value) (T63 : Nat → Prop), .agg #[.int .i64 ((copyF (f)).W), .int .i64 ((copyF (f)).H), v56, v57, v58] = v_ ∧ Kept (fun _ => False) w31 w_ ∧ (Owb w_ T61 v56 ((copyF (f)).p0) ∧ Grew w31 noB T61) ∧ (Owb w_ T62 v57 ((copyF (f)).p1) ∧ Grew w31 noB T62) ∧ (Owb w_ T63 v58 ((copyF (f)).p2) ∧ Grew w31 noB T63) ∧ Apart T61 T62 ∧ Apart T61 T63 ∧ Apart T62 T63) rfl rfl (y_cs rfl rfl rfl (fun _ _ => by kernel_rfl) (ev_func _) (vsC rfl vsN) (pl_copy (f) (f0) (f1) (f2) (T_f0) (T_f1) (T_f2) _  B41 B42 B43 ) (fun e_ w_ h_ => by obtain ⟨v56_, T61_, v57_, T62_, v58_, T63_, he_, hr_⟩ := h_; exact ⟨_, he_, v56_, T61_, v57_, T62_, v58_, T63_, rfl, hr_⟩)) ?_
  rintro _ w59 ⟨v56, T61, v57, T62, v58, T63, rfl, k60, ⟨B64, g67⟩, ⟨B65, g68⟩, ⟨B66, g69⟩, ap70, ap71, ap72⟩
  have B73 := B41.all k60 Apart.none
  have B74 := B42.all k60 Apart.none
  have B75 := B43.all k60 Apart.none
  have B76 := B44.all k60 id
  have B77 := B45.all k60 id
  have B78 := B33.all k60 id
  have K79 := K46.trans k60 (fun _ _ x => x.elim)
  have gr80 : Grew w0 noB (T61) := Grew.new K46 g67
  have ap81 : Apart (T61) (T_f0) := Apart.new g67 (B41).live
  have ap82 : Apart (T61) (T_f1) := Apart.new g67 (B42).live
  have ap83 : Apart (T61) (T_f2) := Apart.new g67 (B43).live
  have ap84 : Apart (T61) (onB p1) := Apart.new g67 (onB_live (B44).lt)
  have ap85 : Apart (T61) (onB p14) := Apart.new g67 (onB_live (B45).lt)
  have ap86 : Apart (T61) (onB p30) := Apart.new g67 (onB_live (B33).lt)
  have gr87 : Grew w0 noB (T62) := Grew.new K46 g68
  have ap88 : Apart (T62) (T_f0) := Apart.new g68 (B41).live
  have ap89 : Apart (T62) (T_f1) := Apart.new g68 (B42).live
  have ap90 : Apart (T62) (T_f2) := Apart.new g68 (B43).live
  have ap91 : Apart (T62) (onB p1) := Apart.new g68 (onB_live (B44).lt)
  have ap92 : Apart (T62) (onB p14) := Apart.new g68 (onB_live (B45).lt)
  have ap93 : Apart (T62) (onB p30) := Apart.new g68 (onB_live (B33).lt)
  have gr94 : Grew w0 noB (T63) := Grew.new K46 g69
  have ap95 : Apart (T63) (T_f0) := Apart.new g69 (B41).live
  have ap96 : Apart (T63) (T_f1) := Apart.new g69 (B42).live
  have ap97 : Apart (T63) (T_f2) := Apart.new g69 (B43).live
  have ap98 : Apart (T63) (onB p1) := Apart.new g69 (onB_live (B44).lt)
  have ap99 : Apart (T63) (onB p14) := Apart.new g69 (onB_live (B45).lt)
  have ap100 : Apart (T63) (onB p30) := Apart.new g69 (onB_live (B33).lt)
  refine wl_alloc_stc (n := 5) (vs := [.int .i64 (0), .int .i64 (0), .slice none 0 0, .slice none 0 0, .slice none 0 0]) rfl rfl rfl (by kernel_rfl) fun p101 w102 B104 g105 k103 => ?_
  have gr106 : Grew w0 noB (onB p101) := Grew.new K79 g105
  have ap107 : Apart (onB p101) (T_f0) := Apart.new g105 (B73).live
  have ap108 : Apart (onB p101) (T_f1) := Apart.new g105 (B74).live
  have ap109 : Apart (onB p101) (T_f2) := Apart.new g105 (B75).live
  have ap110 : Apart (onB p101) (onB p1) := Apart.new g105 (onB_live (B76).lt)
  have ap111 : Apart (onB p101) (onB p14) := Apart.new g105 (onB_live (B77).lt)
  have ap112 : Apart (onB p101) (onB p30) := Apart.new g105 (onB_live (B78).lt)
  have ap113 : Apart (onB p101) (T61) := Apart.new g105 (B64).live
  have ap114 : Apart (onB p101) (T62) := Apart.new g105 (B65).live
  have ap115 : Apart (onB p101) (T63) := Apart.new g105 (B66).live
  have B116 := B73.all k103 Apart.none
  have B117 := B74.all k103 Apart.none
  have B118 := B75.all k103 Apart.none
  have B119 := B76.all k103 id
  have B120 := B77.all k103 id
  have B121 := B78.all k103 id
  have B122 := B64.all k103 Apart.none
  have B123 := B65.all k103 Apart.none
  have B124 := B66.all k103 Apart.none
  have K125 := K79.trans k103 (fun _ _ x => x.elim)
  refine wl_store_stc (us := [.int .i64 ((copyF (f)).W), .int .i64 ((copyF (f)).H), v56, v57, v58]) stcT_frame rfl rfl rfl rfl rfl B104 rfl (oneI rfl (oneI rfl (oneI (B122).one (oneI (B123).one (oneI (B124).one oneN))))) fun w126 B127 k128 => ?_
  have B129 := B116.all k128 (fun i h x => (((ap107).symm) i h x))
  have B130 := B117.all k128 (fun i h x => (((ap108).symm) i h x))
  have B131 := B118.all k128 (fun i h x => (((ap109).symm) i h x))
  have B132 := B119.all k128 (fun x => (((ap110).symm) p1 rfl x))
  have B133 := B120.all k128 (fun x => (((ap111).symm) p14 rfl x))
  have B134 := B121.all k128 (fun x => (((ap112).symm) p30 rfl x))
  have B135 := B122.all k128 (fun i h x => (((ap113).symm) i h x))
  have B136 := B123.all k128 (fun i h x => (((ap114).symm) i h x))
  have B137 := B124.all k128 (fun i h x => (((ap115).symm) i h x))
  have K138 := K125.trans k128 (Grew.ok (S := fun _ => False) gr106 noB_le)
  refine wl_nil fun F139 hF140 => ?_
  have s141 : F139 1 = .int .i64 (p) := (hF140 1).trans s49
  have s142 : F139 2 = .int .i64 (x) := (hF140 2).trans s50
  have s143 : F139 3 = .int .i64 (y) := (hF140 3).trans s51
  have s144 : F139 55 = undef := (hF140 55).trans s52
  have s145 : F139 9 = .pointer (some ⟨p14, 0, none⟩) := (hF140 9).trans s54
  have s146 : F139 10 = .pointer (some ⟨p30, 0, none⟩) := (hF140 10).trans s55
  have s147 : F139 11 = .pointer (some ⟨p101, 0, none⟩) := (hF140 11).trans rfl
  clear hF140
  refine then_normal ?_
  refine wq_seq ?_
  refine wq_region ?_
  refine wl_v (.agg #[.int .i64 ((copyF (f)).W), .int .i64 ((copyF (f)).H), v56, v57, v58]) rfl rfl (y_load_stc stcT_frame rfl s147 B127 ⟨rfl, rfl⟩) ?_
  refine wl_v (.int .i64 (p)) rfl rfl (y_mov rfl s141 ⟨rfl, rfl⟩) ?_
  refine wl_call (R := fun v_ w_ => v_ = .tuple #[.int .i64 ((sizeF (copyF (f)) (p)).1), .int .i64 ((sizeF (copyF (f)) (p)).2)] ∧ Kept (fun _ => False) w126 w_) rfl rfl (y_cs rfl rfl rfl (fun _ _ => by kernel_rfl) (ev_func _) (vsC rfl (vsC rfl vsN)) (pl_size (p) (copyF (f)) (v56) (v57) (v58) (T61) (T62) (T63) _  (B135).byt (B136).byt (B137).byt ) (fun e_ w_ h_ => ⟨_, h_.1, rfl, h_.2⟩)) ?_
  rintro _ w148 ⟨rfl, k149⟩
  have B150 := B129.all k149 Apart.none
  have B151 := B130.all k149 Apart.none
  have B152 := B131.all k149 Apart.none
  have B153 := B132.all k149 id
  have B154 := B133.all k149 id
  have B155 := B134.all k149 id
  have B156 := B135.all k149 Apart.none
  have B157 := B136.all k149 Apart.none
  have B158 := B137.all k149 Apart.none
  have B159 := B127.all k149 id
  have K160 := K138.trans k149 (fun _ _ x => x.elim)
  refine wl_v (.tuple #[.int .i64 ((sizeF (copyF (f)) (p)).1), .int .i64 ((sizeF (copyF (f)) (p)).2)]) rfl rfl (y_mov rfl rfl ⟨rfl, rfl⟩) ?_
  refine wl_v (.int .i64 ((sizeF (copyF (f)) (p)).1)) rfl rfl (y_ext rfl rfl rfl ⟨rfl, rfl⟩) ?_
  refine wl_v (.int .i64 ((sizeF (copyF (f)) (p)).2)) rfl rfl (y_ext rfl rfl rfl ⟨rfl, rfl⟩) ?_
  refine wl_v (.int .i64 ((sizeF (copyF (f)) (p)).1)) rfl rfl (y_asg rfl rfl ⟨rfl, rfl⟩) ?_
  refine wl_v (.int .i64 ((sizeF (copyF (f)) (p)).2)) rfl rfl (y_asg rfl rfl ⟨rfl, rfl⟩) ?_
  refine wl_nil fun F161 hF162 => ?_
  have s163 : F161 1 = .int .i64 (p) := (hF162 1).trans s141
  have s164 : F161 2 = .int .i64 (x) := (hF162 2).trans s142
  have s165 : F161 3 = .int .i64 (y) := (hF162 3).trans s143
  have s166 : F161 55 = undef := (hF162 55).trans s144
  have s167 : F161 9 = .pointer (some ⟨p14, 0, none⟩) := (hF162 9).trans s145
  have s168 : F161 10 = .pointer (some ⟨p30, 0, none⟩) := (hF162 10).trans s146
  have s169 : F161 11 = .pointer (some ⟨p101, 0, none⟩) := (hF162 11).trans s147
  have s170 : F161 12 = .int .i64 ((sizeF (copyF (f)) (p)).1) := (hF162 12).trans rfl
  have s171 : F161 13 = .int .i64 ((sizeF (copyF (f)) (p)).2) := (hF162 13).trans rfl
  clear hF162
  refine then_normal ?_
  refine wq_seq ?_
  have s172 : F161 12 = .int .i64 ((sizeF f p).1) := s170.trans (congrArg (Value.int .i64) (congrArg Prod.fst (size_copy f p)))
  have s173 : F161 13 = .int .i64 ((sizeF f p).2) := s171.trans (congrArg (Value.int .i64) (congrArg Prod.snd (size_copy f p)))
  refine wq_region ?_
  refine wl_v (.int .i64 (x)) rfl rfl (y_mov rfl s164 ⟨rfl, rfl⟩) ?_
  refine wl_call (R := fun v_ w_ => v_ = .int .i64 (nearI (x)) ∧ Kept (fun _ => False) w148 w_) rfl rfl (y_cs rfl rfl rfl (fun _ _ => by kernel_rfl) (ev_func _) (vsC rfl vsN) (ps_near (x)  _   ) (fun e_ w_ h_ => ⟨_, h_.1, rfl, h_.2⟩)) ?_
  rintro _ w174 ⟨rfl, k175⟩
  have B176 := B150.all k175 Apart.none
  have B177 := B151.all k175 Apart.none
  have B178 := B152.all k175 Apart.none
  have B179 := B153.all k175 id
  have B180 := B154.all k175 id
  have B181 := B155.all k175 id
  have B182 := B156.all k175 Apart.none
  have B183 := B157.all k175 Apart.none
  have B184 := B158.all k175 Apart.none
  have B185 := B159.all k175 id
  have K186 := K160.trans k175 (fun _ _ x => x.elim)
  refine wl_v (.int .i64 (y)) rfl rfl (y_mov rfl s165 ⟨rfl, rfl⟩) ?_
  refine wl_call (R := fun v_ w_ => v_ = .int .i64 (nearI (y)) ∧ Kept (fun _ => False) w174 w_) rfl rfl (y_cs rfl rfl rfl (fun _ _ => by kernel_rfl) (ev_func _) (vsC rfl vsN) (ps_near (y)  _   ) (fun e_ w_ h_ => ⟨_, h_.1, rfl, h_.2⟩)) ?_
  rintro _ w187 ⟨rfl, k188⟩
  have B189 := B176.all k188 Apart.none
  have B190 := B177.all k188 Apart.none
  have B191 := B178.all k188 Apart.none
  have B192 := B179.all k188 id
  have B193 := B180.all k188 id
  have B194 := B181.all k188 id
  have B195 := B182.all k188 Apart.none
  have B196 := B183.all k188 Apart.none
  have B197 := B184.all k188 Apart.none
  have B198 := B185.all k188 id
  have K199 := K186.trans k188 (fun _ _ x => x.elim)
  refine wl_v (.int .i64 (nearI (x))) rfl rfl (y_asg rfl rfl ⟨rfl, rfl⟩) ?_
  refine wl_v (.int .i64 (nearI (y))) rfl rfl (y_asg rfl rfl ⟨rfl, rfl⟩) ?_
  refine wl_nil fun F200 hF201 => ?_
  have s202 : F200 1 = .int .i64 (p) := (hF201 1).trans s163
  have s203 : F200 55 = undef := (hF201 55).trans s166
  have s204 : F200 9 = .pointer (some ⟨p14, 0, none⟩) := (hF201 9).trans s167
  have s205 : F200 10 = .pointer (some ⟨p30, 0, none⟩) := (hF201 10).trans s168
  have s206 : F200 11 = .pointer (some ⟨p101, 0, none⟩) := (hF201 11).trans s169
  have s207 : F200 12 = .int .i64 ((sizeF f p).1) := (hF201 12).trans s172
  have s208 : F200 13 = .int .i64 ((sizeF f p).2) := (hF201 13).trans s173
  have s209 : F200 2 = .int .i64 (nearI (x)) := (hF201 2).trans rfl
  have s210 : F200 3 = .int .i64 (nearI (y)) := (hF201 3).trans rfl
  clear hF201
  refine then_normal ?_
  refine wq_seq ?_
  refine wq_seq ?_
  refine wq_region ?_
  refine wl_v (.int .i64 (0)) rfl rfl (y_mov rfl rfl ⟨rfl, rfl⟩) ?_
  refine wl_nil fun F211 hF212 => ?_
  have s213 : F211 1 = .int .i64 (p) := (hF212 1).trans s202
  have s214 : F211 55 = undef := (hF212 55).trans s203
  have s215 : F211 9 = .pointer (some ⟨p14, 0, none⟩) := (hF212 9).trans s204
  have s216 : F211 10 = .pointer (some ⟨p30, 0, none⟩) := (hF212 10).trans s205
  have s217 : F211 11 = .pointer (some ⟨p101, 0, none⟩) := (hF212 11).trans s206
  have s218 : F211 12 = .int .i64 ((sizeF f p).1) := (hF212 12).trans s207
  have s219 : F211 13 = .int .i64 ((sizeF f p).2) := (hF212 13).trans s208
  have s220 : F211 2 = .int .i64 (nearI (x)) := (hF212 2).trans s209
  have s221 : F211 3 = .int .i64 (nearI (y)) := (hF212 3).trans s210
  have s222 : F211 28 = .int .i64 (0) := (hF212 28).trans rfl
  clear hF212
  refine then_normal ?_
  refine wq_block ?_
  refine wq_loop (fun nn FF ww => ∃ (i : Nat), ∃ (T223 : Nat → Prop), ∃ (T224 : Nat → Prop), ∃ (T225 : Nat → Prop), (i ≤ 4) ∧ nn = 4 - i ∧ FF 1 = .int .i64 (p) ∧ FF 2 = .int .i64 (nearI (x)) ∧ FF 3 = .int .i64 (nearI (y)) ∧ FF 9 = .pointer (some ⟨p14, 0, none⟩) ∧ FF 10 = .pointer (some ⟨p30, 0, none⟩) ∧ FF 11 = .pointer (some ⟨p101, 0, none⟩) ∧ FF 12 = .int .i64 ((sizeF f p).1) ∧ FF 13 = .int .i64 ((sizeF f p).2) ∧ FF 55 = undef ∧ FF 28 = .int .i64 (((i : Nat) : Int)) ∧ Kept (fun _ => False) w0 ww ∧ Byt ww (T_f0) f0 ((f).p0) ∧ Byt ww (T_f1) f1 ((f).p1) ∧ Byt ww (T_f2) f2 ((f).p2) ∧ Stc ww p1 25 [.int .i64 ((f).W), .int .i64 ((f).H), f0, f1, f2] ∧ Blk ww p14 31 (b) ∧ Stc ww p30 25 [.int .i64 (0), .int .i64 (0), .slice none 0 0, .slice none 0 0, .slice none 0 0] ∧ Owb ww (T223) v56 ((putTo f p x y b (4 * i)).p0) ∧ Owb ww (T224) v57 ((putTo f p x y b (4 * i)).p1) ∧ Owb ww (T225) v58 ((putTo f p x y b (4 * i)).p2) ∧ Stc ww p101 25 [.int .i64 ((copyF (f)).W), .int .i64 ((copyF (f)).H), v56, v57, v58] ∧ Grew w0 (noB) T223 ∧ Grew w0 (noB) T224 ∧ Grew w0 (noB) T225 ∧ Apart (T223) (T_f0) ∧ Apart (T223) (T_f1) ∧ Apart (T223) (T_f2) ∧ Apart (T223) (onB p1) ∧ Apart (T223) (onB p14) ∧ Apart (T223) (onB p30) ∧ Apart (T223) (T224) ∧ Apart (T223) (T225) ∧ Apart (T223) (onB p101) ∧ Apart (T224) (T_f0) ∧ Apart (T224) (T_f1) ∧ Apart (T224) (T_f2) ∧ Apart (T224) (onB p1) ∧ Apart (T224) (onB p14) ∧ Apart (T224) (onB p30) ∧ Apart (T224) (T225) ∧ Apart (T224) (onB p101) ∧ Apart (T225) (T_f0) ∧ Apart (T225) (T_f1) ∧ Apart (T225) (T_f2) ∧ Apart (T225) (onB p1) ∧ Apart (T225) (onB p14) ∧ Apart (T225) (onB p30) ∧ Apart (T225) (onB p101)) (4 - (0)) ⟨0, T61, T62, T63, by omega, rfl, s213, s220, s221, s215, s216, s217, s218, s219, s214, s222, K199, B189, B190, B191, B192, B193, B194, B195, B196, B197, B198, gr80, gr87, gr94, ap81, ap82, ap83, ap84, ap85, ap86, ap70, ap71, (ap113).symm, ap88, ap89, ap90, ap91, ap92, ap93, ap72, (ap114).symm, ap95, ap96, ap97, ap98, ap99, ap100, (ap115).symm⟩ ?_
  rintro n229 F226 w227 ⟨i, T223, T224, T225, i230, hn229, s231, s232, s233, s234, s235, s236, s237, s238, s239, s240, K228, B241, B242, B243, B244, B245, B246, B247, B248, B249, B250, gr251, gr252, gr253, ap254, ap255, ap256, ap257, ap258, ap259, ap260, ap261, ap262, ap263, ap264, ap265, ap266, ap267, ap268, ap269, ap270, ap271, ap272, ap273, ap274, ap275, ap276, ap277⟩
  refine wq_seq ?_
  refine wq_region ?_
  refine wl_v (.bool (decide ((((i : Nat) : Int)) < (4)))) rfl rfl (y_lss rfl s240 rfl rfl ⟨rfl, rfl⟩) ?_
  refine wl_nil fun F278 hF279 => ?_
  have s280 : F278 1 = .int .i64 (p) := (hF279 1).trans s231
  have s281 : F278 2 = .int .i64 (nearI (x)) := (hF279 2).trans s232
  have s282 : F278 3 = .int .i64 (nearI (y)) := (hF279 3).trans s233
  have s283 : F278 9 = .pointer (some ⟨p14, 0, none⟩) := (hF279 9).trans s234
  have s284 : F278 10 = .pointer (some ⟨p30, 0, none⟩) := (hF279 10).trans s235
  have s285 : F278 11 = .pointer (some ⟨p101, 0, none⟩) := (hF279 11).trans s236
  have s286 : F278 12 = .int .i64 ((sizeF f p).1) := (hF279 12).trans s237
  have s287 : F278 13 = .int .i64 ((sizeF f p).2) := (hF279 13).trans s238
  have s288 : F278 55 = undef := (hF279 55).trans s239
  have s289 : F278 28 = .int .i64 (((i : Nat) : Int)) := (hF279 28).trans s240
  have s290 : F278 29 = .bool (decide ((((i : Nat) : Int)) < (4))) := (hF279 29).trans rfl
  clear hF279
  refine then_normal ?_
  refine wq_seq ?_
  refine wq_cond s290 (fun c291 => ?_) (fun c291 => ?_)
  · replace c291 := of_decide_eq_true c291
    refine wq_skip ?_
    refine then_normal ?_
    refine wq_seq ?_
    refine wq_block ?_
    refine wq_seq ?_
    refine wq_region ?_
    refine wl_v (.int .i64 (((i : Nat) : Int))) rfl rfl (y_mov rfl s289 ⟨rfl, rfl⟩) ?_
    refine wl_v (.int .i64 (((i : Nat) : Int))) rfl rfl (y_asg rfl rfl ⟨rfl, rfl⟩) ?_
    refine wl_nil fun F292 hF293 => ?_
    have s294 : F292 1 = .int .i64 (p) := (hF293 1).trans s280
    have s295 : F292 2 = .int .i64 (nearI (x)) := (hF293 2).trans s281
    have s296 : F292 3 = .int .i64 (nearI (y)) := (hF293 3).trans s282
    have s297 : F292 9 = .pointer (some ⟨p14, 0, none⟩) := (hF293 9).trans s283
    have s298 : F292 10 = .pointer (some ⟨p30, 0, none⟩) := (hF293 10).trans s284
    have s299 : F292 11 = .pointer (some ⟨p101, 0, none⟩) := (hF293 11).trans s285
    have s300 : F292 12 = .int .i64 ((sizeF f p).1) := (hF293 12).trans s286
    have s301 : F292 13 = .int .i64 ((sizeF f p).2) := (hF293 13).trans s287
    have s302 : F292 55 = undef := (hF293 55).trans s288
    have s303 : F292 28 = .int .i64 (((i : Nat) : Int)) := (hF293 28).trans s289
    have s304 : F292 14 = .int .i64 (((i : Nat) : Int)) := (hF293 14).trans rfl
    clear hF293
    refine then_normal ?_
    refine wq_seq ?_
    refine wq_region ?_
    refine wl_v (.int .i64 (nearI (y))) rfl rfl (y_mov rfl s296 ⟨rfl, rfl⟩) ?_
    refine wl_v (.int .i64 (((i : Nat) : Int))) rfl rfl (y_mov rfl s304 ⟨rfl, rfl⟩) ?_
    refine wl_v (.int .i64 ((nearI (y)) + (((i : Nat) : Int)))) rfl rfl (y_add rfl rfl rfl (i64_i rfl (by omega)) ⟨rfl, rfl⟩) ?_
    refine wl_v (.int .i64 ((nearI (y)) + (((i : Nat) : Int)))) rfl rfl (y_asg rfl rfl ⟨rfl, rfl⟩) ?_
    refine wl_nil fun F305 hF306 => ?_
    have s307 : F305 1 = .int .i64 (p) := (hF306 1).trans s294
    have s308 : F305 2 = .int .i64 (nearI (x)) := (hF306 2).trans s295
    have s309 : F305 3 = .int .i64 (nearI (y)) := (hF306 3).trans s296
    have s310 : F305 9 = .pointer (some ⟨p14, 0, none⟩) := (hF306 9).trans s297
    have s311 : F305 10 = .pointer (some ⟨p30, 0, none⟩) := (hF306 10).trans s298
    have s312 : F305 11 = .pointer (some ⟨p101, 0, none⟩) := (hF306 11).trans s299
    have s313 : F305 12 = .int .i64 ((sizeF f p).1) := (hF306 12).trans s300
    have s314 : F305 13 = .int .i64 ((sizeF f p).2) := (hF306 13).trans s301
    have s315 : F305 55 = undef := (hF306 55).trans s302
    have s316 : F305 28 = .int .i64 (((i : Nat) : Int)) := (hF306 28).trans s303
    have s317 : F305 14 = .int .i64 (((i : Nat) : Int)) := (hF306 14).trans s304
    have s318 : F305 15 = .int .i64 ((nearI (y)) + (((i : Nat) : Int))) := (hF306 15).trans rfl
    clear hF306
    refine then_normal ?_
    refine wq_seq ?_
    by_cases d319 : (0) ≤ ((nearI (y)) + (((i : Nat) : Int)))
    · skip
      refine wq_region ?_
      refine wl_v (.int .i64 ((nearI (y)) + (((i : Nat) : Int)))) rfl rfl (y_mov rfl s318 ⟨rfl, rfl⟩) ?_
      refine wl_v (.bool true) rfl rfl (y_geq rfl rfl rfl (decide_eq_true d319) ⟨rfl, rfl⟩) ?_
      refine wl_v (.bool true) rfl rfl (y_mov rfl rfl ⟨rfl, rfl⟩) ?_
      refine wl_vw (.int .i64 ((nearI (y)) + (((i : Nat) : Int)))) 2 true 36 rfl rfl rfl rfl rfl (y_mov rfl s318 ⟨rfl, rfl⟩) ?_
      refine wl_vw (.int .i64 ((sizeF f p).2)) 2 true 36 rfl rfl rfl rfl rfl (y_mov rfl s314 ⟨rfl, rfl⟩) ?_
      refine wl_vw (.bool (decide (((nearI (y)) + (((i : Nat) : Int))) < ((sizeF f p).2)))) 2 true 36 rfl rfl rfl rfl rfl (y_lss rfl rfl rfl rfl ⟨rfl, rfl⟩) ?_
      refine wl_v (.bool (decide (((nearI (y)) + (((i : Nat) : Int))) < ((sizeF f p).2)))) rfl rfl (y_pickT rfl rfl rfl ⟨rfl, rfl⟩) ?_
      refine wl_nil fun F320 hF321 => ?_
      have s322 : F320 1 = .int .i64 (p) := (hF321 1).trans s307
      have s323 : F320 2 = .int .i64 (nearI (x)) := (hF321 2).trans s308
      have s324 : F320 3 = .int .i64 (nearI (y)) := (hF321 3).trans s309
      have s325 : F320 9 = .pointer (some ⟨p14, 0, none⟩) := (hF321 9).trans s310
      have s326 : F320 10 = .pointer (some ⟨p30, 0, none⟩) := (hF321 10).trans s311
      have s327 : F320 11 = .pointer (some ⟨p101, 0, none⟩) := (hF321 11).trans s312
      have s328 : F320 12 = .int .i64 ((sizeF f p).1) := (hF321 12).trans s313
      have s329 : F320 13 = .int .i64 ((sizeF f p).2) := (hF321 13).trans s314
      have s330 : F320 55 = undef := (hF321 55).trans s315
      have s331 : F320 28 = .int .i64 (((i : Nat) : Int)) := (hF321 28).trans s316
      have s332 : F320 14 = .int .i64 (((i : Nat) : Int)) := (hF321 14).trans s317
      have s333 : F320 15 = .int .i64 ((nearI (y)) + (((i : Nat) : Int))) := (hF321 15).trans s318
      have s334 : F320 40 = .bool (decide (((nearI (y)) + (((i : Nat) : Int))) < ((sizeF f p).2))) := (hF321 40).trans rfl
      clear hF321
      refine then_normal ?_
      refine wq_cond s334 (fun c335 => ?_) (fun c335 => ?_)
      · replace c335 := of_decide_eq_true c335
        rcases (show p = 0 ∨ p = 1 ∨ p = 2 from size_cases (f := f) (size_two (by omega))) with rfl | rfl | rfl
        · skip
          have hsz : (sizeF f 0).1 ≠ 0 := size_two (by omega)
          have hsp := size_pos (size_some hsz)
          have hL := @put_line f 0 x y b i (by decide) (by decide) hsz ⟨by omega, by omega⟩
          have hin2 : within (sizeF f 0).1 (sizeF f 0).2 ((sizeF f 0).1 - 1) (nearI y + (i : Int)) := ⟨by omega, by omega, by omega, by omega⟩
          have hc := within_cell hin2
          have hls := put_lens x y b (4 * i) hsz
          have hp0 : (f.pl 0).length = f.p0.length := rfl
          have hp1 : (f.pl 1).length = f.p1.length := rfl
          have hp2 : (f.pl 2).length = f.p2.length := rfl
          refine wq_tail 11 [some 41, some 42, some 43, some 44, some 45, some 46, some 47, some 48, some 49, some 50, some 51] [Pd.eq (.int .i64 (0)), Pd.eq (.pointer (some ⟨p101, 2, none⟩)), Pd.eq (.pointer (some ⟨p101, 2, none⟩)), Pd.eq (v56), Pd.eq (.int .i64 ((sizeF f 0).1)), Pd.eq (.int .i64 ((nearI (y)) + (((i : Nat) : Int)))), Pd.eq (subV (v56) ((((nearI (y)) + (((i : Nat) : Int))) * ((sizeF f 0).1)).toNat) ((((nearI (y)) + (((i : Nat) : Int))) * ((sizeF f 0).1) + ((sizeF f 0).1)).toNat) ((((nearI (y)) + (((i : Nat) : Int))) * ((sizeF f 0).1) + ((sizeF f 0).1)).toNat)), Pd.eq (.int .i64 (nearI (x))), Pd.eq (blkV (b)), Pd.eq (.int .i64 (((i : Nat) : Int))), Pd.eq (.agg #[.int .u8 (((byteI ((b) ((i) * 4)) : Nat) : Int)), .int .u8 (((byteI ((b) ((i) * 4 + 1)) : Nat) : Int)), .int .u8 (((byteI ((b) ((i) * 4 + 2)) : Nat) : Int)), .int .u8 (((byteI ((b) ((i) * 4 + 3)) : Nat) : Int))])] (by kernel_rfl) (by kernel_rfl) (by kernel_rfl) ?_ ?_
          · refine stepsF_cons ?_ ?_
            · refine StepF.one rfl fun F_ w_ hR hout hD => ?_
              exact (y_mov rfl ((hout 1 rfl (by decide)).trans s322) ⟨rfl, Kept.refl _ _⟩)
            refine stepsF_cons ?_ ?_
            · refine StepF.one rfl fun F_ w_ hR hout hD => ?_
              exact (y_fieldR (n := 3) rfl ((hout 11 rfl (by decide)).trans s327) Try.underlying25 rfl (by kernel_rfl) (by decide) rfl ⟨rfl, Kept.refl _ _⟩)
            refine stepsF_cons ?_ ?_
            · refine StepF.one rfl fun F_ w_ hR hout hD => ?_
              have g42 : F_ 42 = .pointer (some ⟨p101, 2, none⟩) := hD.get 0 rfl rfl rfl
              have g41 : F_ 41 = .int .i64 (0) := hD.get 1 rfl rfl rfl
              exact (y_atR (0) (s := 1) rfl g42 g41 (by omega) Try.underlying23 (by omega) (by kernel_rfl) (by omega) ⟨rfl, Kept.refl _ _⟩)
            refine stepsF_cons ?_ ?_
            · refine StepF.one rfl fun F_ w_ hR hout hD => ?_
              have g43 : F_ 43 = .pointer (some ⟨p101, 2, none⟩) := hD.get 0 rfl rfl rfl
              exact (y_ld_stc rfl g43 Try.underlying22 (B250.all hR id) rfl rfl ⟨rfl, Kept.refl _ _⟩)
            refine stepsF_cons ?_ ?_
            · refine StepF.one rfl fun F_ w_ hR hout hD => ?_
              exact (y_mov rfl ((hout 12 rfl (by decide)).trans s328) ⟨rfl, Kept.refl _ _⟩)
            refine stepsF_cons ?_ ?_
            · refine StepF.one rfl fun F_ w_ hR hout hD => ?_
              exact (y_mov rfl ((hout 15 rfl (by decide)).trans s333) ⟨rfl, Kept.refl _ _⟩)
            refine stepsF_cons ?_ ?_
            · refine StepF.one rfl fun F_ w_ hR hout hD => ?_
              have g44 : F_ 44 = v56 := hD.get 0 rfl rfl rfl
              have g45 : F_ 45 = .int .i64 ((sizeF f 0).1) := hD.get 1 rfl rfl rfl
              have g46 : F_ 46 = .int .i64 ((nearI (y)) + (((i : Nat) : Int))) := hD.get 2 rfl rfl rfl
              exact (y_cs rfl rfl rfl (fun _ _ => by kernel_rfl) (ev_func _) (vsC g44 (vsC g45 (vsC g46 vsN))) (ps_row (v56) ((putTo f 0 x y b (4 * i)).p0) ((sizeF f 0).1) ((nearI (y)) + (((i : Nat) : Int))) (T223) _ (by omega) (by omega) (by omega) (by omega) ((B247.all hR Apart.none)).byt ) (fun e_ w_ h_ => ⟨_, h_.1, rfl, h_.2⟩))
            refine stepsF_cons ?_ ?_
            · refine StepF.one rfl fun F_ w_ hR hout hD => ?_
              exact (y_mov rfl ((hout 2 rfl (by decide)).trans s323) ⟨rfl, Kept.refl _ _⟩)
            refine stepsF_cons ?_ ?_
            · refine StepF.one rfl fun F_ w_ hR hout hD => ?_
              exact (y_load_blk blkT_block rfl ((hout 9 rfl (by decide)).trans s325) (B245.all hR id) ⟨rfl, Kept.refl _ _⟩)
            refine stepsF_cons ?_ ?_
            · refine StepF.one rfl fun F_ w_ hR hout hD => ?_
              exact (y_mov rfl ((hout 14 rfl (by decide)).trans s332) ⟨rfl, Kept.refl _ _⟩)
            refine stepsF_cons ?_ ?_
            · refine StepF.one rfl fun F_ w_ hR hout hD => ?_
              have g49 : F_ 49 = blkV (b) := hD.get 0 rfl rfl rfl
              have g50 : F_ 50 = .int .i64 (((i : Nat) : Int)) := hD.get 1 rfl rfl rfl
              exact (y_cs rfl rfl rfl (fun _ _ => by kernel_rfl) (ev_func _) (vsC g49 (vsC g50 vsN)) (ps_line (b) (i)  _ (by omega)  ) (fun e_ w_ h_ => ⟨_, h_.1, rfl, h_.2⟩))
            exact stepsF_nil
          intro v336 F337 w338 k339 G340 hF341
          have B343 := B241.all k339 Apart.none
          have B344 := B242.all k339 Apart.none
          have B345 := B243.all k339 Apart.none
          have B346 := B244.all k339 id
          have B347 := B245.all k339 id
          have B348 := B246.all k339 id
          have B349 := B247.all k339 Apart.none
          have B350 := B248.all k339 Apart.none
          have B351 := B249.all k339 Apart.none
          have B352 := B250.all k339 id
          have K353 := K228.trans k339 (fun _ _ x => x.elim)
          have s354 : F337 1 = .int .i64 (0) := (hF341 1).trans s322
          have s355 : F337 2 = .int .i64 (nearI (x)) := (hF341 2).trans s323
          have s356 : F337 3 = .int .i64 (nearI (y)) := (hF341 3).trans s324
          have s357 : F337 9 = .pointer (some ⟨p14, 0, none⟩) := (hF341 9).trans s325
          have s358 : F337 10 = .pointer (some ⟨p30, 0, none⟩) := (hF341 10).trans s326
          have s359 : F337 11 = .pointer (some ⟨p101, 0, none⟩) := (hF341 11).trans s327
          have s360 : F337 12 = .int .i64 ((sizeF f 0).1) := (hF341 12).trans s328
          have s361 : F337 13 = .int .i64 ((sizeF f 0).2) := (hF341 13).trans s329
          have s362 : F337 55 = undef := (hF341 55).trans s330
          have s363 : F337 28 = .int .i64 (((i : Nat) : Int)) := (hF341 28).trans s331
          have s364 : F337 47 = subV (v56) ((((nearI (y)) + (((i : Nat) : Int))) * ((sizeF f 0).1)).toNat) ((((nearI (y)) + (((i : Nat) : Int))) * ((sizeF f 0).1) + ((sizeF f 0).1)).toNat) ((((nearI (y)) + (((i : Nat) : Int))) * ((sizeF f 0).1) + ((sizeF f 0).1)).toNat) := (hF341 47).trans (G340 6 (by decide))
          have s365 : F337 48 = .int .i64 (nearI (x)) := (hF341 48).trans (G340 7 (by decide))
          have s366 : F337 51 = .agg #[.int .u8 (((byteI ((b) ((i) * 4)) : Nat) : Int)), .int .u8 (((byteI ((b) ((i) * 4 + 1)) : Nat) : Int)), .int .u8 (((byteI ((b) ((i) * 4 + 2)) : Nat) : Int)), .int .u8 (((byteI ((b) ((i) * 4 + 3)) : Nat) : Int))] := (hF341 51).trans (G340 10 (by decide))
          clear G340 hF341
          refine wl_call (R := fun v_ w_ => ∃ (T369 : Nat → Prop), .tuple #[] = v_ ∧ Kept (T223) w338 w_ ∧ (Owb w_ T369 v56 (layF ((putTo f 0 x y b (4 * i)).p0) ((((nearI (y)) + (((i : Nat) : Int))) * ((sizeF f 0).1)).toNat) ((((nearI (y)) + (((i : Nat) : Int))) * ((sizeF f 0).1) + ((sizeF f 0).1)).toNat) (nearI (x)) [(byteI ((b) ((i) * 4))), (byteI ((b) ((i) * 4 + 1))), (byteI ((b) ((i) * 4 + 2))), (byteI ((b) ((i) * 4 + 3)))]) ∧ Grew w338 (T223) T369)) rfl rfl (y_cs rfl rfl rfl (fun _ _ => by kernel_rfl) (ev_func _) (vsC s364 (vsC s365 (vsC s366 vsN))) (ps_lay (v56) ((putTo f 0 x y b (4 * i)).p0) ((((nearI (y)) + (((i : Nat) : Int))) * ((sizeF f 0).1)).toNat) ((((nearI (y)) + (((i : Nat) : Int))) * ((sizeF f 0).1) + ((sizeF f 0).1)).toNat) (nearI (x)) (byteI ((b) ((i) * 4))) (byteI ((b) ((i) * 4 + 1))) (byteI ((b) ((i) * 4 + 2))) (byteI ((b) ((i) * 4 + 3))) (T223) _ (by omega) (by omega) (by omega) (byteI_lt _) (byteI_lt _) (byteI_lt _) (byteI_lt _) B349 ) (fun e_ w_ h_ => by obtain ⟨T369_, he_, hr_⟩ := h_; exact ⟨_, he_, T369_, rfl, hr_⟩)) ?_
          rintro _ w367 ⟨T369, rfl, k368, ⟨B370, g371⟩⟩
          have B372 := B343.all k368 (fun i h x => (((ap254).symm) i h x))
          have B373 := B344.all k368 (fun i h x => (((ap255).symm) i h x))
          have B374 := B345.all k368 (fun i h x => (((ap256).symm) i h x))
          have B375 := B346.all k368 (fun x => (((ap257).symm) p1 rfl x))
          have B376 := B347.all k368 (fun x => (((ap258).symm) p14 rfl x))
          have B377 := B348.all k368 (fun x => (((ap259).symm) p30 rfl x))
          have B378 := B350.all k368 (fun i h x => (((ap260).symm) i h x))
          have B379 := B351.all k368 (fun i h x => (((ap261).symm) i h x))
          have B380 := B352.all k368 (fun x => (((ap262).symm) p101 rfl x))
          have K381 := K353.trans k368 (fun i hi x => ((Grew.ok (S := fun _ => False) gr251 noB_le) i hi x))
          have gr382 := gr251.trans K353 g371
          have ap383 : Apart T369 (T_f0) := (ap254).grew g371 (B343).live
          have ap384 : Apart T369 (T_f1) := (ap255).grew g371 (B344).live
          have ap385 : Apart T369 (T_f2) := (ap256).grew g371 (B345).live
          have ap386 : Apart T369 (onB p1) := (ap257).grew g371 (onB_live (B346).lt)
          have ap387 : Apart T369 (onB p14) := (ap258).grew g371 (onB_live (B347).lt)
          have ap388 : Apart T369 (onB p30) := (ap259).grew g371 (onB_live (B348).lt)
          have ap389 : Apart T369 (T224) := (ap260).grew g371 (B350).live
          have ap390 : Apart T369 (T225) := (ap261).grew g371 (B351).live
          have ap391 : Apart T369 (onB p101) := (ap262).grew g371 (onB_live (B352).lt)
          refine wl_nil fun F392 hF393 => ?_
          have s394 : F392 1 = .int .i64 (0) := (hF393 1).trans s354
          have s395 : F392 2 = .int .i64 (nearI (x)) := (hF393 2).trans s355
          have s396 : F392 3 = .int .i64 (nearI (y)) := (hF393 3).trans s356
          have s397 : F392 9 = .pointer (some ⟨p14, 0, none⟩) := (hF393 9).trans s357
          have s398 : F392 10 = .pointer (some ⟨p30, 0, none⟩) := (hF393 10).trans s358
          have s399 : F392 11 = .pointer (some ⟨p101, 0, none⟩) := (hF393 11).trans s359
          have s400 : F392 12 = .int .i64 ((sizeF f 0).1) := (hF393 12).trans s360
          have s401 : F392 13 = .int .i64 ((sizeF f 0).2) := (hF393 13).trans s361
          have s402 : F392 55 = undef := (hF393 55).trans s362
          have s403 : F392 28 = .int .i64 (((i : Nat) : Int)) := (hF393 28).trans s363
          clear hF393
          refine in_normal ?_
          refine then_normal ?_
          refine wq_region ?_
          refine wl_v (.int .i64 (((i + 1 : Nat) : Int))) rfl rfl (y_add rfl s403 rfl (i64_n (by omega) (by omega)) ⟨rfl, rfl⟩) ?_
          refine wl_v (.int .i64 (((i + 1 : Nat) : Int))) rfl rfl (y_mov rfl rfl ⟨rfl, rfl⟩) ?_
          refine wl_nil fun F404 hF405 => ?_
          have s406 : F404 1 = .int .i64 (0) := (hF405 1).trans s394
          have s407 : F404 2 = .int .i64 (nearI (x)) := (hF405 2).trans s395
          have s408 : F404 3 = .int .i64 (nearI (y)) := (hF405 3).trans s396
          have s409 : F404 9 = .pointer (some ⟨p14, 0, none⟩) := (hF405 9).trans s397
          have s410 : F404 10 = .pointer (some ⟨p30, 0, none⟩) := (hF405 10).trans s398
          have s411 : F404 11 = .pointer (some ⟨p101, 0, none⟩) := (hF405 11).trans s399
          have s412 : F404 12 = .int .i64 ((sizeF f 0).1) := (hF405 12).trans s400
          have s413 : F404 13 = .int .i64 ((sizeF f 0).2) := (hF405 13).trans s401
          have s414 : F404 55 = undef := (hF405 55).trans s402
          have s415 : F404 28 = .int .i64 (((i + 1 : Nat) : Int)) := (hF405 28).trans rfl
          clear hF405
          exact then_normal ⟨(4 - (i + 1)), by omega, i + 1, T369, T224, T225, by omega, rfl, s406, s407, s408, s409, s410, s411, s412, s413, s414, s415, K381, B372, B373, B374, B375, B376, B377, (by first | exact Owb.of_eq hL.1 B370 | exact Owb.of_eq (hL.2 0 (by decide) (by decide) (by decide)) B370 | exact Owb.of_eq (congrArg FD.p0 (put_skip (by omega))) B370), (by first | exact Owb.of_eq hL.1 B378 | exact Owb.of_eq (hL.2 1 (by decide) (by decide) (by decide)) B378 | exact Owb.of_eq (congrArg FD.p1 (put_skip (by omega))) B378), (by first | exact Owb.of_eq hL.1 B379 | exact Owb.of_eq (hL.2 2 (by decide) (by decide) (by decide)) B379 | exact Owb.of_eq (congrArg FD.p2 (put_skip (by omega))) B379), B380, gr382, gr252, gr253, ap383, ap384, ap385, ap386, ap387, ap388, ap389, ap390, ap391, ap263, ap264, ap265, ap266, ap267, ap268, ap269, ap270, ap271, ap272, ap273, ap274, ap275, ap276, ap277⟩
        · skip
          have hsz : (sizeF f 1).1 ≠ 0 := size_two (by omega)
          have hsp := size_pos (size_some hsz)
          have hL := @put_line f 1 x y b i (by decide) (by decide) hsz ⟨by omega, by omega⟩
          have hin2 : within (sizeF f 1).1 (sizeF f 1).2 ((sizeF f 1).1 - 1) (nearI y + (i : Int)) := ⟨by omega, by omega, by omega, by omega⟩
          have hc := within_cell hin2
          have hls := put_lens x y b (4 * i) hsz
          have hp0 : (f.pl 0).length = f.p0.length := rfl
          have hp1 : (f.pl 1).length = f.p1.length := rfl
          have hp2 : (f.pl 2).length = f.p2.length := rfl
          refine wq_tail 11 [some 41, some 42, some 43, some 44, some 45, some 46, some 47, some 48, some 49, some 50, some 51] [Pd.eq (.int .i64 (1)), Pd.eq (.pointer (some ⟨p101, 2, none⟩)), Pd.eq (.pointer (some ⟨p101, 3, none⟩)), Pd.eq (v57), Pd.eq (.int .i64 ((sizeF f 1).1)), Pd.eq (.int .i64 ((nearI (y)) + (((i : Nat) : Int)))), Pd.eq (subV (v57) ((((nearI (y)) + (((i : Nat) : Int))) * ((sizeF f 1).1)).toNat) ((((nearI (y)) + (((i : Nat) : Int))) * ((sizeF f 1).1) + ((sizeF f 1).1)).toNat) ((((nearI (y)) + (((i : Nat) : Int))) * ((sizeF f 1).1) + ((sizeF f 1).1)).toNat)), Pd.eq (.int .i64 (nearI (x))), Pd.eq (blkV (b)), Pd.eq (.int .i64 (((i : Nat) : Int))), Pd.eq (.agg #[.int .u8 (((byteI ((b) ((i) * 4)) : Nat) : Int)), .int .u8 (((byteI ((b) ((i) * 4 + 1)) : Nat) : Int)), .int .u8 (((byteI ((b) ((i) * 4 + 2)) : Nat) : Int)), .int .u8 (((byteI ((b) ((i) * 4 + 3)) : Nat) : Int))])] (by kernel_rfl) (by kernel_rfl) (by kernel_rfl) ?_ ?_
          · refine stepsF_cons ?_ ?_
            · refine StepF.one rfl fun F_ w_ hR hout hD => ?_
              exact (y_mov rfl ((hout 1 rfl (by decide)).trans s322) ⟨rfl, Kept.refl _ _⟩)
            refine stepsF_cons ?_ ?_
            · refine StepF.one rfl fun F_ w_ hR hout hD => ?_
              exact (y_fieldR (n := 3) rfl ((hout 11 rfl (by decide)).trans s327) Try.underlying25 rfl (by kernel_rfl) (by decide) rfl ⟨rfl, Kept.refl _ _⟩)
            refine stepsF_cons ?_ ?_
            · refine StepF.one rfl fun F_ w_ hR hout hD => ?_
              have g42 : F_ 42 = .pointer (some ⟨p101, 2, none⟩) := hD.get 0 rfl rfl rfl
              have g41 : F_ 41 = .int .i64 (1) := hD.get 1 rfl rfl rfl
              exact (y_atR (1) (s := 1) rfl g42 g41 (by omega) Try.underlying23 (by omega) (by kernel_rfl) (by omega) ⟨rfl, Kept.refl _ _⟩)
            refine stepsF_cons ?_ ?_
            · refine StepF.one rfl fun F_ w_ hR hout hD => ?_
              have g43 : F_ 43 = .pointer (some ⟨p101, 3, none⟩) := hD.get 0 rfl rfl rfl
              exact (y_ld_stc rfl g43 Try.underlying22 (B250.all hR id) rfl rfl ⟨rfl, Kept.refl _ _⟩)
            refine stepsF_cons ?_ ?_
            · refine StepF.one rfl fun F_ w_ hR hout hD => ?_
              exact (y_mov rfl ((hout 12 rfl (by decide)).trans s328) ⟨rfl, Kept.refl _ _⟩)
            refine stepsF_cons ?_ ?_
            · refine StepF.one rfl fun F_ w_ hR hout hD => ?_
              exact (y_mov rfl ((hout 15 rfl (by decide)).trans s333) ⟨rfl, Kept.refl _ _⟩)
            refine stepsF_cons ?_ ?_
            · refine StepF.one rfl fun F_ w_ hR hout hD => ?_
              have g44 : F_ 44 = v57 := hD.get 0 rfl rfl rfl
              have g45 : F_ 45 = .int .i64 ((sizeF f 1).1) := hD.get 1 rfl rfl rfl
              have g46 : F_ 46 = .int .i64 ((nearI (y)) + (((i : Nat) : Int))) := hD.get 2 rfl rfl rfl
              exact (y_cs rfl rfl rfl (fun _ _ => by kernel_rfl) (ev_func _) (vsC g44 (vsC g45 (vsC g46 vsN))) (ps_row (v57) ((putTo f 1 x y b (4 * i)).p1) ((sizeF f 1).1) ((nearI (y)) + (((i : Nat) : Int))) (T224) _ (by omega) (by omega) (by omega) (by omega) ((B248.all hR Apart.none)).byt ) (fun e_ w_ h_ => ⟨_, h_.1, rfl, h_.2⟩))
            refine stepsF_cons ?_ ?_
            · refine StepF.one rfl fun F_ w_ hR hout hD => ?_
              exact (y_mov rfl ((hout 2 rfl (by decide)).trans s323) ⟨rfl, Kept.refl _ _⟩)
            refine stepsF_cons ?_ ?_
            · refine StepF.one rfl fun F_ w_ hR hout hD => ?_
              exact (y_load_blk blkT_block rfl ((hout 9 rfl (by decide)).trans s325) (B245.all hR id) ⟨rfl, Kept.refl _ _⟩)
            refine stepsF_cons ?_ ?_
            · refine StepF.one rfl fun F_ w_ hR hout hD => ?_
              exact (y_mov rfl ((hout 14 rfl (by decide)).trans s332) ⟨rfl, Kept.refl _ _⟩)
            refine stepsF_cons ?_ ?_
            · refine StepF.one rfl fun F_ w_ hR hout hD => ?_
              have g49 : F_ 49 = blkV (b) := hD.get 0 rfl rfl rfl
              have g50 : F_ 50 = .int .i64 (((i : Nat) : Int)) := hD.get 1 rfl rfl rfl
              exact (y_cs rfl rfl rfl (fun _ _ => by kernel_rfl) (ev_func _) (vsC g49 (vsC g50 vsN)) (ps_line (b) (i)  _ (by omega)  ) (fun e_ w_ h_ => ⟨_, h_.1, rfl, h_.2⟩))
            exact stepsF_nil
          intro v416 F417 w418 k419 G420 hF421
          have B423 := B241.all k419 Apart.none
          have B424 := B242.all k419 Apart.none
          have B425 := B243.all k419 Apart.none
          have B426 := B244.all k419 id
          have B427 := B245.all k419 id
          have B428 := B246.all k419 id
          have B429 := B247.all k419 Apart.none
          have B430 := B248.all k419 Apart.none
          have B431 := B249.all k419 Apart.none
          have B432 := B250.all k419 id
          have K433 := K228.trans k419 (fun _ _ x => x.elim)
          have s434 : F417 1 = .int .i64 (1) := (hF421 1).trans s322
          have s435 : F417 2 = .int .i64 (nearI (x)) := (hF421 2).trans s323
          have s436 : F417 3 = .int .i64 (nearI (y)) := (hF421 3).trans s324
          have s437 : F417 9 = .pointer (some ⟨p14, 0, none⟩) := (hF421 9).trans s325
          have s438 : F417 10 = .pointer (some ⟨p30, 0, none⟩) := (hF421 10).trans s326
          have s439 : F417 11 = .pointer (some ⟨p101, 0, none⟩) := (hF421 11).trans s327
          have s440 : F417 12 = .int .i64 ((sizeF f 1).1) := (hF421 12).trans s328
          have s441 : F417 13 = .int .i64 ((sizeF f 1).2) := (hF421 13).trans s329
          have s442 : F417 55 = undef := (hF421 55).trans s330
          have s443 : F417 28 = .int .i64 (((i : Nat) : Int)) := (hF421 28).trans s331
          have s444 : F417 47 = subV (v57) ((((nearI (y)) + (((i : Nat) : Int))) * ((sizeF f 1).1)).toNat) ((((nearI (y)) + (((i : Nat) : Int))) * ((sizeF f 1).1) + ((sizeF f 1).1)).toNat) ((((nearI (y)) + (((i : Nat) : Int))) * ((sizeF f 1).1) + ((sizeF f 1).1)).toNat) := (hF421 47).trans (G420 6 (by decide))
          have s445 : F417 48 = .int .i64 (nearI (x)) := (hF421 48).trans (G420 7 (by decide))
          have s446 : F417 51 = .agg #[.int .u8 (((byteI ((b) ((i) * 4)) : Nat) : Int)), .int .u8 (((byteI ((b) ((i) * 4 + 1)) : Nat) : Int)), .int .u8 (((byteI ((b) ((i) * 4 + 2)) : Nat) : Int)), .int .u8 (((byteI ((b) ((i) * 4 + 3)) : Nat) : Int))] := (hF421 51).trans (G420 10 (by decide))
          clear G420 hF421
          refine wl_call (R := fun v_ w_ => ∃ (T449 : Nat → Prop), .tuple #[] = v_ ∧ Kept (T224) w418 w_ ∧ (Owb w_ T449 v57 (layF ((putTo f 1 x y b (4 * i)).p1) ((((nearI (y)) + (((i : Nat) : Int))) * ((sizeF f 1).1)).toNat) ((((nearI (y)) + (((i : Nat) : Int))) * ((sizeF f 1).1) + ((sizeF f 1).1)).toNat) (nearI (x)) [(byteI ((b) ((i) * 4))), (byteI ((b) ((i) * 4 + 1))), (byteI ((b) ((i) * 4 + 2))), (byteI ((b) ((i) * 4 + 3)))]) ∧ Grew w418 (T224) T449)) rfl rfl (y_cs rfl rfl rfl (fun _ _ => by kernel_rfl) (ev_func _) (vsC s444 (vsC s445 (vsC s446 vsN))) (ps_lay (v57) ((putTo f 1 x y b (4 * i)).p1) ((((nearI (y)) + (((i : Nat) : Int))) * ((sizeF f 1).1)).toNat) ((((nearI (y)) + (((i : Nat) : Int))) * ((sizeF f 1).1) + ((sizeF f 1).1)).toNat) (nearI (x)) (byteI ((b) ((i) * 4))) (byteI ((b) ((i) * 4 + 1))) (byteI ((b) ((i) * 4 + 2))) (byteI ((b) ((i) * 4 + 3))) (T224) _ (by omega) (by omega) (by omega) (byteI_lt _) (byteI_lt _) (byteI_lt _) (byteI_lt _) B430 ) (fun e_ w_ h_ => by obtain ⟨T449_, he_, hr_⟩ := h_; exact ⟨_, he_, T449_, rfl, hr_⟩)) ?_
          rintro _ w447 ⟨T449, rfl, k448, ⟨B450, g451⟩⟩
          have B452 := B423.all k448 (fun i h x => (((ap263).symm) i h x))
          have B453 := B424.all k448 (fun i h x => (((ap264).symm) i h x))
          have B454 := B425.all k448 (fun i h x => (((ap265).symm) i h x))
          have B455 := B426.all k448 (fun x => (((ap266).symm) p1 rfl x))
          have B456 := B427.all k448 (fun x => (((ap267).symm) p14 rfl x))
          have B457 := B428.all k448 (fun x => (((ap268).symm) p30 rfl x))
          have B458 := B429.all k448 (fun i h x => ((ap260) i h x))
          have B459 := B431.all k448 (fun i h x => (((ap269).symm) i h x))
          have B460 := B432.all k448 (fun x => (((ap270).symm) p101 rfl x))
          have K461 := K433.trans k448 (fun i hi x => ((Grew.ok (S := fun _ => False) gr252 noB_le) i hi x))
          have gr462 := gr252.trans K433 g451
          have ap463 : Apart T449 (T_f0) := (ap263).grew g451 (B423).live
          have ap464 : Apart T449 (T_f1) := (ap264).grew g451 (B424).live
          have ap465 : Apart T449 (T_f2) := (ap265).grew g451 (B425).live
          have ap466 : Apart T449 (onB p1) := (ap266).grew g451 (onB_live (B426).lt)
          have ap467 : Apart T449 (onB p14) := (ap267).grew g451 (onB_live (B427).lt)
          have ap468 : Apart T449 (onB p30) := (ap268).grew g451 (onB_live (B428).lt)
          have ap469 : Apart T449 (T223) := ((ap260).symm).grew g451 (B429).live
          have ap470 : Apart T449 (T225) := (ap269).grew g451 (B431).live
          have ap471 : Apart T449 (onB p101) := (ap270).grew g451 (onB_live (B432).lt)
          refine wl_nil fun F472 hF473 => ?_
          have s474 : F472 1 = .int .i64 (1) := (hF473 1).trans s434
          have s475 : F472 2 = .int .i64 (nearI (x)) := (hF473 2).trans s435
          have s476 : F472 3 = .int .i64 (nearI (y)) := (hF473 3).trans s436
          have s477 : F472 9 = .pointer (some ⟨p14, 0, none⟩) := (hF473 9).trans s437
          have s478 : F472 10 = .pointer (some ⟨p30, 0, none⟩) := (hF473 10).trans s438
          have s479 : F472 11 = .pointer (some ⟨p101, 0, none⟩) := (hF473 11).trans s439
          have s480 : F472 12 = .int .i64 ((sizeF f 1).1) := (hF473 12).trans s440
          have s481 : F472 13 = .int .i64 ((sizeF f 1).2) := (hF473 13).trans s441
          have s482 : F472 55 = undef := (hF473 55).trans s442
          have s483 : F472 28 = .int .i64 (((i : Nat) : Int)) := (hF473 28).trans s443
          clear hF473
          refine in_normal ?_
          refine then_normal ?_
          refine wq_region ?_
          refine wl_v (.int .i64 (((i + 1 : Nat) : Int))) rfl rfl (y_add rfl s483 rfl (i64_n (by omega) (by omega)) ⟨rfl, rfl⟩) ?_
          refine wl_v (.int .i64 (((i + 1 : Nat) : Int))) rfl rfl (y_mov rfl rfl ⟨rfl, rfl⟩) ?_
          refine wl_nil fun F484 hF485 => ?_
          have s486 : F484 1 = .int .i64 (1) := (hF485 1).trans s474
          have s487 : F484 2 = .int .i64 (nearI (x)) := (hF485 2).trans s475
          have s488 : F484 3 = .int .i64 (nearI (y)) := (hF485 3).trans s476
          have s489 : F484 9 = .pointer (some ⟨p14, 0, none⟩) := (hF485 9).trans s477
          have s490 : F484 10 = .pointer (some ⟨p30, 0, none⟩) := (hF485 10).trans s478
          have s491 : F484 11 = .pointer (some ⟨p101, 0, none⟩) := (hF485 11).trans s479
          have s492 : F484 12 = .int .i64 ((sizeF f 1).1) := (hF485 12).trans s480
          have s493 : F484 13 = .int .i64 ((sizeF f 1).2) := (hF485 13).trans s481
          have s494 : F484 55 = undef := (hF485 55).trans s482
          have s495 : F484 28 = .int .i64 (((i + 1 : Nat) : Int)) := (hF485 28).trans rfl
          clear hF485
          exact then_normal ⟨(4 - (i + 1)), by omega, i + 1, T223, T449, T225, by omega, rfl, s486, s487, s488, s489, s490, s491, s492, s493, s494, s495, K461, B452, B453, B454, B455, B456, B457, (by first | exact Owb.of_eq hL.1 B458 | exact Owb.of_eq (hL.2 0 (by decide) (by decide) (by decide)) B458 | exact Owb.of_eq (congrArg FD.p0 (put_skip (by omega))) B458), (by first | exact Owb.of_eq hL.1 B450 | exact Owb.of_eq (hL.2 1 (by decide) (by decide) (by decide)) B450 | exact Owb.of_eq (congrArg FD.p1 (put_skip (by omega))) B450), (by first | exact Owb.of_eq hL.1 B459 | exact Owb.of_eq (hL.2 2 (by decide) (by decide) (by decide)) B459 | exact Owb.of_eq (congrArg FD.p2 (put_skip (by omega))) B459), B460, gr251, gr462, gr253, ap254, ap255, ap256, ap257, ap258, ap259, (ap469).symm, ap261, ap262, ap463, ap464, ap465, ap466, ap467, ap468, ap470, ap471, ap271, ap272, ap273, ap274, ap275, ap276, ap277⟩
        · skip
          have hsz : (sizeF f 2).1 ≠ 0 := size_two (by omega)
          have hsp := size_pos (size_some hsz)
          have hL := @put_line f 2 x y b i (by decide) (by decide) hsz ⟨by omega, by omega⟩
          have hin2 : within (sizeF f 2).1 (sizeF f 2).2 ((sizeF f 2).1 - 1) (nearI y + (i : Int)) := ⟨by omega, by omega, by omega, by omega⟩
          have hc := within_cell hin2
          have hls := put_lens x y b (4 * i) hsz
          have hp0 : (f.pl 0).length = f.p0.length := rfl
          have hp1 : (f.pl 1).length = f.p1.length := rfl
          have hp2 : (f.pl 2).length = f.p2.length := rfl
          refine wq_tail 11 [some 41, some 42, some 43, some 44, some 45, some 46, some 47, some 48, some 49, some 50, some 51] [Pd.eq (.int .i64 (2)), Pd.eq (.pointer (some ⟨p101, 2, none⟩)), Pd.eq (.pointer (some ⟨p101, 4, none⟩)), Pd.eq (v58), Pd.eq (.int .i64 ((sizeF f 2).1)), Pd.eq (.int .i64 ((nearI (y)) + (((i : Nat) : Int)))), Pd.eq (subV (v58) ((((nearI (y)) + (((i : Nat) : Int))) * ((sizeF f 2).1)).toNat) ((((nearI (y)) + (((i : Nat) : Int))) * ((sizeF f 2).1) + ((sizeF f 2).1)).toNat) ((((nearI (y)) + (((i : Nat) : Int))) * ((sizeF f 2).1) + ((sizeF f 2).1)).toNat)), Pd.eq (.int .i64 (nearI (x))), Pd.eq (blkV (b)), Pd.eq (.int .i64 (((i : Nat) : Int))), Pd.eq (.agg #[.int .u8 (((byteI ((b) ((i) * 4)) : Nat) : Int)), .int .u8 (((byteI ((b) ((i) * 4 + 1)) : Nat) : Int)), .int .u8 (((byteI ((b) ((i) * 4 + 2)) : Nat) : Int)), .int .u8 (((byteI ((b) ((i) * 4 + 3)) : Nat) : Int))])] (by kernel_rfl) (by kernel_rfl) (by kernel_rfl) ?_ ?_
          · refine stepsF_cons ?_ ?_
            · refine StepF.one rfl fun F_ w_ hR hout hD => ?_
              exact (y_mov rfl ((hout 1 rfl (by decide)).trans s322) ⟨rfl, Kept.refl _ _⟩)
            refine stepsF_cons ?_ ?_
            · refine StepF.one rfl fun F_ w_ hR hout hD => ?_
              exact (y_fieldR (n := 3) rfl ((hout 11 rfl (by decide)).trans s327) Try.underlying25 rfl (by kernel_rfl) (by decide) rfl ⟨rfl, Kept.refl _ _⟩)
            refine stepsF_cons ?_ ?_
            · refine StepF.one rfl fun F_ w_ hR hout hD => ?_
              have g42 : F_ 42 = .pointer (some ⟨p101, 2, none⟩) := hD.get 0 rfl rfl rfl
              have g41 : F_ 41 = .int .i64 (2) := hD.get 1 rfl rfl rfl
              exact (y_atR (2) (s := 1) rfl g42 g41 (by omega) Try.underlying23 (by omega) (by kernel_rfl) (by omega) ⟨rfl, Kept.refl _ _⟩)
            refine stepsF_cons ?_ ?_
            · refine StepF.one rfl fun F_ w_ hR hout hD => ?_
              have g43 : F_ 43 = .pointer (some ⟨p101, 4, none⟩) := hD.get 0 rfl rfl rfl
              exact (y_ld_stc rfl g43 Try.underlying22 (B250.all hR id) rfl rfl ⟨rfl, Kept.refl _ _⟩)
            refine stepsF_cons ?_ ?_
            · refine StepF.one rfl fun F_ w_ hR hout hD => ?_
              exact (y_mov rfl ((hout 12 rfl (by decide)).trans s328) ⟨rfl, Kept.refl _ _⟩)
            refine stepsF_cons ?_ ?_
            · refine StepF.one rfl fun F_ w_ hR hout hD => ?_
              exact (y_mov rfl ((hout 15 rfl (by decide)).trans s333) ⟨rfl, Kept.refl _ _⟩)
            refine stepsF_cons ?_ ?_
            · refine StepF.one rfl fun F_ w_ hR hout hD => ?_
              have g44 : F_ 44 = v58 := hD.get 0 rfl rfl rfl
              have g45 : F_ 45 = .int .i64 ((sizeF f 2).1) := hD.get 1 rfl rfl rfl
              have g46 : F_ 46 = .int .i64 ((nearI (y)) + (((i : Nat) : Int))) := hD.get 2 rfl rfl rfl
              exact (y_cs rfl rfl rfl (fun _ _ => by kernel_rfl) (ev_func _) (vsC g44 (vsC g45 (vsC g46 vsN))) (ps_row (v58) ((putTo f 2 x y b (4 * i)).p2) ((sizeF f 2).1) ((nearI (y)) + (((i : Nat) : Int))) (T225) _ (by omega) (by omega) (by omega) (by omega) ((B249.all hR Apart.none)).byt ) (fun e_ w_ h_ => ⟨_, h_.1, rfl, h_.2⟩))
            refine stepsF_cons ?_ ?_
            · refine StepF.one rfl fun F_ w_ hR hout hD => ?_
              exact (y_mov rfl ((hout 2 rfl (by decide)).trans s323) ⟨rfl, Kept.refl _ _⟩)
            refine stepsF_cons ?_ ?_
            · refine StepF.one rfl fun F_ w_ hR hout hD => ?_
              exact (y_load_blk blkT_block rfl ((hout 9 rfl (by decide)).trans s325) (B245.all hR id) ⟨rfl, Kept.refl _ _⟩)
            refine stepsF_cons ?_ ?_
            · refine StepF.one rfl fun F_ w_ hR hout hD => ?_
              exact (y_mov rfl ((hout 14 rfl (by decide)).trans s332) ⟨rfl, Kept.refl _ _⟩)
            refine stepsF_cons ?_ ?_
            · refine StepF.one rfl fun F_ w_ hR hout hD => ?_
              have g49 : F_ 49 = blkV (b) := hD.get 0 rfl rfl rfl
              have g50 : F_ 50 = .int .i64 (((i : Nat) : Int)) := hD.get 1 rfl rfl rfl
              exact (y_cs rfl rfl rfl (fun _ _ => by kernel_rfl) (ev_func _) (vsC g49 (vsC g50 vsN)) (ps_line (b) (i)  _ (by omega)  ) (fun e_ w_ h_ => ⟨_, h_.1, rfl, h_.2⟩))
            exact stepsF_nil
          intro v496 F497 w498 k499 G500 hF501
          have B503 := B241.all k499 Apart.none
          have B504 := B242.all k499 Apart.none
          have B505 := B243.all k499 Apart.none
          have B506 := B244.all k499 id
          have B507 := B245.all k499 id
          have B508 := B246.all k499 id
          have B509 := B247.all k499 Apart.none
          have B510 := B248.all k499 Apart.none
          have B511 := B249.all k499 Apart.none
          have B512 := B250.all k499 id
          have K513 := K228.trans k499 (fun _ _ x => x.elim)
          have s514 : F497 1 = .int .i64 (2) := (hF501 1).trans s322
          have s515 : F497 2 = .int .i64 (nearI (x)) := (hF501 2).trans s323
          have s516 : F497 3 = .int .i64 (nearI (y)) := (hF501 3).trans s324
          have s517 : F497 9 = .pointer (some ⟨p14, 0, none⟩) := (hF501 9).trans s325
          have s518 : F497 10 = .pointer (some ⟨p30, 0, none⟩) := (hF501 10).trans s326
          have s519 : F497 11 = .pointer (some ⟨p101, 0, none⟩) := (hF501 11).trans s327
          have s520 : F497 12 = .int .i64 ((sizeF f 2).1) := (hF501 12).trans s328
          have s521 : F497 13 = .int .i64 ((sizeF f 2).2) := (hF501 13).trans s329
          have s522 : F497 55 = undef := (hF501 55).trans s330
          have s523 : F497 28 = .int .i64 (((i : Nat) : Int)) := (hF501 28).trans s331
          have s524 : F497 47 = subV (v58) ((((nearI (y)) + (((i : Nat) : Int))) * ((sizeF f 2).1)).toNat) ((((nearI (y)) + (((i : Nat) : Int))) * ((sizeF f 2).1) + ((sizeF f 2).1)).toNat) ((((nearI (y)) + (((i : Nat) : Int))) * ((sizeF f 2).1) + ((sizeF f 2).1)).toNat) := (hF501 47).trans (G500 6 (by decide))
          have s525 : F497 48 = .int .i64 (nearI (x)) := (hF501 48).trans (G500 7 (by decide))
          have s526 : F497 51 = .agg #[.int .u8 (((byteI ((b) ((i) * 4)) : Nat) : Int)), .int .u8 (((byteI ((b) ((i) * 4 + 1)) : Nat) : Int)), .int .u8 (((byteI ((b) ((i) * 4 + 2)) : Nat) : Int)), .int .u8 (((byteI ((b) ((i) * 4 + 3)) : Nat) : Int))] := (hF501 51).trans (G500 10 (by decide))
          clear G500 hF501
          refine wl_call (R := fun v_ w_ => ∃ (T529 : Nat → Prop), .tuple #[] = v_ ∧ Kept (T225) w498 w_ ∧ (Owb w_ T529 v58 (layF ((putTo f 2 x y b (4 * i)).p2) ((((nearI (y)) + (((i : Nat) : Int))) * ((sizeF f 2).1)).toNat) ((((nearI (y)) + (((i : Nat) : Int))) * ((sizeF f 2).1) + ((sizeF f 2).1)).toNat) (nearI (x)) [(byteI ((b) ((i) * 4))), (byteI ((b) ((i) * 4 + 1))), (byteI ((b) ((i) * 4 + 2))), (byteI ((b) ((i) * 4 + 3)))]) ∧ Grew w498 (T225) T529)) rfl rfl (y_cs rfl rfl rfl (fun _ _ => by kernel_rfl) (ev_func _) (vsC s524 (vsC s525 (vsC s526 vsN))) (ps_lay (v58) ((putTo f 2 x y b (4 * i)).p2) ((((nearI (y)) + (((i : Nat) : Int))) * ((sizeF f 2).1)).toNat) ((((nearI (y)) + (((i : Nat) : Int))) * ((sizeF f 2).1) + ((sizeF f 2).1)).toNat) (nearI (x)) (byteI ((b) ((i) * 4))) (byteI ((b) ((i) * 4 + 1))) (byteI ((b) ((i) * 4 + 2))) (byteI ((b) ((i) * 4 + 3))) (T225) _ (by omega) (by omega) (by omega) (byteI_lt _) (byteI_lt _) (byteI_lt _) (byteI_lt _) B511 ) (fun e_ w_ h_ => by obtain ⟨T529_, he_, hr_⟩ := h_; exact ⟨_, he_, T529_, rfl, hr_⟩)) ?_
          rintro _ w527 ⟨T529, rfl, k528, ⟨B530, g531⟩⟩
          have B532 := B503.all k528 (fun i h x => (((ap271).symm) i h x))
          have B533 := B504.all k528 (fun i h x => (((ap272).symm) i h x))
          have B534 := B505.all k528 (fun i h x => (((ap273).symm) i h x))
          have B535 := B506.all k528 (fun x => (((ap274).symm) p1 rfl x))
          have B536 := B507.all k528 (fun x => (((ap275).symm) p14 rfl x))
          have B537 := B508.all k528 (fun x => (((ap276).symm) p30 rfl x))
          have B538 := B509.all k528 (fun i h x => ((ap261) i h x))
          have B539 := B510.all k528 (fun i h x => ((ap269) i h x))
          have B540 := B512.all k528 (fun x => (((ap277).symm) p101 rfl x))
          have K541 := K513.trans k528 (fun i hi x => ((Grew.ok (S := fun _ => False) gr253 noB_le) i hi x))
          have gr542 := gr253.trans K513 g531
          have ap543 : Apart T529 (T_f0) := (ap271).grew g531 (B503).live
          have ap544 : Apart T529 (T_f1) := (ap272).grew g531 (B504).live
          have ap545 : Apart T529 (T_f2) := (ap273).grew g531 (B505).live
          have ap546 : Apart T529 (onB p1) := (ap274).grew g531 (onB_live (B506).lt)
          have ap547 : Apart T529 (onB p14) := (ap275).grew g531 (onB_live (B507).lt)
          have ap548 : Apart T529 (onB p30) := (ap276).grew g531 (onB_live (B508).lt)
          have ap549 : Apart T529 (T223) := ((ap261).symm).grew g531 (B509).live
          have ap550 : Apart T529 (T224) := ((ap269).symm).grew g531 (B510).live
          have ap551 : Apart T529 (onB p101) := (ap277).grew g531 (onB_live (B512).lt)
          refine wl_nil fun F552 hF553 => ?_
          have s554 : F552 1 = .int .i64 (2) := (hF553 1).trans s514
          have s555 : F552 2 = .int .i64 (nearI (x)) := (hF553 2).trans s515
          have s556 : F552 3 = .int .i64 (nearI (y)) := (hF553 3).trans s516
          have s557 : F552 9 = .pointer (some ⟨p14, 0, none⟩) := (hF553 9).trans s517
          have s558 : F552 10 = .pointer (some ⟨p30, 0, none⟩) := (hF553 10).trans s518
          have s559 : F552 11 = .pointer (some ⟨p101, 0, none⟩) := (hF553 11).trans s519
          have s560 : F552 12 = .int .i64 ((sizeF f 2).1) := (hF553 12).trans s520
          have s561 : F552 13 = .int .i64 ((sizeF f 2).2) := (hF553 13).trans s521
          have s562 : F552 55 = undef := (hF553 55).trans s522
          have s563 : F552 28 = .int .i64 (((i : Nat) : Int)) := (hF553 28).trans s523
          clear hF553
          refine in_normal ?_
          refine then_normal ?_
          refine wq_region ?_
          refine wl_v (.int .i64 (((i + 1 : Nat) : Int))) rfl rfl (y_add rfl s563 rfl (i64_n (by omega) (by omega)) ⟨rfl, rfl⟩) ?_
          refine wl_v (.int .i64 (((i + 1 : Nat) : Int))) rfl rfl (y_mov rfl rfl ⟨rfl, rfl⟩) ?_
          refine wl_nil fun F564 hF565 => ?_
          have s566 : F564 1 = .int .i64 (2) := (hF565 1).trans s554
          have s567 : F564 2 = .int .i64 (nearI (x)) := (hF565 2).trans s555
          have s568 : F564 3 = .int .i64 (nearI (y)) := (hF565 3).trans s556
          have s569 : F564 9 = .pointer (some ⟨p14, 0, none⟩) := (hF565 9).trans s557
          have s570 : F564 10 = .pointer (some ⟨p30, 0, none⟩) := (hF565 10).trans s558
          have s571 : F564 11 = .pointer (some ⟨p101, 0, none⟩) := (hF565 11).trans s559
          have s572 : F564 12 = .int .i64 ((sizeF f 2).1) := (hF565 12).trans s560
          have s573 : F564 13 = .int .i64 ((sizeF f 2).2) := (hF565 13).trans s561
          have s574 : F564 55 = undef := (hF565 55).trans s562
          have s575 : F564 28 = .int .i64 (((i + 1 : Nat) : Int)) := (hF565 28).trans rfl
          clear hF565
          exact then_normal ⟨(4 - (i + 1)), by omega, i + 1, T223, T224, T529, by omega, rfl, s566, s567, s568, s569, s570, s571, s572, s573, s574, s575, K541, B532, B533, B534, B535, B536, B537, (by first | exact Owb.of_eq hL.1 B538 | exact Owb.of_eq (hL.2 0 (by decide) (by decide) (by decide)) B538 | exact Owb.of_eq (congrArg FD.p0 (put_skip (by omega))) B538), (by first | exact Owb.of_eq hL.1 B539 | exact Owb.of_eq (hL.2 1 (by decide) (by decide) (by decide)) B539 | exact Owb.of_eq (congrArg FD.p1 (put_skip (by omega))) B539), (by first | exact Owb.of_eq hL.1 B530 | exact Owb.of_eq (hL.2 2 (by decide) (by decide) (by decide)) B530 | exact Owb.of_eq (congrArg FD.p2 (put_skip (by omega))) B530), B540, gr251, gr252, gr542, ap254, ap255, ap256, ap257, ap258, ap259, ap260, (ap549).symm, ap262, ap263, ap264, ap265, ap266, ap267, ap268, (ap550).symm, ap270, ap543, ap544, ap545, ap546, ap547, ap548, ap551⟩
      · replace c335 := of_decide_eq_false c335
        refine wq_skip ?_
        refine in_normal ?_
        refine then_normal ?_
        refine wq_region ?_
        refine wl_v (.int .i64 (((i + 1 : Nat) : Int))) rfl rfl (y_add rfl s331 rfl (i64_n (by omega) (by omega)) ⟨rfl, rfl⟩) ?_
        refine wl_v (.int .i64 (((i + 1 : Nat) : Int))) rfl rfl (y_mov rfl rfl ⟨rfl, rfl⟩) ?_
        refine wl_nil fun F576 hF577 => ?_
        have s578 : F576 1 = .int .i64 (p) := (hF577 1).trans s322
        have s579 : F576 2 = .int .i64 (nearI (x)) := (hF577 2).trans s323
        have s580 : F576 3 = .int .i64 (nearI (y)) := (hF577 3).trans s324
        have s581 : F576 9 = .pointer (some ⟨p14, 0, none⟩) := (hF577 9).trans s325
        have s582 : F576 10 = .pointer (some ⟨p30, 0, none⟩) := (hF577 10).trans s326
        have s583 : F576 11 = .pointer (some ⟨p101, 0, none⟩) := (hF577 11).trans s327
        have s584 : F576 12 = .int .i64 ((sizeF f p).1) := (hF577 12).trans s328
        have s585 : F576 13 = .int .i64 ((sizeF f p).2) := (hF577 13).trans s329
        have s586 : F576 55 = undef := (hF577 55).trans s330
        have s587 : F576 28 = .int .i64 (((i + 1 : Nat) : Int)) := (hF577 28).trans rfl
        clear hF577
        exact then_normal ⟨(4 - (i + 1)), by omega, i + 1, T223, T224, T225, by omega, rfl, s578, s579, s580, s581, s582, s583, s584, s585, s586, s587, K228, B241, B242, B243, B244, B245, B246, (by first | exact Owb.of_eq hL.1 B247 | exact Owb.of_eq (hL.2 0 (by decide) (by decide) (by decide)) B247 | exact Owb.of_eq (congrArg FD.p0 (put_skip (by omega))) B247), (by first | exact Owb.of_eq hL.1 B248 | exact Owb.of_eq (hL.2 1 (by decide) (by decide) (by decide)) B248 | exact Owb.of_eq (congrArg FD.p1 (put_skip (by omega))) B248), (by first | exact Owb.of_eq hL.1 B249 | exact Owb.of_eq (hL.2 2 (by decide) (by decide) (by decide)) B249 | exact Owb.of_eq (congrArg FD.p2 (put_skip (by omega))) B249), B250, gr251, gr252, gr253, ap254, ap255, ap256, ap257, ap258, ap259, ap260, ap261, ap262, ap263, ap264, ap265, ap266, ap267, ap268, ap269, ap270, ap271, ap272, ap273, ap274, ap275, ap276, ap277⟩
    · skip
      refine wq_region ?_
      refine wl_v (.int .i64 ((nearI (y)) + (((i : Nat) : Int)))) rfl rfl (y_mov rfl s318 ⟨rfl, rfl⟩) ?_
      refine wl_v (.bool false) rfl rfl (y_geq rfl rfl rfl (decide_eq_false d319) ⟨rfl, rfl⟩) ?_
      refine wl_v (.bool false) rfl rfl (y_mov rfl rfl ⟨rfl, rfl⟩) ?_
      refine wl_unless 2 true 36 rfl rfl rfl (Or.inl rfl) rfl ?_
      refine wl_unless 2 true 36 rfl rfl rfl (Or.inl rfl) rfl ?_
      refine wl_unless 2 true 36 rfl rfl rfl (Or.inl rfl) rfl ?_
      refine wl_v (.bool false) rfl rfl (y_pickF rfl rfl rfl ⟨rfl, rfl⟩) ?_
      refine wl_nil fun F588 hF589 => ?_
      have s590 : F588 1 = .int .i64 (p) := (hF589 1).trans s307
      have s591 : F588 2 = .int .i64 (nearI (x)) := (hF589 2).trans s308
      have s592 : F588 3 = .int .i64 (nearI (y)) := (hF589 3).trans s309
      have s593 : F588 9 = .pointer (some ⟨p14, 0, none⟩) := (hF589 9).trans s310
      have s594 : F588 10 = .pointer (some ⟨p30, 0, none⟩) := (hF589 10).trans s311
      have s595 : F588 11 = .pointer (some ⟨p101, 0, none⟩) := (hF589 11).trans s312
      have s596 : F588 12 = .int .i64 ((sizeF f p).1) := (hF589 12).trans s313
      have s597 : F588 13 = .int .i64 ((sizeF f p).2) := (hF589 13).trans s314
      have s598 : F588 55 = undef := (hF589 55).trans s315
      have s599 : F588 28 = .int .i64 (((i : Nat) : Int)) := (hF589 28).trans s316
      have s600 : F588 14 = .int .i64 (((i : Nat) : Int)) := (hF589 14).trans s317
      have s601 : F588 15 = .int .i64 ((nearI (y)) + (((i : Nat) : Int))) := (hF589 15).trans s318
      have s602 : F588 40 = .bool false := (hF589 40).trans rfl
      clear hF589
      refine then_normal ?_
      refine wq_cond (t := false) s602 (fun e => by cases e) (fun _ => ?_)
      refine wq_skip ?_
      refine in_normal ?_
      refine then_normal ?_
      refine wq_region ?_
      refine wl_v (.int .i64 (((i + 1 : Nat) : Int))) rfl rfl (y_add rfl s599 rfl (i64_n (by omega) (by omega)) ⟨rfl, rfl⟩) ?_
      refine wl_v (.int .i64 (((i + 1 : Nat) : Int))) rfl rfl (y_mov rfl rfl ⟨rfl, rfl⟩) ?_
      refine wl_nil fun F603 hF604 => ?_
      have s605 : F603 1 = .int .i64 (p) := (hF604 1).trans s590
      have s606 : F603 2 = .int .i64 (nearI (x)) := (hF604 2).trans s591
      have s607 : F603 3 = .int .i64 (nearI (y)) := (hF604 3).trans s592
      have s608 : F603 9 = .pointer (some ⟨p14, 0, none⟩) := (hF604 9).trans s593
      have s609 : F603 10 = .pointer (some ⟨p30, 0, none⟩) := (hF604 10).trans s594
      have s610 : F603 11 = .pointer (some ⟨p101, 0, none⟩) := (hF604 11).trans s595
      have s611 : F603 12 = .int .i64 ((sizeF f p).1) := (hF604 12).trans s596
      have s612 : F603 13 = .int .i64 ((sizeF f p).2) := (hF604 13).trans s597
      have s613 : F603 55 = undef := (hF604 55).trans s598
      have s614 : F603 28 = .int .i64 (((i + 1 : Nat) : Int)) := (hF604 28).trans rfl
      clear hF604
      exact then_normal ⟨(4 - (i + 1)), by omega, i + 1, T223, T224, T225, by omega, rfl, s605, s606, s607, s608, s609, s610, s611, s612, s613, s614, K228, B241, B242, B243, B244, B245, B246, (by first | exact Owb.of_eq hL.1 B247 | exact Owb.of_eq (hL.2 0 (by decide) (by decide) (by decide)) B247 | exact Owb.of_eq (congrArg FD.p0 (put_skip (by omega))) B247), (by first | exact Owb.of_eq hL.1 B248 | exact Owb.of_eq (hL.2 1 (by decide) (by decide) (by decide)) B248 | exact Owb.of_eq (congrArg FD.p1 (put_skip (by omega))) B248), (by first | exact Owb.of_eq hL.1 B249 | exact Owb.of_eq (hL.2 2 (by decide) (by decide) (by decide)) B249 | exact Owb.of_eq (congrArg FD.p2 (put_skip (by omega))) B249), B250, gr251, gr252, gr253, ap254, ap255, ap256, ap257, ap258, ap259, ap260, ap261, ap262, ap263, ap264, ap265, ap266, ap267, ap268, ap269, ap270, ap271, ap272, ap273, ap274, ap275, ap276, ap277⟩
  · replace c291 := of_decide_eq_false c291
    refine wq_exit ?_
    refine then_exit ?_
    refine then_exit ?_
    have l615 : 4 = i := by omega
    subst l615
    refine in_here ?_
    refine then_normal ?_
    refine wq_seq ?_
    refine wq_region ?_
    refine wl_v (.agg #[.int .i64 ((copyF (f)).W), .int .i64 ((copyF (f)).H), v56, v57, v58]) rfl rfl (y_load_stc stcT_frame rfl s285 B250 ⟨rfl, rfl⟩) ?_
    refine wl_store_stc (us := [.int .i64 ((copyF (f)).W), .int .i64 ((copyF (f)).H), v56, v57, v58]) stcT_frame rfl rfl rfl s284 rfl B246 rfl (oneI rfl (oneI rfl (oneI (B247).one (oneI (B248).one (oneI (B249).one oneN))))) fun w616 B617 k618 => ?_
    have B619 := B241.all k618 (fun i h x => (((ap36).symm) i h x))
    have B620 := B242.all k618 (fun i h x => (((ap37).symm) i h x))
    have B621 := B243.all k618 (fun i h x => (((ap38).symm) i h x))
    have B622 := B244.all k618 (fun x => (((ap39).symm) p1 rfl x))
    have B623 := B245.all k618 (fun x => (((ap40).symm) p14 rfl x))
    have B624 := B247.all k618 (fun i h x => ((ap259) i h x))
    have B625 := B248.all k618 (fun i h x => ((ap268) i h x))
    have B626 := B249.all k618 (fun i h x => ((ap276) i h x))
    have B627 := B250.all k618 (fun x => ((ap112) p101 rfl x))
    have K628 := K228.trans k618 (Grew.ok (S := fun _ => False) gr35 noB_le)
    refine wl_nil fun F629 hF630 => ?_
    have s631 : F629 10 = .pointer (some ⟨p30, 0, none⟩) := (hF630 10).trans s284
    have s632 : F629 55 = undef := (hF630 55).trans s288
    clear hF630
    refine then_normal ?_
    refine wq_ret ?_
    exact end_stc (vs := [.int .i64 ((copyF (f)).W), .int .i64 ((copyF (f)).H), v56, v57, v58]) stcT_frame s632 rfl rfl s631 B617 ⟨v56, T223, v57, T224, v58, T225, (by rw [show putFr f p x y b = putTo f p x y b 16 from rfl, (put_side f p x y b 16).1, (put_side f p x y b 16).2.1]), K628, ⟨B624, gr251⟩, ⟨B625, gr252⟩, ⟨B626, gr253⟩, ap260, ap261, ap269⟩
end Go.Proofs.Ytceoidglhakanaa
namespace Go.Proofs.Ytceoidglhakanaa
open Go.RowKit

section
variable {N : Nat} {Q : (Exit → (Nat → Value) → World → Prop)} {F : Nat → Value} {w : World} {P : Program}
def StepR (N : Nat) (P : Program) (R : World → World → Prop) (D : List (Option Tmp)) (G : Nat → Value → World → Prop) (F0 : Nat → Value) (w0 : World) (i : Nat) (o : Oper) : Prop :=
  ∀ (F : Nat → Value) (w : World), R w0 w → (∀ t, Nat.blt t N = true → some t ∉ D → F t = F0 t) → DepsF D G F w o.after.toList → o.guard = none ∧ Yields P (ev F) o w (fun v w' => G i v w' ∧ R w w')
def StepsR (N : Nat) (P : Program) (R : World → World → Prop) (D : List (Option Tmp)) (G : Nat → Value → World → Prop) (F0 : Nat → Value) (w0 : World) : Nat → List Oper → Prop
  | _, [] => True
  | i, o :: r => StepR N P R D G F0 w0 i o ∧ StepsR N P R D G F0 w0 (i + 1) r
theorem StepR.step {R : World → World → Prop} {D : List (Option Tmp)} {G : Nat → Value → World → Prop} {w0 : World} {i : Nat} {o : Oper} {a0 : Act} (ha : Fr N F a0) (h : StepR N P R D G F w0 i o) : Step P R D G a0 w0 i o := by
  intro a w hR hout hD
  have h1 := h (fun t => a.tmps.getD t undef) w hR (fun t hb ht => by rw [← ha.at' t hb]; exact hout t ht) hD.toF
  rw [← eval_ev a] at h1
  unfold goes
  rw [h1.1]
  exact ⟨fun _ => h1.2, fun e => by cases e⟩
theorem StepsR.steps {R : World → World → Prop} {D : List (Option Tmp)} {G : Nat → Value → World → Prop} {w0 : World} {a0 : Act} (ha : Fr N F a0) : ∀ {os : List Oper} {i : Nat}, StepsR N P R D G F w0 i os → Steps P R D G a0 w0 i os := by
  intro os
  induction os with
  | nil => intro i _; exact trivial
  | cons o r ih => intro i h; exact ⟨h.1.step ha, ih h.2⟩
theorem stepsR_nil {R : World → World → Prop} {D : List (Option Tmp)} {G : Nat → Value → World → Prop} {F0 : Nat → Value} {w0 : World} {i : Nat} : StepsR N P R D G F0 w0 i [] := trivial
theorem stepsR_cons {R : World → World → Prop} {D : List (Option Tmp)} {G : Nat → Value → World → Prop} {F0 : Nat → Value} {w0 : World} {i : Nat} {o : Oper} {r : List Oper} (hg : o.guard = none)
    (h : ∀ (F : Nat → Value) (w : World), R w0 w → (∀ t, Nat.blt t N = true → some t ∉ D → F t = F0 t) → DepsF D G F w o.after.toList → Yields P (ev F) o w (fun v w' => G i v w' ∧ R w w')) (k : StepsR N P R D G F0 w0 (i + 1) r) : StepsR N P R D G F0 w0 i (o :: r) := ⟨fun F w h1 h2 h3 => ⟨hg, h F w h1 h2 h3⟩, k⟩
theorem wq_tailR {id : Nat} {ops : Array Oper} (n : Nat) (R : World → World → Prop) (D : List (Option Tmp)) (G : Nat → Value → World → Prop) (hm : P.follows .mixedOrders = true) (hta : tailed ops.toList n = true) (hpl : plain N 0 D (ops.toList.take n) = true)
    (hrf : ∀ a, R a a) (htr : ∀ a b c, R a b → R b c → R a c) (hdr : R w w.drew) (hst : ∀ i v w w', G i v w → R w w' → G i v w') (hsteps : StepsR N P R D G F w 0 (ops.toList.take n))
    (hend : ∀ (v : Nat → Value) (F' : Nat → Value) (w' : World), R w w' → (∀ i, i < n → G i (v i) w') → (∀ t, F' t = putsF v 0 D F t) → wl none P N ops Q (ops.toList.drop n) F' w') : wq none P N (.region id ops true) Q F w := by
  intro a ha
  refine wpIn_wide.2 ?_
  refine wp_region_any hm ?_
  have T := tailed_all hta
  have hno : ∀ j, (Array.replicate ops.size false).getD j false = false := by
    intro j
    by_cases h : j < ops.size <;> simp [Array.getD, h]
  refine wpAny_tail n T R D G (by rw [ha.size]; exact hpl) hrf htr hst (hsteps.steps ha) (fun v w' hk hG => hend v _ w' hk hG (fun _ => rfl) _ (putAll_fr v D 0 F a ha (plain_fits hpl))) ops.size _ (fun _ => undef) a _ ⟨rfl, by simp, rfl, hdr, fun _ _ => rfl, fun j _ hj => ?_, fun j hj => ?_⟩ ?_ ?_ ?_
  · rw [hno] at hj; cases hj
  · rw [hno] at hj; cases hj
  · intro k o _ hl; rw [hno] at hl; cases hl
  · intro j _; exact hno j
  · exact Nat.le_trans (List.countP_le_length) (by simp)
end

def repL (L : List Nat) (n k : Nat) : List Nat := L.take (0 + k) ++ ((((L.drop 0).take (n - 0)).drop 0).take (k - 0) |>.take (n - 0 - k) |> (· ++ L.drop (0 + k + min (n - 0 - k) (((((L.drop 0).take (n - 0)).drop 0).take (k - 0)).length))))
theorem repL_eq {L : List Nat} {n k : Nat} (hL : L.length = n) (hk : k ≤ n) : repL L n k = L.take k ++ (L.take (min (n - k) k) ++ L.drop (k + min (n - k) k)) := by
  unfold repL
  have e : ((((L.drop 0).take (n - 0)).drop 0).take (k - 0)) = L.take k := by simp; rw [← hL, List.take_length]
  rw [e]
  simp only [Nat.zero_add, Nat.sub_zero, List.take_take, List.length_take]
  rw [show min (n - k) (min k L.length) = min (n - k) k by omega]
theorem repL_length {L : List Nat} {n k : Nat} (hL : L.length = n) (hk : k ≤ n) : (repL L n k).length = n := by rw [repL_eq hL hk]; simp; omega
theorem repL_take {L : List Nat} {n k s : Nat} (hL : L.length = n) (hk : k ≤ n) (h : L.take k = List.replicate k s) : (repL L n k).take (k + min (n - k) k) = List.replicate (k + min (n - k) k) s := by
  rw [repL_eq hL hk, h, show L.take (min (n - k) k) = (L.take k).take (min (n - k) k) by rw [List.take_take]; congr 1; omega, h, List.take_replicate, show min (min (n - k) k) k = min (n - k) k by omega, ← List.append_assoc, List.replicate_append_replicate]
  rw [List.take_append_of_le_length (by simp), List.take_of_length_le (by simp)]
theorem repL_again {L : List Nat} {n k s : Nat} (hL : L.length = n) (hk : k ≤ n) (h : L.take k = List.replicate k s) : repL (repL L n k) n k = repL L n k := by
  have h2 := repL_length hL hk
  have h3 := repL_take hL hk h
  rw [repL_eq h2 hk]
  have e1 : (repL L n k).take k = List.replicate k s := by
    have : (repL L n k).take k = ((repL L n k).take (k + min (n - k) k)).take k := by rw [List.take_take]; congr 1; omega
    rw [this, h3, List.take_replicate]; congr 1; omega
  have e2 : (repL L n k).take (min (n - k) k) = List.replicate (min (n - k) k) s := by
    have : (repL L n k).take (min (n - k) k) = ((repL L n k).take (k + min (n - k) k)).take (min (n - k) k) := by rw [List.take_take]; congr 1; omega
    rw [this, h3, List.take_replicate]; congr 1; omega
  rw [e1, e2, ← List.append_assoc, List.replicate_append_replicate, ← h3, List.take_append_drop]
theorem rep_start {J l : List Nat} {n s : Nat} (hJ : J.length = n) (hn : 1 ≤ n) (hl : l.length = 1) (hs : l.getD 0 0 = s) : (J.take 0 ++ (l.take (n - 0) ++ J.drop (0 + min (n - 0) l.length))).length = n ∧ (J.take 0 ++ (l.take (n - 0) ++ J.drop (0 + min (n - 0) l.length))).take 1 = List.replicate 1 s := by
  obtain ⟨z, rfl⟩ : ∃ z, l = [z] := by
    match l, hl with
    | [z], _ => exact ⟨z, rfl⟩
  obtain rfl : z = s := by simpa using hs
  obtain ⟨m, rfl⟩ : ∃ m, n = m + 1 := ⟨n - 1, by omega⟩
  constructor
  · simp; omega
  · simp
theorem rep_done {L : List Nat} {n k s : Nat} (hk : k = n) (h : L.take k = List.replicate k s) : List.replicate n s = ((L.drop 0).take (n - 0)) := by
  subst hk; rw [List.drop_zero, Nat.sub_zero, h]

/-- What may become of the row, and of nothing else. -/
def RepR (T : Nat → Prop) (v : Value) (L L' : List Nat) (a b : World) : Prop := Kept T a b ∧ (Owb a T v L' → Owb b T v L') ∧ (Owb a T v L → Owb b T v L ∨ Owb b T v L')
theorem RepR.refl {T : Nat → Prop} {v : Value} {L L' : List Nat} (a : World) : RepR T v L L' a a := ⟨Kept.refl _ _, id, .inl⟩
theorem RepR.trans {T : Nat → Prop} {v : Value} {L L' : List Nat} {a b c : World} (h : RepR T v L L' a b) (k : RepR T v L L' b c) : RepR T v L L' a c :=
  ⟨h.1.trans k.1 (fun _ _ x => x), fun x => k.2.1 (h.2.1 x), fun x => (h.2.2 x).elim k.2.2 (fun y => .inr (k.2.1 y))⟩
theorem RepR.drew {T : Nat → Prop} {v : Value} {L L' : List Nat} (a : World) : RepR T v L L' a a.drew :=
  ⟨(Kept.refl _ _).drew, fun h => h.all (S := fun _ => False) (Kept.refl _ _).drew Apart.none, fun h => .inl (h.all (S := fun _ => False) (Kept.refl _ _).drew Apart.none)⟩
/-- What each operation answers. -/
def RepG (T : Nat → Prop) (v : Value) (L' : List Nat) (vs : List Value) (i : Nat) (x : Value) (w : World) : Prop := x = vs.getD i undef ∧ (i = 7 → Owb w T v L')
theorem RepG.stays {T : Nat → Prop} {v : Value} {L L' : List Nat} {vs : List Value} (i : Nat) (x : Value) (w w' : World) (h : RepG T v L' vs i x w) (k : RepR T v L L' w w') : RepG T v L' vs i x w' := ⟨h.1, fun e => k.2.1 (h.2 e)⟩
theorem Byt.of_eq {w : World} {T : Nat → Prop} {v : Value} {l m : List Nat} (e : m = l) (h : Byt w T v l) : Byt w T v m := e ▸ h
theorem Owb.len {w : World} {T : Nat → Prop} {v : Value} {L : List Nat} (h : Owb w T v L) : Byt w T v L := h.byt
theorem rep_turn {ρ : Operand → Value} {o : Oper} {w w0 : World} {T : Nat → Prop} {v : Value} {L : List Nat} {n k s : Nat} {c : Call} {x y : Operand} {vs : List Value} (ho : o.op = .call c) (hc : c = { callee := .builtin .copy, args := #[x, y], argTypes := #[22, 22] }) (hx : ρ x = subV (subV v 0 n n) k (n - 0) (n - 0)) (hy : ρ y = subV (subV v 0 n n) 0 k (n - 0))
    (hL : L.length = n) (hk : k ≤ n) (ht : L.take k = List.replicate k s) (h0 : Owb w0 T v L) (hR : RepR T v L (repL L n k) w0 w) (hvs : vs.getD 7 undef = .int .i64 ((min (n - k) k : Nat) : Int)) :
    Yields Try.prog ρ o w (fun r w' => RepG T v (repL L n k) vs 7 r w' ∧ RepR T v L (repL L n k) w w') := by
  have main : ∀ M : List Nat, Owb w T v M → M.length = n → repL M n k = repL L n k → Yields Try.prog ρ o w (fun r w' => RepG T v (repL L n k) vs 7 r w' ∧ RepR T v L (repL L n k) w w') := by
    intro M hM hMl he
    have hb : Byt w T (subV (subV v 0 n n) 0 k (n - 0)) ((((M.drop 0).take (n - 0)).drop 0).take (k - 0)) := by
      have h1 : Byt w T (subV v 0 n n) ((M.drop 0).take (n - 0)) := hM.byt.sub (by omega) (by omega) (by omega) (by have := hM.byt.cap; omega)
      have hcap : capV (subV v 0 n n) = n - 0 := by
        obtain ⟨a, e⟩ := sub_len hM.byt 0 n n
        rw [e]; rfl
      exact h1.sub (by omega) (by omega) (by simp; omega) (by rw [hcap]; omega)
    obtain ⟨w', hr, h1, h2⟩ := run_copyM (off := 0 + k) (n := n - 0 - k) ho hc (by rw [hx]; exact part_sub2 hM.byt (Nat.le_refl _) (Nat.le_refl _) rfl) hy hM hb (by omega)
    have h1' : Owb w' T v (repL L n k) := by rw [← he]; exact h1
    refine y_val hr ⟨⟨?_, fun _ => h1'⟩, h2, fun _ => h1', fun _ => .inr h1'⟩
    rw [hvs]
    congr 2
    simp; omega
  rcases hR.2.2 h0 with h | h
  · exact main L h hL rfl
  · exact main _ h (repL_length hL hk) (repL_again hL hk ht)
theorem rep_cutL {ρ : Operand → Value} {o : Oper} {w w0 : World} {R : Value → World → Prop} {T : Nat → Prop} {v : Value} {L : List Nat} {n k : Nat} {x lo : Operand} (ho : o.op = .slice 22 x (some lo) none none) (hx : ρ x = subV v 0 n n) (hl : ρ lo = .int .i64 (k : Int)) (hk : k ≤ n) (h0 : Owb w0 T v L) (hR : RepR T v L (repL L n k) w0 w) (h : R (subV (subV v 0 n n) k (n - 0) (n - 0)) w) : Yields Try.prog ρ o w R := by
  rcases hR.2.2 h0 with hb | hb
  · exact y_cut2L k ho hx hl rfl hb.byt (by omega) h
  · exact y_cut2L k ho hx hl rfl hb.byt (by omega) h
theorem rep_cutH {ρ : Operand → Value} {o : Oper} {w w0 : World} {R : Value → World → Prop} {T : Nat → Prop} {v : Value} {L : List Nat} {n k : Nat} {x hi : Operand} (ho : o.op = .slice 22 x none (some hi) none) (hx : ρ x = subV v 0 n n) (hl : ρ hi = .int .i64 (k : Int)) (hk : k ≤ n) (h0 : Owb w0 T v L) (hR : RepR T v L (repL L n k) w0 w) (h : R (subV (subV v 0 n n) 0 k (n - 0)) w) : Yields Try.prog ρ o w R := by
  rcases hR.2.2 h0 with hb | hb
  · exact y_cut2H k ho hx hl rfl hb.byt (by omega) h
  · exact y_cut2H k ho hx hl rfl hb.byt (by omega) h

theorem u64_small {n : Nat} (h : n < 18446744073709551616) : IntKind.u64.wrap ((n : Nat) : Int) = ((n : Nat) : Int) := by
  unfold IntKind.wrap; simp [IntKind.signed, IntKind.bits]; omega
theorem u64_mul {a b : Nat} (h : a * b < 18446744073709551616) : IntKind.u64.wrap ((a : Int) * (b : Int)) = ((a * b : Nat) : Int) := by rw [← Int.natCast_mul]; exact u64_small h
theorem and32 {n : Nat} (h : n < 4294967296) : bits .and .u64 ((n : Nat) : Int) 4294967295 = ((n : Nat) : Int) := by
  have e := u64_and_nat n 4294967295 (by omega) (by omega)
  rw [show ((4294967295 : Nat) : Int) = 4294967295 from rfl] at e
  rw [e, show (4294967295 : Nat) = 2 ^ 32 - 1 from rfl, Nat.and_two_pow_sub_one_eq_mod, Nat.mod_eq_of_lt (by simpa using h)]
theorem shr32 {n : Nat} (h : n < 4294967296) : ((n : Nat) : Int) / 2 ^ 32 = ((0 : Nat) : Int) := by
  have : (2 : Int) ^ 32 = 4294967296 := by decide
  rw [this]; omega
end Go.Proofs.Ytceoidglhakanaa
