/- What PictureKeeps reaches of my texts, part 5. -/
import Derived.Test.YtknjpdcpmpfklaaGreatDoorPictureKeepsD
set_option maxRecDepth 100000
set_option maxHeartbeats 4000000
set_option maxRecDepth 100000
namespace Go.Proofs.YtknjpdcpmpfklaaGreatDoor
open Go.RowKit
def P3(m:Int):Int:=if m<4 then 0 else if m=4 then 1 else 2
def aDJ:List Value:=[.int .i64 0,.bool false,.bool false,.int .i64 0,.bool false,.bool false,.int .i64 0,.bool false,.bool false,.int .i64 0,.bool false,.bool false,.int .i64 1,.bool true,.bool false,.int .i64 2,.bool false,.bool true,.int .i64 2,.bool true,.bool true]
def NP(w:World):Prop:=5<=w.heap.size/\∀ i,i<21->w.cell? ⟨1,i,none⟩=aDJ[i]?
theorem NP.but{w w':World}{T:Nat->Prop}(h:NP w)(k:KP T w w')(ha:∀ i,T i->5<=i):NP w' :=
 ⟨Nat.le_trans h.1 k.size,fun i hi=>(k.cell0 (Nat.lt_of_lt_of_le (by decide) h.1) (fun x=>absurd (ha _ x) (by decide))).trans (h.2 i hi)⟩
theorem NP.all{w w':World}(h:NP w)(k:KP (fun _=>False) w w'):NP w':=h.but k (fun _ x=>x.elim)
theorem R3{w0:World}{T:Nat->Prop}(g:KS w0 Ma T)(h:NP w0):∀ i,T i->5<=i:=fun i hi=>by
 have:=h.1
 rcases g i hi with h1|h1
 ·exact h1.elim
 ·omega
theorem UK{w0:World}{B T:Nat->Prop}(g:KS w0 B T)(hB:∀ i,B i->5<=i)(h:NP w0):∀ i,T i->5<=i:=fun i hi=>by
 have:=h.1
 rcases g i hi with h1|h1
 ·exact hB i h1
 ·omega
theorem ovO{T:Nat->Prop}(h:∀ i,T i->5<=i):∀ i,T i->2<i:=fun i hi=>Nat.lt_of_lt_of_le (by decide) (h i hi)
theorem Tj{w:World}(h:NP w){m:Int}(hm:0<=m/\m<7):w.cell? ⟨1,0+(m).toNat*3,none⟩=some (.int .i64 (P3 m))/\w.cell? ⟨1,0+(m).toNat*3+1,none⟩=some (.bool (NF m))/\w.cell? ⟨1,0+(m).toNat*3+2,none⟩=some (.bool (Nm m)):=by
 have hc:m=0\/m=1\/m=2\/m=3\/m=4\/m=5\/m=6:=by omega
 rcases hc with rfl|rfl|rfl|rfl|rfl|rfl|rfl <;> exact⟨(h.2 _ (by decide)).trans rfl,(h.2 _ (by decide)).trans rfl,(h.2 _ (by decide)).trans rfl⟩
theorem aBK(k m:Int):0<=m/\m<7->(P3 m<=k/\k<=2↔m<=NX k):=by
 rintro ⟨h1,h2⟩
 have ha:P3 m=0/\m<4\/P3 m=1/\m=4\/P3 m=2/\4<m:=by
  unfold P3
  by_cases h3:m<4
  ·rw[if_pos h3];omega
  ·rw[if_neg h3]
   by_cases h4:m=4
   ·rw[if_pos h4];omega
   ·rw[if_neg h4];omega
 have hk:k=0/\NX k=3\/k=1/\NX k=4\/k=2/\NX k=6\/(k<0\/2<k)/\NX k = -1:=by
  unfold NX
  by_cases h3:k=0
  ·rw[if_pos h3];omega
  ·rw[if_neg h3]
   by_cases h4:k=1
   ·rw[if_pos h4];omega
   ·rw[if_neg h4]
    by_cases h5:k=2
    ·rw[if_pos h5];omega
    ·rw[if_neg h5];omega
 omega
theorem Qk(m:Int)(w0:World) :
  Calls Tryz.prog 109 #[.int .i64 (m)] w0 fun e w'=>e = .returned (.bool (decide (0<=m/\m<7)))/\KP (fun _=>False) w0 w':=by
 refine Ls (args:=[iv m]) 9 Tryz.func109 rfl rfl (Nat.le_of_ble_eq_true rfl) ?_
 have K0:=KP.refl (fun _=>False) w0
 refine KK (KI (KJ (.bool false) rfl rfl (KX rfl rfl rr) (KO ?_)))
 have s3:=La (iv m)
 have s4:=La (undef)
 refine KH (KK ?_)
 by_cases d5:0<=m
 ·skip
  refine KI (KW rfl rfl rfl s3 (KJ (.bool true) rfl rfl (Nl rfl rfl rfl (decide_eq_true d5) rr) (KJ (.bool true) rfl rfl (KQ rfl rfl rr) (KR (iv m) 2 true 5 rfl rfl rfl rfl rfl (KQ rfl s3 rr) (KR (.bool (decide (m<7))) 2 true 5 rfl rfl rfl rfl rfl (L5 rfl rfl rfl rfl rr) (KJ (.bool (decide (m<7))) rfl rfl (Lg rfl rfl rfl rr) (KJ (.bool (decide (m<7))) rfl rfl (KX rfl rfl rr) (KO ?_))))))))
  have s9:=La (.bool (decide (m<7)))
  refine KH (Ld ?_)
  exact Lu (v:=.bool (decide (m<7))) s4 rfl rfl s9 ⟨(O9 (by first|exact(decide_eq_true (by omega)).symm|exact(decide_eq_false (by omega)).symm|exact decide_eq_decide.2 (by omega))),K0⟩
 ·skip
  refine KI (KW rfl rfl rfl s3 (KJ (.bool false) rfl rfl (Nl rfl rfl rfl (decide_eq_false d5) rr) (KJ (.bool false) rfl rfl (KQ rfl rfl rr) (KL 2 true 5 rfl rfl rfl (Or.inl rfl) rfl (KL 2 true 5 rfl rfl rfl (Or.inl rfl) rfl (KJ (.bool false) rfl rfl (Lb rfl rfl rfl rr) (KJ (.bool false) rfl rfl (KX rfl rfl rr) (KO ?_))))))))
  have ah:=La (.bool false)
  refine KH (Ld ?_)
  exact Lu (v:=.bool false) s4 rfl rfl ah ⟨(O9 (by first|exact(decide_eq_true (by omega)).symm|exact(decide_eq_false (by omega)).symm|exact decide_eq_decide.2 (by omega))),K0⟩
theorem aAV(k m:Int)(w0:World)(hA:NP w0) :
  Calls Tryz.prog 99 #[.int .i64 (k),.int .i64 (m)] w0 fun e w'=>e = .returned (.bool (decide (0<=m/\m<=NX k)))/\KP (fun _=>False) w0 w':=by
 refine Ls (args:=[iv k,iv m]) 19 Tryz.func99 rfl rfl (Nat.le_of_ble_eq_true rfl) ?_
 have K0:=KP.refl (fun _=>False) w0
 have hk6:=UT k
 have hif:=aBK k m
 refine KK (KI (KJ (.bool false) rfl rfl (KX rfl rfl rr) (KO ?_)))
 have s3:=La (iv k)
 have s4:=La (iv m)
 have s5:=La (undef)
 refine KH (KK ?_)
 by_cases d6:0<=m/\m<7
 ·skip
  by_cases d7:(P3 m)<=k
  ·skip
   refine KI (KW rfl rfl rfl s4 (Ly (R:=fun v_ w_=>v_ = .bool true/\KP (fun _=>False) w0 w_) rfl rfl (LE rfl rfl rfl (fun _ _=>by kernel_rfl) (K4 _) (Lm rfl LS) (Qk m  _   ) (fun e_ w_ h_=>⟨_,h_.1,(congrArg Value.bool (decide_eq_true d6)),h_.2⟩)) ?_))
   rintro _ w8 ⟨rfl,k9⟩
   have ai:=K0.tr k9
   refine KJ (.bool true) rfl rfl (KQ rfl rfl rr) (KR (iv k) 2 true 7 rfl rfl rfl rfl rfl (KQ rfl s3 rr) (KR (iv m) 2 true 7 rfl rfl rfl rfl rfl (KQ rfl s4 rr) (KR (.pointer (some ⟨1,0+(m.toNat)*3,none⟩)) 2 true 7 rfl rfl rfl rfl rfl (LU (m.toNat) (s:=3) rfl rfl rfl (by omega) Tryz.underlying165 (by omega) (by kernel_rfl) (by omega) rr) (KR (.pointer (some ⟨1,0+(m.toNat)*3,none⟩)) 2 true 7 rfl rfl rfl rfl rfl (KT (n:=1) rfl rfl Tryz.underlying164 rfl (by kernel_rfl) (by decide) rfl rr) (KR (iv (P3 m)) 2 true 7 rfl rfl rfl rfl rfl (OI rfl rfl Tryz.underlying3 ((Tj (hA.all ai) (by assumption)).1) rr) (KR (.bool true) 2 true 7 rfl rfl rfl rfl rfl (Nl rfl rfl rfl (decide_eq_true d7) rr) (KJ (.bool true) rfl rfl (Lg rfl rfl rfl rr) (KJ (.bool true) rfl rfl (KQ rfl rfl rr) (KR (iv k) 10 true 15 rfl rfl rfl rfl rfl (KQ rfl s3 rr) (KR (.bool (decide (k<=2))) 10 true 15 rfl rfl rfl rfl rfl (Nf rfl rfl rfl rfl rr) (KJ (.bool (decide (k<=2))) rfl rfl (Lg rfl rfl rfl rr) ?_)))))))))))
   refine KJ (.bool (decide (k<=2))) rfl rfl (KX rfl rfl rr) (KO ?_)
   have am:=La (.bool (decide (k<=2)))
   refine KH (Ld ?_)
   exact Lu (v:=.bool (decide (k<=2))) s5 rfl rfl am ⟨(O9 (by first|exact(decide_eq_true (by omega)).symm|exact(decide_eq_false (by omega)).symm|exact decide_eq_decide.2 (by omega))),ai⟩
  ·skip
   refine KI (KW rfl rfl rfl s4 (Ly (R:=fun v_ w_=>v_ = .bool true/\KP (fun _=>False) w0 w_) rfl rfl (LE rfl rfl rfl (fun _ _=>by kernel_rfl) (K4 _) (Lm rfl LS) (Qk m  _   ) (fun e_ w_ h_=>⟨_,h_.1,(congrArg Value.bool (decide_eq_true d6)),h_.2⟩)) ?_))
   rintro _ au ⟨rfl,an⟩
   have aj:=K0.tr an
   refine KJ (.bool true) rfl rfl (KQ rfl rfl rr) (KR (iv k) 2 true 7 rfl rfl rfl rfl rfl (KQ rfl s3 rr) (KR (iv m) 2 true 7 rfl rfl rfl rfl rfl (KQ rfl s4 rr) (KR (.pointer (some ⟨1,0+(m.toNat)*3,none⟩)) 2 true 7 rfl rfl rfl rfl rfl (LU (m.toNat) (s:=3) rfl rfl rfl (by omega) Tryz.underlying165 (by omega) (by kernel_rfl) (by omega) rr) (KR (.pointer (some ⟨1,0+(m.toNat)*3,none⟩)) 2 true 7 rfl rfl rfl rfl rfl (KT (n:=1) rfl rfl Tryz.underlying164 rfl (by kernel_rfl) (by decide) rfl rr) (KR (iv (P3 m)) 2 true 7 rfl rfl rfl rfl rfl (OI rfl rfl Tryz.underlying3 ((Tj (hA.all aj) (by assumption)).1) rr) (KR (.bool false) 2 true 7 rfl rfl rfl rfl rfl (Nl rfl rfl rfl (decide_eq_false d7) rr) (KJ (.bool false) rfl rfl (Lg rfl rfl rfl rr) (KJ (.bool false) rfl rfl (KQ rfl rfl rr) (KL 10 true 15 rfl rfl rfl (Or.inl rfl) rfl (KL 10 true 15 rfl rfl rfl (Or.inl rfl) rfl (KJ (.bool false) rfl rfl (Lb rfl rfl rfl rr) ?_)))))))))))
   refine KJ (.bool false) rfl rfl (KX rfl rfl rr) (KO ?_)
   have ao:=La (.bool false)
   refine KH (Ld ?_)
   exact Lu (v:=.bool false) s5 rfl rfl ao ⟨(O9 (by first|exact(decide_eq_true (by omega)).symm|exact(decide_eq_false (by omega)).symm|exact decide_eq_decide.2 (by omega))),aj⟩
 ·skip
  refine KI (KW rfl rfl rfl s4 (Ly (R:=fun v_ w_=>v_ = .bool false/\KP (fun _=>False) w0 w_) rfl rfl (LE rfl rfl rfl (fun _ _=>by kernel_rfl) (K4 _) (Lm rfl LS) (Qk m  _   ) (fun e_ w_ h_=>⟨_,h_.1,(congrArg Value.bool (decide_eq_false d6)),h_.2⟩)) ?_))
  rintro _ av ⟨rfl,ap⟩
  refine KJ (.bool false) rfl rfl (KQ rfl rfl rr) (KL 2 true 7 rfl rfl rfl (Or.inl rfl) rfl (KL 2 true 7 rfl rfl rfl (Or.inl rfl) rfl (KL 2 true 7 rfl rfl rfl (Or.inl rfl) rfl (KL 2 true 7 rfl rfl rfl (Or.inl rfl) rfl (KL 2 true 7 rfl rfl rfl (Or.inl rfl) rfl (KL 2 true 7 rfl rfl rfl (Or.inl rfl) rfl (KJ (.bool false) rfl rfl (Lb rfl rfl rfl rr) (KJ (.bool false) rfl rfl (KQ rfl rfl rr) (KL 10 true 15 rfl rfl rfl (Or.inl rfl) rfl (KL 10 true 15 rfl rfl rfl (Or.inl rfl) rfl (KJ (.bool false) rfl rfl (Lb rfl rfl rfl rr) ?_)))))))))))
  refine KJ (.bool false) rfl rfl (KX rfl rfl rr) (KO ?_)
  have aq:=La (.bool false)
  refine KH (Ld ?_)
  exact Lu (v:=.bool false) s5 rfl rfl aq ⟨(O9 (by first|exact(decide_eq_true (by omega)).symm|exact(decide_eq_false (by omega)).symm|exact decide_eq_decide.2 (by omega))),(K0.tr ap)⟩
theorem azQ{m:Int}(h:¬ (0<=m/\m<7)):NF m=false/\Nm m=false:=by
 unfold NF Nm;rw[decide_eq_false (by omega:¬ m=4),decide_eq_false (by omega:¬ m=5),decide_eq_false (by omega:¬ m=6)];exact⟨rfl,rfl⟩
theorem Vn(m:Int)(w0:World)(hA:NP w0) :
  Calls Tryz.prog 97 #[.int .i64 (m)] w0 fun e w'=>e = .returned (.tuple #[.bool (NF m),.bool (Nm m)])/\KP (fun _=>False) w0 w':=by
 refine Ls (args:=[iv m]) 15 Tryz.func97 rfl rfl (Nat.le_of_ble_eq_true rfl) ?_
 have K0:=KP.refl (fun _=>False) w0
 refine KK (KI (KJ (.bool false) rfl rfl (KX rfl rfl rr) (KJ (.bool false) rfl rfl (KX rfl rfl rr) (KO ?_))))
 have s3:=La (iv m)
 have s4:=La (undef)
 refine KH (KK (KK ?_))
 by_cases d5:0<=m/\m<7
 ·skip
  refine KI (KW rfl rfl rfl s3 (Ly (R:=fun v_ w_=>v_ = .bool true/\KP (fun _=>False) w0 w_) rfl rfl (LE rfl rfl rfl (fun _ _=>by kernel_rfl) (K4 _) (Lm rfl LS) (Qk m  _   ) (fun e_ w_ h_=>⟨_,h_.1,(congrArg Value.bool (decide_eq_true d5)),h_.2⟩)) ?_))
  rintro _ w6 ⟨rfl,k7⟩
  have K8:=K0.tr k7
  refine KJ (.bool false) rfl rfl (LW rfl rfl rfl rr) (KO ?_)
  have am:=La (.bool false)
  refine KH ?_
  refine Lc (t:=false) am (fun e=>by cases e) (fun _=>?_)
  refine Li (KH (KK ?_))
  have hm7:0<=m/\m<7:=by first|assumption|(apply Decidable.byContradiction;assumption)
  refine Rd [some 7,some 8,some 9,some 10,some 11,some 12,some 13,some 14,some 2,some 3] [Pd.eq (iv m),Pd.eq (.pointer (some ⟨1,0+(m.toNat)*3,none⟩)),Pd.eq (.pointer (some ⟨1,0+(m.toNat)*3+1,none⟩)),Pd.eq (.bool (NF m)),Pd.eq (iv m),Pd.eq (.pointer (some ⟨1,0+(m.toNat)*3,none⟩)),Pd.eq (.pointer (some ⟨1,0+(m.toNat)*3+2,none⟩)),Pd.eq (.bool (Nm m)),Pd.eq (.bool (NF m)),Pd.eq (.bool (Nm m))] (by kernel_rfl) (by kernel_rfl) ?_ ?_
  ·refine KN ?_ ?_
   ·refine Le.one rfl fun F_ w_ hR hout hD=>?_
    exact(KQ rfl ((hout 0 rfl (by decide)).trans s3) ⟨rfl,KP.refl _ _⟩)
   refine KN ?_ ?_
   ·refine Le.one rfl fun F_ w_ hR hout hD=>?_
    have g7:F_ 7=iv m:=(hD.get 0 rfl rfl rfl)
    exact(LU (m.toNat) (s:=3) rfl rfl g7 (by omega) Tryz.underlying165 (by omega) (by kernel_rfl) (by omega) ⟨rfl,KP.refl _ _⟩)
   refine KN ?_ ?_
   ·refine Le.one rfl fun F_ w_ hR hout hD=>?_
    have g8:F_ 8 = .pointer (some ⟨1,0+(m.toNat)*3,none⟩):=(hD.get 0 rfl rfl rfl)
    exact(KT (n:=1) rfl g8 Tryz.underlying164 rfl (by kernel_rfl) (by decide) rfl ⟨rfl,KP.refl _ _⟩)
   refine KN ?_ ?_
   ·refine Le.one rfl fun F_ w_ hR hout hD=>?_
    have g9:F_ 9 = .pointer (some ⟨1,0+(m.toNat)*3+1,none⟩):=(hD.get 0 rfl rfl rfl)
    exact(Yb rfl g9 Tryz.underlying4 rfl ((Tj (hA.all (K8.trans hR (fun _ _ x=>x.elim))) hm7).2.1) ⟨rfl,KP.refl _ _⟩)
   refine KN ?_ ?_
   ·refine Le.one rfl fun F_ w_ hR hout hD=>?_
    exact(KQ rfl ((hout 0 rfl (by decide)).trans s3) ⟨rfl,KP.refl _ _⟩)
   refine KN ?_ ?_
   ·refine Le.one rfl fun F_ w_ hR hout hD=>?_
    have aq:F_ 11=iv m:=(hD.get 0 rfl rfl rfl)
    exact(LU (m.toNat) (s:=3) rfl rfl aq (by omega) Tryz.underlying165 (by omega) (by kernel_rfl) (by omega) ⟨rfl,KP.refl _ _⟩)
   refine KN ?_ ?_
   ·refine Le.one rfl fun F_ w_ hR hout hD=>?_
    have ar:F_ 12 = .pointer (some ⟨1,0+(m.toNat)*3,none⟩):=(hD.get 0 rfl rfl rfl)
    exact(KT (n:=1) rfl ar Tryz.underlying164 rfl (by kernel_rfl) (by decide) rfl ⟨rfl,KP.refl _ _⟩)
   refine KN ?_ ?_
   ·refine Le.one rfl fun F_ w_ hR hout hD=>?_
    have au:F_ 13 = .pointer (some ⟨1,0+(m.toNat)*3+2,none⟩):=(hD.get 0 rfl rfl rfl)
    exact(Yb rfl au Tryz.underlying4 rfl ((Tj (hA.all (K8.trans hR (fun _ _ x=>x.elim))) hm7).2.2) ⟨rfl,KP.refl _ _⟩)
   refine KN ?_ ?_
   ·refine Le.one rfl fun F_ w_ hR hout hD=>?_
    have av:F_ 10 = .bool (NF m):=(hD.get 0 rfl rfl rfl)
    exact(KX rfl av ⟨rfl,KP.refl _ _⟩)
   refine KN ?_ ?_
   ·refine Le.one rfl fun F_ w_ hR hout hD=>?_
    have aw:F_ 14 = .bool (Nm m):=(hD.get 0 rfl rfl rfl)
    exact(KX rfl aw ⟨rfl,KP.refl _ _⟩)
   exact L3
  intro aI aj aJ az ae ab
  have aA:=(ab 15).trans s4
  have aB:aj 2 = .bool (NF m):=(ab 2).trans (ae 8 (by decide))
  have aC:aj 3 = .bool (Nm m):=(ab 3).trans (ae 9 (by decide))
  clear ae ab
  refine KH (Ld ?_)
  exact L7 aA rfl (Lz (v:=.bool (NF m)) rfl aB) (Lz (v:=.bool (Nm m)) rfl aC) ⟨(by first|rfl|rw[hpo.1,hpo.2]),(K8.tr az)⟩
 ·skip
  refine KI (KW rfl rfl rfl s3 (Ly (R:=fun v_ w_=>v_ = .bool false/\KP (fun _=>False) w0 w_) rfl rfl (LE rfl rfl rfl (fun _ _=>by kernel_rfl) (K4 _) (Lm rfl LS) (Qk m  _   ) (fun e_ w_ h_=>⟨_,h_.1,(congrArg Value.bool (decide_eq_false d5)),h_.2⟩)) ?_))
  rintro _ aK ⟨rfl,aD⟩
  refine KJ (.bool true) rfl rfl (LW rfl rfl rfl rr) (KO ?_)
  have aE:=La (.bool true)
  refine KH ?_
  refine Lc (t:=true) aE (fun _=>?_) (fun e=>by cases e)
  refine KK ?_
  have hpo:=azQ (m:=m) (by assumption)
  refine KI (KJ (.bool false) rfl rfl (KX rfl rfl rr) (KJ (.bool false) rfl rfl (KX rfl rfl rr) (KO ?_)))
  have aF:=La (.bool false)
  have aG:=La (.bool false)
  refine KH (Ld (Lq ?_))
  exact L7 s4 rfl (Lz (v:=.bool false) rfl aF) (Lz (v:=.bool false) rfl aG) ⟨(by first|rfl|rw[hpo.1,hpo.2]),(K0.tr aD)⟩
theorem azG(b:Nat->Int)(c:Ch)(q:Int)(w0:World)(hs:NY w0)(hw:Qi w0) :
  Calls Tryz.prog 76 #[LK (b),.agg (O1 (c)).toArray,.int .i64 (q)] w0 fun e w'=>e = .returned (.tuple #[LK (buB b c.b q),.int .i64 (Qx q)])/\KP (fun _=>False) w0 w':=by
 refine Ls (args:=[LK b,.agg (O1 c).toArray,iv q]) 39 Tryz.func76 rfl rfl (Nat.le_of_ble_eq_true rfl) ?_
 have K0:=KP.refl (fun _=>False) w0
 refine KK (KI (M6 rfl rfl rfl rfl fun p1 w2 e5 B3 k4=>?_))
 have g6:=LV (Nat.le_of_eq e5.symm)
 have aD:=KS.new K0 g6
 clear e5 g6
 refine Lx (vs:=(O1 c)) rfl rfl rfl rfl fun p9 cr bj bl aE=>?_
 have aF:=KM.new bl (LO B3.lt)
 have aG:=B3.all aE id
 have aH:=(K0.tr k4).tr aE
 refine L1 rfl rfl rfl KZ.2.2 fun ac ct aI bm aJ=>?_
 have ae:=LV (Nat.le_of_eq aI.symm)
 have aK:=KS.new aH ae
 have aL:=KM.new ae (LO aG.lt)
 clear aI ae
 obtain⟨bn,aM⟩:=NL aJ aG bj
 have aN:=aH.tr aJ
 refine KJ (iv 0) rfl rfl (KX rfl rfl rr) (KO ?_)
 have bo:=La (iv q)
 have aO:=La (undef)
 have aP:=La (pt p1 0)
 have bp:=La (pt p9 0)
 have ao:=La (pt ac 0)
 refine KH (KK (KI (KJ (pt p9 5) rfl rfl (KT (n:=16) rfl bp Tryz.underlying71 rfl (by kernel_rfl) (by decide) rfl rr) (KJ (LK (c.b)) rfl rfl (O8 (n:=16) (us:=L8 16 (c.b)) Qu rfl rfl aM (Nat.le_of_ble_eq_true rfl) rfl rr) (KW rfl rfl rfl bo (LY rfl rfl rfl rfl rfl (fun _ _=>by kernel_rfl) (Lm rfl (Lm rfl LS)) (aCI (c.b) q  _ (hs.all aN)  ) fun cu aQ=>?_))))))
 obtain⟨aR,aS,aT⟩:=ND aQ bn aM bm
 have aU:=aN.tr aQ
 refine KJ (.tuple #[LK (Un (c.b) q),iv (Qx q)]) rfl rfl (KQ rfl rfl rr) (KJ (LK (Un (c.b) q)) rfl rfl (LM rfl rfl rfl rr) (KJ (iv (Qx q)) rfl rfl (LM rfl rfl rfl rr) (L1 rfl rfl rfl KZ.2.2 fun ai cv aV bq aW=>?_)))
 have aX:=LV (Nat.le_of_eq aV.symm)
 obtain⟨ap,bt,bu⟩:=Tn aX aR aS aT
 clear aV
 obtain⟨bv,bz,bA⟩:=ND aW aR aS aT
 refine Lp KZ rfl rfl rfl rfl rfl bq fun cw aY aj=>?_
 have aZ:=bv.all aj (ap.symm p1 rfl)
 have bB:=bz.all aj (bt.symm p9 rfl)
 have a8:=bA.all aj (bu.symm ac rfl)
 have aq:=(aU.tr aW).trans aj (KS.ok (S:=fun _=>False) (KS.new aU aX) K6)
 refine KJ (iv (Qx q)) rfl rfl (KX rfl rfl rr) (KO ?_)
 have bC:=La (pt ai 0)
 have a9:=La (iv (Qx q))
 refine KH (KK (KK (KI (KW rfl rfl rfl a9 (KJ (.bool (decide ((Qx q)≠0))) rfl rfl (Mc rfl rfl rfl rfl rr) (KO ?_))))))
 have bD:=La (.bool (decide ((Qx q)≠0)))
 refine KH ?_
 refine Lc bD (fun af=>?_) (fun af=>?_)
 ·replace af:=of_decide_eq_true af
  refine KK ?_
  have hR:=aDa (b:=b) (l:=c.b) (q:=q) (by assumption)
  refine KI (KJ (LK (fun _=>0)) rfl rfl (Mz (cells:=(L8 16 (fun _=>0)).toArray) rfl (by kernel_rfl) rfl rr) (KW rfl rfl rfl a9 (Lp KZ rfl rfl rfl ao rfl a8 fun cy bE bF=>?_)))
  refine KJ (iv (Qx q)) rfl rfl (KX rfl rfl rr) (KO ?_)
  have bG:=La (iv (Qx q))
  refine KH (Ld (Lq ?_))
  exact L7 aO rfl (Mq KZ rfl ao bE) (Lz (v:=iv (Qx q)) rfl bG) ⟨(by first|rw[hR,hq0]|rw[hR]),(aq.trans bF (KS.ok (S:=fun _=>False) aK K6))⟩
 ·replace af:=of_decide_eq_false af
  refine Li (KH (KK ?_))
  have hq0:Qx q=0:=by first|assumption|(apply Decidable.byContradiction;assumption)
  have hR:=aCF (b:=b) (l:=c.b) hq0
  refine Nd 4 [some 23,some 24,some 25,some 26] [Pd.eq (LK b),Pd.eq (LK (Un (c.b) q)),Pd.eq (LK (Oq (Un (c.b) q))),Pd.eq (LK (OU b (Oq (Un (c.b) q))))] (by kernel_rfl) (by kernel_rfl) (by kernel_rfl) ?_ ?_
  ·refine KN ?_ ?_
   ·refine Le.one rfl fun F_ w_ hR hout hD=>?_
    exact(LZ KZ rfl ((hout 3 rfl (by decide)).trans aP) (aZ.all hR id) ⟨rfl,KP.refl _ _⟩)
   refine KN ?_ ?_
   ·refine Le.one rfl fun F_ w_ hR hout hD=>?_
    exact(LZ KZ rfl ((hout 8 rfl (by decide)).trans bC) (aY.all hR id) ⟨rfl,KP.refl _ _⟩)
   refine KN ?_ ?_
   ·refine Le.one rfl fun F_ w_ hR hout hD=>?_
    have bH:F_ 24=LK (Un (c.b) q):=(hD.get 0 rfl rfl rfl)
    exact(LE rfl rfl rfl (fun _ _=>by kernel_rfl) (K4 _) (Lm bH LS) (azV (Un (c.b) q)  _ (hw.all (aq.trans hR (fun _ _ x=>x.elim)))  ) (fun e_ w_ h_=>⟨_,h_.1,rfl,h_.2⟩))
   refine KN ?_ ?_
   ·refine Le.one rfl fun F_ w_ hR hout hD=>?_
    have ae:F_ 23=LK b:=(hD.get 0 rfl rfl rfl)
    have bI:F_ 25=LK (Oq (Un (c.b) q)):=(hD.get 1 rfl rfl rfl)
    exact(LE rfl rfl rfl (fun _ _=>by kernel_rfl) (K4 _) (Lm ae (Lm bI LS)) (aAu b (Oq (Un (c.b) q))  _   ) (fun e_ w_ h_=>⟨_,h_.1,rfl,h_.2⟩))
   exact L3
  intro cz bJ cA ba bb ar
  obtain⟨bK,bL,bM,bN⟩:=OW ba aZ bB a8 aY
  obtain⟨bO,au,bP⟩:=t3 ar 39 aO 3 aP 6 ao
  have bQ:bJ 26=LK (OU b (Oq (Un (c.b) q))):=(ar 26).trans (bb 3 (by decide))
  clear bb ar
  refine Lp KZ rfl rfl rfl au bQ bK fun cC bc ak=>?_
  have bR:=bL.all ak (aF p9 rfl)
  have bS:=bM.all ak (aL ac rfl)
  have bT:=bN.all ak (ap ai rfl)
  refine KO ?_
  refine KH (KK (KK (KI (KJ (LK (OU b (Oq (Un (c.b) q)))) rfl rfl (LZ KZ rfl au bc rr) (KJ (iv 0) rfl rfl (KQ rfl rfl rr) (KO ?_))))))
  have bU:=La (LK (OU b (Oq (Un (c.b) q))))
  have bV:=La (iv 0)
  refine KH (Lo (M4 (fun nn FF ww=>∃ (i:Nat),(i<=16)/\nn=16-i/\FF 3=pt p1 0/\FF 6=pt ac 0/\FF 27=LK (OU b (Oq (Un (c.b) q)))/\FF 39=undef/\FF 28=iv ((i:Nat):Int)/\KP (fun _=>False) w0 ww/\NO ww p1 69 (upto i (OU b (Oq (Un c.b q))) (c8M (OU b (Oq (Un c.b q)))))/\My ww p9 71 (O1 c)/\NO ww ac 69 (fun _=>0)/\NO ww ai 69 (Un (c.b) q)) (16-0) ⟨0,by omega,rfl,au,bP,bU,bO,bV,((aq.tr ba).trans ak (KS.ok (S:=fun _=>False) aD K6)),bc.first,bR,bS,bT⟩ ?_))
  rintro cD cE bW ⟨i,i131,hn130,av,aw,bd,be,am,bf,bg,bX,bh,bY⟩
  refine KK (KI (KJ (.bool (decide (((i:Nat):Int)<16))) rfl rfl (L5 rfl am rfl rfl rr) (KO ?_)))
  have bZ:=La (.bool (decide (((i:Nat):Int)<16)))
  refine KH (KK ?_)
  refine Lc bZ (fun ah=>?_) (fun ah=>?_)
  ·replace ah:=of_decide_eq_true ah
   refine Li (KH (KK (Lo (KK (KI (KW rfl rfl rfl am (KJ (iv ((OU b (Oq (Un (c.b) q))) i)) rfl rfl (aAH i KZ rfl bd am (by omega) rfl rr) (KJ (iv ((i:Nat):Int)) rfl rfl (KX rfl rfl rr) (KJ (iv ((OU b (Oq (Un (c.b) q))) i)) rfl rfl (KX rfl rfl rr) (KO ?_))))))))))
   have b7:=La (iv ((i:Nat):Int))
   have b8:=La (iv ((OU b (Oq (Un (c.b) q))) i))
   refine KH (KI (KW rfl rfl rfl b7 (KW rfl rfl rfl b8 (KJ (iv (min ((OU b (Oq (Un (c.b) q))) i) 255)) rfl rfl (QO rfl rfl rfl rfl rr) (KJ (iv (c8M (OU b (Oq (Un c.b q))) i)) rfl rfl (Rn rfl rfl rfl (by unfold c8M;omega) rr) (KJ (.pointer (some ⟨p1,i,none⟩)) rfl rfl (LU i (s:=1) rfl av rfl (by omega) Tryz.underlying69 (by omega) (by kernel_rfl) (by omega) rr) (NQ rfl rfl rfl rfl rfl bg (by omega) (by kernel_rfl) fun cF b9 an=>?_)))))))
   have cd:=bX.all an (aF p9 rfl)
   have ce:=bh.all an (aL ac rfl)
   have cf:=bY.all an (ap ai rfl)
   refine KO ?_
   refine LD (KH (KI (KJ (iv ((i+1:Nat):Int)) rfl rfl (LR rfl am rfl (L2 (by omega) (by omega)) rr) (KJ (iv ((i+1:Nat):Int)) rfl rfl (KQ rfl rfl rr) (KO ?_)))))
   have cg:=La (iv ((i+1:Nat):Int))
   exact KH ⟨(16-(i+1)),by omega,i+1,by omega,rfl,av,aw,bd,be,cg,(bf.trans an (KS.ok (S:=fun _=>False) aD K6)),(b9.next rfl),cd,ce,cf⟩
  ·replace ah:=of_decide_eq_false ah
   refine Mg (Lt (Lt ?_))
   have ci:16=i:=by omega
   subst ci
   have cj:NO bW p1 69 (c8M (OU b (Oq (Un c.b q)))):=(bg.last)
   refine Mh (KH (KK (KI (KJ (LK (c8M (OU b (Oq (Un c.b q))))) rfl rfl (LZ KZ rfl av cj rr) (Lp KZ rfl rfl rfl aw rfl bh fun cG cm cn=>?_)))))
   refine KJ (iv 0) rfl rfl (KX rfl rfl rr) (KO ?_)
   have co:=La (iv 0)
   refine KH (Ld ?_)
   exact L7 be rfl (Mq KZ rfl aw cm) (Lz (v:=iv 0) rfl co) ⟨(by first|rw[hR,hq0]|rw[hR]),(bf.trans cn (KS.ok (S:=fun _=>False) aK K6))⟩
theorem YN(k x y:Int)(c:Ch)(f:FD)(f0 f1 f2:Value)(g:FD)(g0 g1 g2:Value)(h:FD)(h0 h1 h2:Value)(T_f0:Nat->Prop)(T_f1:Nat->Prop)(T_f2:Nat->Prop)(T_g0:Nat->Prop)(T_g1:Nat->Prop)(T_g2:Nat->Prop)(T_h0:Nat->Prop)(T_h1:Nat->Prop)(T_h2:Nat->Prop)(w0:World)(hA:NP w0)(h_f0:L9 w0 T_f0 f0 ((f).p0))(h_f1:L9 w0 T_f1 f1 ((f).p1))(h_f2:L9 w0 T_f2 f2 ((f).p2))(h_g0:L9 w0 T_g0 g0 ((g).p0))(h_g1:L9 w0 T_g1 g1 ((g).p1))(h_g2:L9 w0 T_g2 g2 ((g).p2))(h_h0:L9 w0 T_h0 h0 ((h).p0))(h_h1:L9 w0 T_h1 h1 ((h).p1))(h_h2:L9 w0 T_h2 h2 ((h).p2)) :
  Calls Tryz.prog 75 #[.agg #[.int .i64 ((f).W),.int .i64 ((f).H),f0,f1,f2],.agg #[.int .i64 ((g).W),.int .i64 ((g).H),g0,g1,g2],.agg #[.int .i64 ((h).W),.int .i64 ((h).H),h0,h1,h2],.int .i64 (k),.int .i64 (x),.int .i64 (y),.agg (O1 (c)).toArray] w0 fun e w'=>e = .returned (.tuple #[LK (V9 f g h k x y c),.int .i64 (Tu f g h k x y c)])/\KP (fun _=>False) w0 w':=by
 refine Ls (args:=[.agg #[iv (f.W),iv (f.H),f0,f1,f2],.agg #[iv (g.W),iv (g.H),g0,g1,g2],.agg #[iv (h.W),iv (h.H),h0,h1,h2],iv k,iv x,iv y,.agg (O1 c).toArray]) 82 Tryz.func75 rfl rfl (Nat.le_of_ble_eq_true rfl) ?_
 have g_f0:=KS.refl w0 T_f0
 have g_f1:=KS.refl w0 T_f1
 have g_f2:=KS.refl w0 T_f2
 have g_g0:=KS.refl w0 T_g0
 have g_g1:=KS.refl w0 T_g1
 have g_g2:=KS.refl w0 T_g2
 have g_h0:=KS.refl w0 T_h0
 have g_h1:=KS.refl w0 T_h1
 have g_h2:=KS.refl w0 T_h2
 refine KK (KI (Lx (vs:=[iv (f.W),iv (f.H),f0,f1,f2]) rfl rfl rfl rfl fun p1 w2 B4 g5 k3=>?_))
 obtain⟨bV,bW,bX,bY,bZ,b7,b8,b9,cd⟩:=X9 k3 h_f0 h_f1 h_f2 h_g0 h_g1 h_g2 h_h0 h_h1 h_h2
 refine Lx (vs:=[iv (g.W),iv (g.H),g0,g1,g2]) rfl rfl rfl rfl fun ce fJ cf fK aM=>?_
 obtain⟨cg,ci,cj,cm,cn,co,cq,cr,ct,cu⟩:=Sn aM bV bW bX bY bZ b7 b8 b9 cd B4
 refine Lx (vs:=[iv (h.W),iv (h.H),h0,h1,h2]) rfl rfl rfl rfl fun aN fL cv fM aO=>?_
 obtain⟨cw,cy,cz,cA,cB,cC,cD,cE,cF,cG,cH⟩:=Oa aO cg ci cj cm cn co cq cr ct cu cf
 refine Lx (vs:=(O1 c)) rfl rfl rfl rfl fun ab fN cI fO aP=>?_
 obtain⟨cJ,cK,cL,cM,cN,cO,cP,cQ,cR,cS,cT,cU⟩:=azK aP cw cy cz cA cB cC cD cE cF cG cH cv
 have aQ:=((((KP.refl (fun _=>False) w0).tr k3).tr aM).tr aO).tr aP
 refine L1 rfl rfl rfl KZ.2.2 fun ap fP aR cV aS=>?_
 have aT:=LV (Nat.le_of_eq aR.symm)
 have ac:=KS.new aQ aT
 clear aR aT
 obtain⟨cW,cX,cY,cZ,c5,c6,c7,c9,da,db,dc,dd,aU⟩:=Uo aS cJ cK cL cM cN cO cP cQ cR cS cT cU cI
 have aV:=aQ.tr aS
 refine KJ (iv 0) rfl rfl (KX rfl rfl rr) (KO ?_)
 have aq:=La (iv k)
 have ar:=La (iv x)
 have au:=La (iv y)
 have ae:=La (undef)
 have de:=La (pt p1 0)
 have df:=La (pt ce 0)
 have aW:=La (pt aN 0)
 have aj:=La (pt ab 0)
 have aa:=La (pt ap 0)
 refine KH (VJ (KK (KI (KJ (pt ab 0) rfl rfl (KT (n:=1) rfl aj Tryz.underlying71 rfl (by kernel_rfl) (by decide) rfl rr) (KJ (iv (c.m)) rfl rfl (KV rfl rfl Tryz.underlying3 aU rfl rfl rr) (LY rfl rfl rfl rfl rfl (fun _ _=>by kernel_rfl) (Lm rfl LS) (Vn (c.m)  _ (hA.all aV)  ) fun fQ aX=>?_))))))
 obtain⟨dg,dh,di,dj,dk,dl,aY,aZ,a8,dm,dn,a9,ba,bb⟩:=OB aX cW cX cY cZ c5 c6 c7 c9 da db dc dd aU cV
 have bc:=aV.tr aX
 refine KJ (.tuple #[.bool (NF (c.m)),.bool (Nm (c.m))]) rfl rfl (KQ rfl rfl rr) (KJ (.bool (NF (c.m))) rfl rfl (LM rfl rfl rfl rr) (KJ (.bool (Nm (c.m))) rfl rfl (LM rfl rfl rfl rr) (KJ (.bool (NF (c.m))) rfl rfl (KX rfl rfl rr) (KJ (.bool (Nm (c.m))) rfl rfl (KX rfl rfl rr) (KO ?_)))))
 have af:=La (.bool (NF (c.m)))
 have ak:=La (.bool (Nm (c.m)))
 refine KH (KK (KI (L1 rfl rfl rfl KZ.2.2 fun bd fR be bf bg=>?_)))
 have bh:=LV (Nat.le_of_eq be.symm)
 obtain⟨dp,dq,dr,dt,du,dv⟩:=Vk bh aY aZ a8 a9 ba bb
 clear be
 obtain⟨dw,dy,dz,dA,dB,dC,dD,dE,dF,dG,dH,dI,dJ,bi⟩:=OB bg dg dh di dj dk dl aY aZ a8 dm dn a9 ba bb
 have bj:=bc.tr bg
 refine L1 rfl rfl rfl KZ.2.2 fun bl bm bn dK az=>?_
 have aA:=LV (Nat.le_of_eq bn.symm)
 have bo:=KS.new bj aA
 obtain⟨bp,bq⟩:=S3 aA bi bf
 clear bn aA
 obtain⟨dL,dM,dN,dO,dP,dQ,dR,dS,dT,dU,dV,dW,aB,bt⟩:=OB az dw dy dz dA dB dC dD dE dF dG dH dI dJ bi
 have dX:=bf.all az id
 have bu:=bj.tr az
 refine KO ?_
 have aC:=La (pt bd 0)
 have av:=La (pt bl 0)
 refine KH (KK (KI (KJ (iv 120) rfl rfl (KX rfl rfl rr) (KO ?_))))
 have dY:=La (iv 120)
 refine KH (KK (KK ?_))
 by_cases bv:0<=(c.m)/\(c.m)<7
 ·skip
  refine KI (KJ (pt ab 0) rfl rfl (KT (n:=1) rfl aj Tryz.underlying71 rfl (by kernel_rfl) (by decide) rfl rr) (KJ (iv (c.m)) rfl rfl (KV rfl rfl Tryz.underlying3 aB rfl rfl rr) (Ly (R:=fun v_ w_=>v_ = .bool true/\KP (fun _=>False) bm w_) rfl rfl (LE rfl rfl rfl (fun _ _=>by kernel_rfl) (K4 _) (Lm rfl LS) (Qk (c.m)  _   ) (fun e_ w_ h_=>⟨_,h_.1,(congrArg Value.bool (decide_eq_true bv)),h_.2⟩)) ?_)))
  rintro _ fS ⟨rfl,aD⟩
  obtain⟨dZ,d8,d9,eb,ee,eh,bz,bA,bB,ei,ek,bC,aw,aE⟩:=OB aD dL dM dN dO dP dQ dR dS dT dU dV dW aB bt
  obtain⟨en,bD⟩:=NL aD dX dK
  have aF:=bu.tr aD
  refine KJ (.bool false) rfl rfl (LW rfl rfl rfl rr) (KO ?_)
  have eo:=La (.bool false)
  refine KH ?_
  refine Lc (t:=false) eo (fun e=>by cases e) (fun _=>?_)
  refine Li (KH (KK (KK ?_)))
  have hm7:0<=c.m/\c.m<7:=by first|assumption|(apply Decidable.byContradiction;assumption)
  refine KI (KW rfl rfl rfl af (KO ?_))
  have ep:=La (.bool (NF (c.m)))
  refine KH ?_
  refine Lc ep (fun ah=>?_) (fun ah=>?_)
  ·skip
   refine KK (KI (KJ (.agg #[iv (g.W),iv (g.H),g0,g1,g2]) rfl rfl (KU K3 rfl df ek rr) (KW rfl rfl rfl aq (KW rfl rfl rfl ar (KW rfl rfl rfl au (KJ (pt ab 1) rfl rfl (KT (n:=2) rfl aj Tryz.underlying71 rfl (by kernel_rfl) (by decide) rfl rr) (KJ (.agg #[iv (c.px),iv (c.py)]) rfl rfl (O8 (n:=2) LP rfl rfl aw (Nat.le_of_ble_eq_true rfl) rfl rr) (LY rfl rfl rfl rfl rfl (fun _ _=>by kernel_rfl) (Lm rfl (Lm rfl (Lm rfl (Lm rfl (Lm rfl LS))))) (Sy k x y (c.px) (c.py) g g0 g1 g2 T_g0 T_g1 T_g2 _  eb ee eh ) fun fT bE=>?_))))))))
   obtain⟨er,et,eu,ew,ex,ey,ez,eA⟩:=Xj bE bz bA bB bC aw aE en bD
   refine KJ (.tuple #[LK (Uf g k x y (c.px) (c.py)),iv (OX g k x y (c.px) (c.py))]) rfl rfl (KQ rfl rfl rr) (KJ (LK (Uf g k x y (c.px) (c.py))) rfl rfl (LM rfl rfl rfl rr) (KJ (iv (OX g k x y (c.px) (c.py))) rfl rfl (LM rfl rfl rfl rr) (Lp KZ rfl rfl rfl aC rfl ez fun fU bF ai=>?_)))
   have eB:=er.all ai dp.symm
   have eC:=et.all ai dq.symm
   have eD:=eu.all ai dr.symm
   have eE:=ew.all ai (dt.symm aN rfl)
   have eF:=ex.all ai (du.symm ab rfl)
   have aG:=ey.all ai (dv.symm ap rfl)
   have eG:=eA.all ai (bq bl rfl)
   have aH:=(aF.tr bE).trans ai (KS.ok (S:=fun _=>False) (KS.new bc bh) K6)
   refine KJ (iv (OX g k x y (c.px) (c.py))) rfl rfl (KX rfl rfl rr) (KO ?_)
   have bG:=La (iv (OX g k x y (c.px) (c.py)))
   refine KH (KK (KI (KW rfl rfl rfl bG (KJ (.bool (decide ((OX g k x y (c.px) (c.py))≠0))) rfl rfl (Mc rfl rfl rfl rfl rr) (KO ?_)))))
   have eH:=La (.bool (decide ((OX g k x y (c.px) (c.py))≠0)))
   refine KH ?_
   refine Lc eH (fun am=>?_) (fun am=>?_)
   ·replace am:=of_decide_eq_true am
    refine Nx (Ml ?_)
    refine MP ⟨_,rfl,?_⟩
    refine KK (Li (KH (KK ?_)))
    first|have hR:=WH (f:=f) (p:=g) (n:=h) (k:=k) (x:=x) (y:=y) (c:=c) (by omega)|have hR:=Tm (f:=f) (p:=g) (n:=h) (k:=k) (x:=x) (y:=y) (c:=c) (QK (by assumption)) (by assumption)|have hR:=To (f:=f) (p:=g) (n:=h) (k:=k) (x:=x) (y:=y) (c:=c) (by have a1:=TF (m:=c.m) (by assumption);have a2:=QM (m:=c.m) (by assumption);omega) (by assumption)|have hR:=Tc (f:=f) (p:=g) (n:=h) (k:=k) (x:=x) (y:=y) (c:=c) (by have a1:=QK (m:=c.m) (by assumption);have a2:=QM (m:=c.m) (by assumption);omega) (by first|assumption|(apply Decidable.byContradiction;assumption)) (by assumption)
    refine KI (KJ (LK (fun _=>0)) rfl rfl (Mz (cells:=(L8 16 (fun _=>0)).toArray) rfl (by kernel_rfl) rfl rr) (KW rfl rfl rfl bG (Lp KZ rfl rfl rfl aa rfl aG fun fV eI eJ=>?_)))
    refine KJ (iv (OX g k x y (c.px) (c.py))) rfl rfl (KX rfl rfl rr) (KO ?_)
    have eK:=La (iv (OX g k x y (c.px) (c.py)))
    refine KH (Ld (M5 ?_))
    exact L7 ae rfl (Mq KZ rfl aa eI) (Lz (v:=iv (OX g k x y (c.px) (c.py))) rfl eK) ⟨(by first|rw[hR.1,hR.2,he0]|rw[hR.1,hR.2]),(aH.trans eJ (KS.ok (S:=fun _=>False) ac K6))⟩
   ·replace am:=of_decide_eq_false am
    refine Li (KH (KK (KK (KI (KW rfl rfl rfl ak (KO ?_))))))
    have eL:=La (.bool (Nm (c.m)))
    refine KH ?_
    refine Lc eL (fun aI=>?_) (fun aI=>?_)
    ·skip
     refine KK (KI (KJ (.agg #[iv (h.W),iv (h.H),h0,h1,h2]) rfl rfl (KU K3 rfl aW eE rr) (KW rfl rfl rfl aq (KW rfl rfl rfl ar (KW rfl rfl rfl au (KJ (pt ab 3) rfl rfl (KT (n:=2) rfl aj Tryz.underlying71 rfl (by kernel_rfl) (by decide) rfl rr) (KJ (.agg #[iv (c.nx),iv (c.ny)]) rfl rfl (O8 (n:=2) LP rfl rfl eF (Nat.le_of_ble_eq_true rfl) rfl rr) (LY rfl rfl rfl rfl rfl (fun _ _=>by kernel_rfl) (Lm rfl (Lm rfl (Lm rfl (Lm rfl (Lm rfl LS))))) (Sy k x y (c.nx) (c.ny) h h0 h1 h2 T_h0 T_h1 T_h2 _  eB eC eD ) fun fW bH=>?_))))))))
     obtain⟨eM,eN,eO⟩:=ND bH aG bF eG
     refine KJ (.tuple #[LK (Uf h k x y (c.nx) (c.ny)),iv (OX h k x y (c.nx) (c.ny))]) rfl rfl (KQ rfl rfl rr) (KJ (LK (Uf h k x y (c.nx) (c.ny))) rfl rfl (LM rfl rfl rfl rr) (KJ (iv (OX h k x y (c.nx) (c.ny))) rfl rfl (LM rfl rfl rfl rr) (Lp KZ rfl rfl rfl av rfl eO fun fX eP aJ=>?_)))
     have bI:=eM.all aJ (bp.symm ap rfl)
     have eQ:=eN.all aJ (bq.symm bd rfl)
     have bJ:=(aH.tr bH).trans aJ (KS.ok (S:=fun _=>False) bo K6)
     refine KJ (iv (OX h k x y (c.nx) (c.ny))) rfl rfl (KX rfl rfl rr) (KO ?_)
     have bK:=La (iv (OX h k x y (c.nx) (c.ny)))
     refine KH (KK (KI (KW rfl rfl rfl bK (KJ (.bool (decide ((OX h k x y (c.nx) (c.ny))≠0))) rfl rfl (Mc rfl rfl rfl rfl rr) (KO ?_)))))
     have eR:=La (.bool (decide ((OX h k x y (c.nx) (c.ny))≠0)))
     refine KH ?_
     refine Lc eR (fun an=>?_) (fun an=>?_)
     ·replace an:=of_decide_eq_true an
      refine Nx (Ml ?_)
      refine MP ⟨_,rfl,?_⟩
      refine KK (Li (KH (KK ?_)))
      first|have hR:=WH (f:=f) (p:=g) (n:=h) (k:=k) (x:=x) (y:=y) (c:=c) (by omega)|have hR:=Tm (f:=f) (p:=g) (n:=h) (k:=k) (x:=x) (y:=y) (c:=c) (QK (by assumption)) (by assumption)|have hR:=To (f:=f) (p:=g) (n:=h) (k:=k) (x:=x) (y:=y) (c:=c) (by have a1:=TF (m:=c.m) (by assumption);have a2:=QM (m:=c.m) (by assumption);omega) (by assumption)|have hR:=Tc (f:=f) (p:=g) (n:=h) (k:=k) (x:=x) (y:=y) (c:=c) (by have a1:=QK (m:=c.m) (by assumption);have a2:=QM (m:=c.m) (by assumption);omega) (by first|assumption|(apply Decidable.byContradiction;assumption)) (by assumption)
      refine KI (KJ (LK (fun _=>0)) rfl rfl (Mz (cells:=(L8 16 (fun _=>0)).toArray) rfl (by kernel_rfl) rfl rr) (KW rfl rfl rfl bK (Lp KZ rfl rfl rfl aa rfl bI fun fY eS eT=>?_)))
      refine KJ (iv (OX h k x y (c.nx) (c.ny))) rfl rfl (KX rfl rfl rr) (KO ?_)
      have eU:=La (iv (OX h k x y (c.nx) (c.ny)))
      refine KH (Ld (M5 ?_))
      exact L7 ae rfl (Mq KZ rfl aa eS) (Lz (v:=iv (OX h k x y (c.nx) (c.ny))) rfl eU) ⟨(by first|rw[hR.1,hR.2,he0]|rw[hR.1,hR.2]),(bJ.trans eT (KS.ok (S:=fun _=>False) ac K6))⟩
     ·replace an:=of_decide_eq_false an
      refine Li (KH (KK (Lo (KK (KI (KJ (.bool true) rfl rfl (KQ rfl (Eq.trans af (congrArg Value.bool ah)) rr) (KJ (.bool true) rfl rfl (KQ rfl rfl rr) (KR (.bool true) 1 true 59 rfl rfl rfl rfl rfl (KQ rfl (Eq.trans ak (congrArg Value.bool aI)) rr) (KJ (.bool true) rfl rfl (Lg rfl rfl rfl rr) (KJ (.bool true) rfl rfl (KX rfl rfl rr) (KO ?_)))))))))))
      have eV:=La (.bool true)
      refine KH ?_
      refine Lc (t:=true) eV (fun _=>?_) (fun e=>by cases e)
      refine KK ?_
      have hR:=ZH (f:=f) (p:=g) (n:=h) (k:=k) (x:=x) (y:=y) (c:=c) (by have a1:=QK (m:=c.m) (by assumption);have a2:=QM (m:=c.m) (by assumption);omega) (by first|assumption|(apply Decidable.byContradiction;assumption)) (by first|assumption|(apply Decidable.byContradiction;assumption))
      refine KI (KJ (LK (Uf g k x y (c.px) (c.py))) rfl rfl (LZ KZ rfl aC eQ rr) (KJ (LK (Uf h k x y (c.nx) (c.ny))) rfl rfl (LZ KZ rfl av eP rr) (LY rfl rfl rfl rfl rfl (fun _ _=>by kernel_rfl) (Lm rfl (Lm rfl LS)) (aBv (Uf g k x y (c.px) (c.py)) (Uf h k x y (c.nx) (c.ny))  _   ) fun fZ bL=>?_)))
      have eW:=bI.all bL id
      refine Lp KZ rfl rfl rfl aa rfl eW fun f5 eX eY=>?_
      refine KJ (iv 0) rfl rfl (KX rfl rfl rr) (KO ?_)
      have eZ:=La (iv 0)
      refine KH (Ld (NV (Lq (O4 ?_))))
      exact L7 ae rfl (Mq KZ rfl aa eX) (Lz (v:=iv 0) rfl eZ) ⟨(by first|rw[hR.1,hR.2,he0]|rw[hR.1,hR.2]),((bJ.tr bL).trans eY (KS.ok (S:=fun _=>False) ac K6))⟩
    ·skip
     refine Li (KH (KK (Lo (KK (KI (KJ (.bool true) rfl rfl (KQ rfl (Eq.trans af (congrArg Value.bool ah)) rr) (KJ (.bool true) rfl rfl (KQ rfl rfl rr) (KR (.bool false) 1 true 59 rfl rfl rfl rfl rfl (KQ rfl (Eq.trans ak (congrArg Value.bool aI)) rr) (KJ (.bool false) rfl rfl (Lg rfl rfl rfl rr) (KJ (.bool false) rfl rfl (KX rfl rfl rr) (KO ?_)))))))))))
     have e6:=La (.bool false)
     refine KH ?_
     refine Lc (t:=false) e6 (fun e=>by cases e) (fun _=>?_)
     refine KK (KI (KJ (.bool true) rfl rfl (KQ rfl (Eq.trans af (congrArg Value.bool ah)) rr) (KJ (.bool true) rfl rfl (KX rfl rfl rr) (KO ?_))))
     have e7:=La (.bool true)
     refine KH ?_
     refine Lc (t:=true) e7 (fun _=>?_) (fun e=>by cases e)
     refine KK ?_
     have hR:=UN (f:=f) (p:=g) (n:=h) (k:=k) (x:=x) (y:=y) (c:=c) (by have a1:=QK (m:=c.m) (by assumption);have a2:=aAP (m:=c.m) (by assumption);omega)
     have he0:=show OX g k x y c.px c.py=0 from (by first|assumption|(apply Decidable.byContradiction;assumption))
     refine KI (KJ (LK (Uf g k x y (c.px) (c.py))) rfl rfl (LZ KZ rfl aC bF rr) (Lp KZ rfl rfl rfl aa rfl aG fun f6 e8 e9=>?_))
     refine KJ (iv 0) rfl rfl (KX rfl rfl rr) (KO ?_)
     have fa:=La (iv 0)
     refine KH (Ld (NV (Lq (O4 ?_))))
     exact L7 ae rfl (Mq KZ rfl aa e8) (Lz (v:=iv 0) rfl fa) ⟨(by first|rw[hR.1,hR.2,he0]|rw[hR.1,hR.2]),(aH.trans e9 (KS.ok (S:=fun _=>False) ac K6))⟩
  ·skip
   refine Li (KH (KK (KK (KI (KW rfl rfl rfl ak (KO ?_))))))
   have fb:=La (.bool (Nm (c.m)))
   refine KH ?_
   refine Lc fb (fun aK=>?_) (fun aK=>?_)
   ·skip
    refine KK (KI (KJ (.agg #[iv (h.W),iv (h.H),h0,h1,h2]) rfl rfl (KU K3 rfl aW bC rr) (KW rfl rfl rfl aq (KW rfl rfl rfl ar (KW rfl rfl rfl au (KJ (pt ab 3) rfl rfl (KT (n:=2) rfl aj Tryz.underlying71 rfl (by kernel_rfl) (by decide) rfl rr) (KJ (.agg #[iv (c.nx),iv (c.ny)]) rfl rfl (O8 (n:=2) LP rfl rfl aw (Nat.le_of_ble_eq_true rfl) rfl rr) (LY rfl rfl rfl rfl rfl (fun _ _=>by kernel_rfl) (Lm rfl (Lm rfl (Lm rfl (Lm rfl (Lm rfl LS))))) (Sy k x y (c.nx) (c.ny) h h0 h1 h2 T_h0 T_h1 T_h2 _  bz bA bB ) fun f7 bM=>?_))))))))
    obtain⟨fc,fd⟩:=NL bM aE bD
    refine KJ (.tuple #[LK (Uf h k x y (c.nx) (c.ny)),iv (OX h k x y (c.nx) (c.ny))]) rfl rfl (KQ rfl rfl rr) (KJ (LK (Uf h k x y (c.nx) (c.ny))) rfl rfl (LM rfl rfl rfl rr) (KJ (iv (OX h k x y (c.nx) (c.ny))) rfl rfl (LM rfl rfl rfl rr) (Lp KZ rfl rfl rfl av rfl fd fun f8 fe bN=>?_)))
    have bO:=fc.all bN (bp.symm ap rfl)
    have bP:=(aF.tr bM).trans bN (KS.ok (S:=fun _=>False) bo K6)
    refine KJ (iv (OX h k x y (c.nx) (c.ny))) rfl rfl (KX rfl rfl rr) (KO ?_)
    have bQ:=La (iv (OX h k x y (c.nx) (c.ny)))
    refine KH (KK (KI (KW rfl rfl rfl bQ (KJ (.bool (decide ((OX h k x y (c.nx) (c.ny))≠0))) rfl rfl (Mc rfl rfl rfl rfl rr) (KO ?_)))))
    have ff:=La (.bool (decide ((OX h k x y (c.nx) (c.ny))≠0)))
    refine KH ?_
    refine Lc ff (fun ao=>?_) (fun ao=>?_)
    ·replace ao:=of_decide_eq_true ao
     refine Nx (Ml ?_)
     refine MP ⟨_,rfl,?_⟩
     refine KK (Li (KH (KK ?_)))
     first|have hR:=WH (f:=f) (p:=g) (n:=h) (k:=k) (x:=x) (y:=y) (c:=c) (by omega)|have hR:=Tm (f:=f) (p:=g) (n:=h) (k:=k) (x:=x) (y:=y) (c:=c) (QK (by assumption)) (by assumption)|have hR:=To (f:=f) (p:=g) (n:=h) (k:=k) (x:=x) (y:=y) (c:=c) (by have a1:=TF (m:=c.m) (by assumption);have a2:=QM (m:=c.m) (by assumption);omega) (by assumption)|have hR:=Tc (f:=f) (p:=g) (n:=h) (k:=k) (x:=x) (y:=y) (c:=c) (by have a1:=QK (m:=c.m) (by assumption);have a2:=QM (m:=c.m) (by assumption);omega) (by first|assumption|(apply Decidable.byContradiction;assumption)) (by assumption)
     refine KI (KJ (LK (fun _=>0)) rfl rfl (Mz (cells:=(L8 16 (fun _=>0)).toArray) rfl (by kernel_rfl) rfl rr) (KW rfl rfl rfl bQ (Lp KZ rfl rfl rfl aa rfl bO fun f9 fg fh=>?_)))
     refine KJ (iv (OX h k x y (c.nx) (c.ny))) rfl rfl (KX rfl rfl rr) (KO ?_)
     have fi:=La (iv (OX h k x y (c.nx) (c.ny)))
     refine KH (Ld (M5 ?_))
     exact L7 ae rfl (Mq KZ rfl aa fg) (Lz (v:=iv (OX h k x y (c.nx) (c.ny))) rfl fi) ⟨(by first|rw[hR.1,hR.2,he0]|rw[hR.1,hR.2]),(bP.trans fh (KS.ok (S:=fun _=>False) ac K6))⟩
    ·replace ao:=of_decide_eq_false ao
     refine Li (KH (KK (Lo (KK (KI (KJ (.bool false) rfl rfl (KQ rfl (Eq.trans af (congrArg Value.bool ah)) rr) (KJ (.bool false) rfl rfl (KQ rfl rfl rr) (KL 1 true 59 rfl rfl rfl (Or.inl rfl) rfl (KJ (.bool false) rfl rfl (Lb rfl rfl rfl rr) (KJ (.bool false) rfl rfl (KX rfl rfl rr) (KO ?_)))))))))))
     have fj:=La (.bool false)
     refine KH ?_
     refine Lc (t:=false) fj (fun e=>by cases e) (fun _=>?_)
     refine KK (KI (KJ (.bool false) rfl rfl (KQ rfl (Eq.trans af (congrArg Value.bool ah)) rr) (KJ (.bool false) rfl rfl (KX rfl rfl rr) (KO ?_))))
     have fk:=La (.bool false)
     refine KH ?_
     refine Lc (t:=false) fk (fun e=>by cases e) (fun _=>?_)
     refine KK (KI (KJ (.bool true) rfl rfl (KQ rfl (Eq.trans ak (congrArg Value.bool aK)) rr) (KJ (.bool true) rfl rfl (KX rfl rfl rr) (KO ?_))))
     have fm:=La (.bool true)
     refine KH ?_
     refine Lc (t:=true) fm (fun _=>?_) (fun e=>by cases e)
     refine KK ?_
     have hR:=UB (f:=f) (p:=g) (n:=h) (k:=k) (x:=x) (y:=y) (c:=c) (by have a1:=TF (m:=c.m) (by assumption);have a2:=QM (m:=c.m) (by assumption);omega)
     have he0:=show OX h k x y c.nx c.ny=0 from (by first|assumption|(apply Decidable.byContradiction;assumption))
     refine KI (KJ (LK (Uf h k x y (c.nx) (c.ny))) rfl rfl (LZ KZ rfl av fe rr) (Lp KZ rfl rfl rfl aa rfl bO fun ga fo fp=>?_))
     refine KJ (iv 0) rfl rfl (KX rfl rfl rr) (KO ?_)
     have fq:=La (iv 0)
     refine KH (Ld (NV (Lq (O4 ?_))))
     exact L7 ae rfl (Mq KZ rfl aa fo) (Lz (v:=iv 0) rfl fq) ⟨(by first|rw[hR.1,hR.2,he0]|rw[hR.1,hR.2]),(bP.trans fp (KS.ok (S:=fun _=>False) ac K6))⟩
   ·skip
    refine Li (KH (KK (Lo (KK (KI (KJ (.bool false) rfl rfl (KQ rfl (Eq.trans af (congrArg Value.bool ah)) rr) (KJ (.bool false) rfl rfl (KQ rfl rfl rr) (KL 1 true 59 rfl rfl rfl (Or.inl rfl) rfl (KJ (.bool false) rfl rfl (Lb rfl rfl rfl rr) (KJ (.bool false) rfl rfl (KX rfl rfl rr) (KO ?_)))))))))))
    have ft:=La (.bool false)
    refine KH ?_
    refine Lc (t:=false) ft (fun e=>by cases e) (fun _=>?_)
    refine KK (KI (KJ (.bool false) rfl rfl (KQ rfl (Eq.trans af (congrArg Value.bool ah)) rr) (KJ (.bool false) rfl rfl (KX rfl rfl rr) (KO ?_))))
    have fu:=La (.bool false)
    refine KH ?_
    refine Lc (t:=false) fu (fun e=>by cases e) (fun _=>?_)
    refine KK (KI (KJ (.bool false) rfl rfl (KQ rfl (Eq.trans ak (congrArg Value.bool aK)) rr) (KJ (.bool false) rfl rfl (KX rfl rfl rr) (KO ?_))))
    have fw:=La (.bool false)
    refine KH ?_
    refine Lc (t:=false) fw (fun e=>by cases e) (fun _=>?_)
    refine Li (LD (KH (KK (KK ?_))))
    have hR:=aAs (f:=f) (p:=g) (n:=h) (k:=k) (x:=x) (y:=y) (c:=c) (by have a1:=TF (m:=c.m) (by assumption);have a2:=aAP (m:=c.m) (by assumption);omega)
    refine KI (KJ (.agg #[iv (f.W),iv (f.H),f0,f1,f2]) rfl rfl (KU K3 rfl de ei rr) (KW rfl rfl rfl aq (KW rfl rfl rfl ar (KW rfl rfl rfl au (KJ (pt ab 0) rfl rfl (KT (n:=1) rfl aj Tryz.underlying71 rfl (by kernel_rfl) (by decide) rfl rr) (KJ (iv (c.m)) rfl rfl (KV rfl rfl Tryz.underlying3 aw rfl rfl rr) (LY rfl rfl rfl rfl rfl (fun _ _=>by kernel_rfl) (Lm rfl (Lm rfl (Lm rfl (Lm rfl (Lm rfl LS))))) (YO k x y (c.m) f f0 f1 f2 T_f0 T_f1 T_f2 _  dZ d8 d9 ) fun gb bR=>?_)))))))
    have fx:=aE.all bR id
    refine KJ (LK (US f k x y (c.m))) rfl rfl (LM rfl rfl rfl rr) (KJ (iv (RA f k x y (c.m))) rfl rfl (LM rfl rfl rfl rr) (Lp KZ rfl rfl rfl aa rfl fx fun gc fy fA=>?_))
    refine KJ (iv (RA f k x y (c.m))) rfl rfl (KX rfl rfl rr) (KO ?_)
    have fB:=La (iv (RA f k x y (c.m)))
    refine KH (Ld (Lq (O4 ?_)))
    exact L7 ae rfl (Mq KZ rfl aa fy) (Lz (v:=iv (RA f k x y (c.m))) rfl fB) ⟨(by first|rw[hR.1,hR.2,he0]|rw[hR.1,hR.2]),((aF.tr bR).trans fA (KS.ok (S:=fun _=>False) ac K6))⟩
 ·skip
  refine KI (KJ (pt ab 0) rfl rfl (KT (n:=1) rfl aj Tryz.underlying71 rfl (by kernel_rfl) (by decide) rfl rr) (KJ (iv (c.m)) rfl rfl (KV rfl rfl Tryz.underlying3 aB rfl rfl rr) (Ly (R:=fun v_ w_=>v_ = .bool false/\KP (fun _=>False) bm w_) rfl rfl (LE rfl rfl rfl (fun _ _=>by kernel_rfl) (K4 _) (Lm rfl LS) (Qk (c.m)  _   ) (fun e_ w_ h_=>⟨_,h_.1,(congrArg Value.bool (decide_eq_false bv)),h_.2⟩)) ?_)))
  rintro _ gd ⟨rfl,bS⟩
  have fC:=bt.all bS id
  refine KJ (.bool true) rfl rfl (LW rfl rfl rfl rr) (KO ?_)
  have fD:=La (.bool true)
  refine KH ?_
  refine Lc (t:=true) fD (fun _=>?_) (fun e=>by cases e)
  refine Nx (Ml ?_)
  refine MP ⟨_,rfl,?_⟩
  refine KK (Li (KH (KK ?_)))
  first|have hR:=WH (f:=f) (p:=g) (n:=h) (k:=k) (x:=x) (y:=y) (c:=c) (by omega)|have hR:=Tm (f:=f) (p:=g) (n:=h) (k:=k) (x:=x) (y:=y) (c:=c) (QK (by assumption)) (by assumption)|have hR:=To (f:=f) (p:=g) (n:=h) (k:=k) (x:=x) (y:=y) (c:=c) (by have a1:=TF (m:=c.m) (by assumption);have a2:=QM (m:=c.m) (by assumption);omega) (by assumption)|have hR:=Tc (f:=f) (p:=g) (n:=h) (k:=k) (x:=x) (y:=y) (c:=c) (by have a1:=QK (m:=c.m) (by assumption);have a2:=QM (m:=c.m) (by assumption);omega) (by first|assumption|(apply Decidable.byContradiction;assumption)) (by assumption)
  refine KI (KJ (LK (fun _=>0)) rfl rfl (Mz (cells:=(L8 16 (fun _=>0)).toArray) rfl (by kernel_rfl) rfl rr) (KW rfl rfl rfl dY (Lp KZ rfl rfl rfl aa rfl fC fun ge fE fF=>?_)))
  refine KJ (iv 120) rfl rfl (KX rfl rfl rr) (KO ?_)
  have fG:=La (iv 120)
  refine KH (Ld (M5 ?_))
  exact L7 ae rfl (Mq KZ rfl aa fE) (Lz (v:=iv 120) rfl fG) ⟨(by first|rw[hR.1,hR.2,he0]|rw[hR.1,hR.2]),((bu.tr bS).trans fF (KS.ok (S:=fun _=>False) ac K6))⟩
theorem az9(l:List Nat)(n:Int)(s:Option Nat):0<=(Lr (LB l n) s).1:=by
 cases s with
 | none=>simp[Lr]
 | some a =>
  cases h:MB l a with
  | none=>simp[Lr,LB,h]
  | some p =>
   obtain⟨v,a'⟩:=p
   have hb:=QV l a v a' h
   by_cases hv:n<v
   ·simp[Lr,LB,h,hv]
   ·simp[Lr,LB,h,hv];exact hb.1
theorem PY{l:List Nat}{k ax ay bx yy m:Int}{st s1:Option Nat}(hm:m=(Lr (LB l 6) st).1)(hs:s1=(Lr (LB l 6) st).2)(h:s1.isNone=true\/¬ (0<=m/\m<=NX k)):∃ s,Sk l k ax ay bx yy st=(ch0,120,s):=by
 have h0:=az9 l 6 st
 have e:=Ue (l:=l) (UT k) st
 rw[if_pos (by rw[← hm,← hs];rw[← hm] at h0;rcases h with h|h;exact .inl h;exact .inr (by omega))] at e
 exact⟨none,by unfold Sk;rw[e];unfold rd1;exact if_pos rfl⟩
theorem aA7{l:List Nat}{k ax ay bx yy m:Int}{st s1:Option Nat}(hm:m=(Lr (LB l 6) st).1)(hs:s1=(Lr (LB l 6) st).2)(h1:s1.isNone=false)(h2:0<=m/\m<=NX k):Sk l k ax ay bx yy st=Ym l m bx yy (stV (NF m) l ax ay s1):=by
 have e:=Ue (l:=l) (UT k) st
 rw[if_neg (by rw[← hm,← hs,h1];rintro (h|h);cases h;omega)] at e
 unfold Sk;rw[e];unfold rd1
 rw[if_neg (by rw[← hs,h1];exact Bool.false_ne_true),← hm,← hs]
theorem aBp(p:Nat)(l:List Nat)(st:Option Nat)(k ax ay bx yy:Int)(T_r:Nat->Prop)(w0:World)(hA:NP w0)(hO:Oo w0)(hG:∀ i,T_r i->5<=i)(h_r:Ps w0 T_r p (l) (st)) :
  Calls Tryz.prog 62 #[.pointer (some ⟨p,0,none⟩),.int .i64 (k),.agg #[.int .i64 (ax),.int .i64 (ay)],.agg #[.int .i64 (bx),.int .i64 (yy)]] w0 fun e w'=>∃ (T_r':Nat->Prop),e = .returned (.tuple #[.agg (O1 ((Sk l k ax ay bx yy st).1)).toArray,.int .i64 ((Sk l k ax ay bx yy st).2.1)])/\KP (T_r) w0 w'/\(Ps w' T_r' p (l) (MW l k ax ay bx yy st)/\KS w0 T_r T_r'):=by
 refine Ls (args:=[pt p 0,iv k,.agg #[iv ax,iv ay],.agg #[iv bx,iv yy]]) 68 Tryz.func62 rfl rfl (Nat.le_of_ble_eq_true rfl) ?_
 obtain⟨m,hm⟩:∃ m,m=(Lr (LB l 6) st).1:=⟨_,rfl⟩
 obtain⟨s1,hs1⟩:∃ s,s=(Lr (LB l 6) st).2:=⟨_,rfl⟩
 have g_r:=KS.refl w0 T_r
 refine KK (KI (Lx (vs:=[iv ax,iv ay]) rfl rfl rfl rfl fun p1 w2 B4 g5 k3=>?_))
 have cy:=KM.new g5 h_r.live
 have B8:=h_r.all k3 KM.none
 refine Lx (vs:=[iv bx,iv yy]) rfl rfl rfl rfl fun ar kP fh fi cA=>?_
 have cB:=KM.new fi B8.live
 obtain⟨cC,fj⟩:=NL cA B8 B4
 have cD:=((KP.refl T_r w0).tr k3).tr cA
 refine LI (n:=21) (vs:=(Oh 0 0 0 0 0 (fun _=>(0:Int)))) rfl rfl rfl (by kernel_rfl) fun ac kQ cE cF cG=>?_
 have an:=KS.new cD cF
 have cH:=KM.new cF cC.live
 obtain⟨fk,cI,cJ⟩:=ND cG cC fj fh
 have cK:=cD.tr cG
 refine KJ (iv 0) rfl rfl (KX rfl rfl rr) (KO ?_)
 have aE:=La (pt p 0)
 have cL:=La (iv k)
 have ao:=La (undef)
 have fm:=La (pt p1 0)
 have cM:=La (pt ar 0)
 have af:=La (pt ac 0)
 refine KH (VJ (KK (KK (KI (KW rfl rfl rfl aE (KJ (.bool false) rfl rfl (Rb rfl rfl rfl Tryz.underlying54 rr) (KO ?_)))))))
 have fo:=La (.bool false)
 refine KH ?_
 refine Lc (t:=false) fo (fun e=>by cases e) (fun _=>?_)
 refine Li (KH (KK ?_))
 obtain⟨g,a,b,hf,hT,hok,hp,hg,hap⟩:=azA fk
 have fp:KS w0 T_r (Lh p):=fun i h=>g_r i ((fun i h=>(hT i).2 (Or.inl h)) i h)
 have fq:KM (Lh p) (Lh p1):=fun i h=>cy.symm i ((fun i h=>(hT i).2 (Or.inl h)) i h)
 have ft:KM (Lh p) (Lh ar):=fun i h=>cB.symm i ((fun i h=>(hT i).2 (Or.inl h)) i h)
 have fu:KM (Lh p) (Lh ac):=fun i h=>cH.symm i ((fun i h=>(hT i).2 (Or.inl h)) i h)
 have fw:KS w0 T_r (Lh g):=fun i h=>g_r i ((fun i h=>(hT i).2 (Or.inr h)) i h)
 have fx:KM (Lh g) (Lh p1):=fun i h=>cy.symm i ((fun i h=>(hT i).2 (Or.inr h)) i h)
 have fy:KM (Lh g) (Lh ar):=fun i h=>cB.symm i ((fun i h=>(hT i).2 (Or.inr h)) i h)
 have fA:KM (Lh g) (Lh ac):=fun i h=>cH.symm i ((fun i h=>(hT i).2 (Or.inr h)) i h)
 have fB:KM (Lh p) (Lh g):=hap
 refine KI (KW rfl rfl rfl aE (KJ (pt p 0) rfl rfl (Om rfl rfl rr) (KJ (.agg #[.slice (some ⟨g,0,none⟩) l.length l.length,iv ((a:Nat):Int),.bool b]) rfl rfl (KU MM rfl rfl hp rr) (LI (n:=3) (vs:=[.slice none 0 0,iv ((0:Nat):Int),.bool false]) rfl rfl rfl (by kernel_rfl) fun ae kR fC cN cO=>?_))))
 have cP:=KS.new cK cN
 obtain⟨cQ,cR,cS,cT,cU⟩:=ayR cN cI cJ cE hp hg
 obtain⟨fD,fE,fF,fG,fH⟩:=OJ cO cI cJ cE hp hg
 refine Ll (us:=[.slice (some ⟨g,0,none⟩) l.length l.length,iv ((a:Nat):Int),.bool b]) MM rfl rfl rfl rfl rfl fC rfl (K2 rfl (K2 rfl (K2 rfl MI))) fun bA fI aF=>?_
 have fJ:=fD.all aF (cQ.symm p1 rfl)
 have cV:=fE.all aF (cR.symm ar rfl)
 have cW:=fF.all aF (cS.symm ac rfl)
 have fK:=fG.all aF (cT.symm p rfl)
 have fL:=fH.all aF cU.symm
 have cX:=(cK.tr cO).trans aF (KS.ok (S:=T_r) cP K6)
 refine KO ?_
 have ak:=La (pt ae 0)
 refine KH (KK ?_)
 have fM:PG bA (fun i=>(Lh p) i\/((Lh ae) i\/((Lh g) i))) ae l st ([(p,st)]):=Z2 hf hok fK fI fL cT.symm fB cU
 have cY:KS w0 T_r (fun i=>(Lh p) i\/((Lh ae) i\/((Lh g) i))):=fun i h=>h.elim (fun y=>fp i y) (fun y=>y.elim (fun y=>(KS.weak cP (fun _ z=>z.elim)) i y) (fun y=>fw i y))
 have fN:KM (fun i=>(Lh p) i\/((Lh ae) i\/((Lh g) i))) (Lh p1):=fun i h=>h.elim (fun y=>fq i y) (fun y=>y.elim (fun y=>cQ i y) (fun y=>fx i y))
 have cZ:KM (fun i=>(Lh p) i\/((Lh ae) i\/((Lh g) i))) (Lh ar):=fun i h=>h.elim (fun y=>ft i y) (fun y=>y.elim (fun y=>cR i y) (fun y=>fy i y))
 have c5:KM (fun i=>(Lh p) i\/((Lh ae) i\/((Lh g) i))) (Lh ac):=fun i h=>h.elim (fun y=>fu i y) (fun y=>y.elim (fun y=>cS i y) (fun y=>fA i y))
 refine KI (Ly (R:=fun v_ w_=>∃ (aj:Nat->Prop),iv m=v_/\KP (fun i=>(Lh p) i\/((Lh ae) i\/((Lh g) i))) bA w_/\(PG w_ aj ae l ((Lr (LB l 6) st).2) ([(p,st)])/\KS bA (fun i=>(Lh p) i\/((Lh ae) i\/((Lh g) i))) aj)) rfl rfl (LE rfl rfl rfl (fun _ _=>by kernel_rfl) (K4 _) (Lm ak (Lm rfl LS)) (Tz ae l st ([(p,st)]) 6 (fun i=>(Lh p) i\/((Lh ae) i\/((Lh g) i))) _  fM ) (fun e_ w_ h_=>by obtain⟨T112_,he_,hr_⟩:=h_;exact⟨_,he_,T112_,(congrArg (Value.int .i64) hm.symm).symm,hr_⟩)) ?_)
 rintro _ kS ⟨aj,rfl,a8,⟨c6,c7⟩⟩
 have c9:=fJ.all a8 (fN.symm p1 rfl)
 have da:=cV.all a8 (cZ.symm ar rfl)
 have db:=cW.all a8 (c5.symm ac rfl)
 have dc:=cX.trans a8 (fun i hi x=>((KS.ok (S:=T_r) cY (fun _ x=>x)) i hi x))
 have ap:=cY.trans cX c7
 obtain⟨fO,aq⟩:=VE c7 cZ cV c5 cW
 refine KJ (.agg (Oh m 0 0 0 0 (fun _=>(0:Int))).toArray) rfl rfl (L0 (l':=[(0,iv m)]) (cells:=(Oh m 0 0 0 0 (fun _=>(0:Int))).toArray) rfl (SU rfl Rc) (by kernel_rfl) rfl rr) (LI (n:=21) (vs:=(Oh 0 0 0 0 0 (fun _=>(0:Int)))) rfl rfl rfl (by kernel_rfl) fun ah kT fP dd de=>?_)
 have av:=KS.new dc dd
 obtain⟨fQ,df,aw,aB⟩:=VK dd c9 da db c6
 obtain⟨fR,fS,fT,fU⟩:=OW de c9 da db c6
 refine Ll (us:=(Oh m 0 0 0 0 (fun _=>(0:Int)))) LH rfl rfl rfl rfl rfl fP rfl (K2 rfl (K2 rfl (K2 rfl (K2 rfl (K2 rfl (K2 rfl (K2 rfl (K2 rfl (K2 rfl (K2 rfl (K2 rfl (K2 rfl (K2 rfl (K2 rfl (K2 rfl (K2 rfl (K2 rfl (K2 rfl (K2 rfl (K2 rfl (K2 rfl MI))))))))))))))))))))) fun fV dg aO=>?_
 have fW:=fR.all aO (fQ.symm p1 rfl)
 have fX:=fS.all aO (df.symm ar rfl)
 have fY:=fT.all aO (aw.symm ac rfl)
 have fZ:=fU.all aO aB.symm
 have dh:=(dc.tr de).trans aO (KS.ok (S:=T_r) av K6)
 refine KO ?_
 have am:=La (pt ah 0)
 refine KH (KK ?_)
 have f5:PG fV aj ae l s1 ([(p,st)]):=(by rw[hs1];exact fZ)
 refine KI (KJ (pt ah 0) rfl rfl (KT (n:=1) rfl am Tryz.underlying71 rfl (by kernel_rfl) (by decide) rfl rr) (KJ (iv m) rfl rfl (KV rfl rfl Tryz.underlying3 dg rfl rfl rr) (LY rfl rfl rfl rfl rfl (fun _ _=>by kernel_rfl) (Lm rfl LS) (Vn m  _ (hA.but dh hG)  ) fun bB di=>?_)))
 obtain⟨f6,f7,bC,aG,dj⟩:=OJ di fW fX fY f5 dg
 have bD:=dh.tr di
 refine KJ (.tuple #[.bool (NF m),.bool (Nm m)]) rfl rfl (KQ rfl rfl rr) (KJ (.bool (NF m)) rfl rfl (LM rfl rfl rfl rr) (KJ (.bool (Nm m)) rfl rfl (LM rfl rfl rfl rr) (KJ (.bool (NF m)) rfl rfl (KX rfl rfl rr) (KJ (.bool (Nm m)) rfl rfl (KX rfl rfl rr) (KO ?_)))))
 have f8:=La (.bool (NF m))
 have dk:=La (.bool (Nm m))
 refine KH (KK (KI (KJ (iv 120) rfl rfl (KX rfl rfl rr) (KO ?_))))
 have dl:=La (iv 120)
 refine KH (KK (KK ?_))
 rcases Bool.eq_false_or_eq_true (s1.isNone) with a9|a9
 ·skip
  refine KI (Ly (R:=fun v_ w_=>v_ = .bool true/\KP (fun _=>False) bB w_) rfl rfl (LE rfl rfl rfl (fun _ _=>by kernel_rfl) (K4 _) (Lm ak LS) (Rj ae l s1 ([(p,st)]) aj _  aG ) (fun e_ w_ h_=>⟨_,h_.1,(congrArg Value.bool a9),h_.2⟩)) ?_)
  rintro _ kU ⟨rfl,dm⟩
  obtain⟨f9,ga⟩:=NL dm bC aG
  refine KJ (.bool true) rfl rfl (KQ rfl rfl rr) (KL 1 false 30 rfl rfl rfl (Or.inl rfl) rfl (KL 1 false 30 rfl rfl rfl (Or.inl rfl) rfl (KL 1 false 30 rfl rfl rfl (Or.inl rfl) rfl (KL 1 false 30 rfl rfl rfl (Or.inl rfl) rfl (KL 1 false 30 rfl rfl rfl (Or.inl rfl) rfl (KJ (.bool true) rfl rfl (Lg rfl rfl rfl rr) (KO ?_)))))))
  have gb:=La (.bool true)
  refine KH ?_
  refine Lc (t:=true) gb (fun _=>?_) (fun e=>by cases e)
  refine Nx (Ml ?_)
  refine MP ⟨_,rfl,?_⟩
  refine KK (Li (KH (KK ?_)))
  first|have hR:=h1.trans (by unfold Ym;exact if_neg (by assumption))|have hR:=h1.trans (by unfold Vo;exact if_neg (by assumption))|have hR:=h1.trans (by unfold Yr;exact if_neg (by assumption))|(have hRR:=PY (l:=l) (k:=k) (ax:=ax) (ay:=ay) (bx:=bx) (yy:=yy) hm hs1 (by first|exact Or.inl (by assumption)|exact Or.inr (by assumption));obtain⟨s9,hR⟩:=hRR)
  have hT0:MW l k ax ay bx yy st=st:=by unfold MW;rw[hR];exact if_neg (by first|assumption|(intro z;exact absurd (show (120:Int)=0 from z) (by decide)))
  obtain⟨g2,a1,b1,a2,b2,hf2,hT2,ho1,ho2,ai,hq2,hg2,ap1_,ap2_,ap3_⟩:=NW ga
  have gc:KS w0 T_r (Lh p):=fun i h=>ap i ((fun i h=>(hT2 i).2 (Or.inl h)) i h)
  have gd:KM (Lh p) (Lh ac):=fun i h=>aq i ((fun i h=>(hT2 i).2 (Or.inl h)) i h)
  have ge:KS w0 T_r (Lh g2):=fun i h=>ap i ((fun i h=>(hT2 i).2 (Or.inr (Or.inr h))) i h)
  have gh:KM (Lh g2) (Lh ac):=fun i h=>aq i ((fun i h=>(hT2 i).2 (Or.inr (Or.inr h))) i h)
  have dn:KM (Lh p) (Lh g2):=ap2_
  refine KI (KJ (.agg (Oh 0 0 0 0 0 (fun _=>(0:Int))).toArray) rfl rfl (L0 (l':=[]) (cells:=(Oh 0 0 0 0 0 (fun _=>(0:Int))).toArray) rfl Rc (by kernel_rfl) rfl rr) (KW rfl rfl rfl dl (Ll (us:=(Oh 0 0 0 0 0 (fun _=>(0:Int)))) LH rfl rfl rfl af rfl f9 rfl (K2 rfl (K2 rfl (K2 rfl (K2 rfl (K2 rfl (K2 rfl (K2 rfl (K2 rfl (K2 rfl (K2 rfl (K2 rfl (K2 rfl (K2 rfl (K2 rfl (K2 rfl (K2 rfl (K2 rfl (K2 rfl (K2 rfl (K2 rfl (K2 rfl MI))))))))))))))))))))) fun gi gj bE=>?_)))
  have dp:=ai.all bE (gd p rfl)
  have dq:=hg2.all bE gh
  refine KJ (iv 120) rfl rfl (KX rfl rfl rr) (KO ?_)
  have gl:=La (iv 120)
  refine KH (Ld (M5 ?_))
  have gm:Ps gi (fun i=>(Lh p) i\/((Lh g2) i)) p l (MW l k ax ay bx yy st):=(by rw[hT0];first|exact Mp hf2 ho1 dp dq dn|exact Mp hf2 ho2 dp dq dn)
  have gn:KS w0 T_r (fun i=>(Lh p) i\/((Lh g2) i)):=fun i h=>h.elim (fun y=>gc i y) (fun y=>ge i y)
  exact L7 ao rfl (ML (vs:=(Oh 0 0 0 0 0 (fun _=>(0:Int)))) LH rfl af gj) (Lz (v:=iv 120) rfl gl) ⟨(fun i=>(Lh p) i\/((Lh g2) i)),(by rw[hR] <;> rfl),((bD.tr dm).trans bE (KS.ok (S:=T_r) an K6)),⟨gm,gn⟩⟩
 ·skip
  by_cases dr:0<=m/\m<=NX k
  ·skip
   refine KI (Ly (R:=fun v_ w_=>v_ = .bool false/\KP (fun _=>False) bB w_) rfl rfl (LE rfl rfl rfl (fun _ _=>by kernel_rfl) (K4 _) (Lm ak LS) (Rj ae l s1 ([(p,st)]) aj _  aG ) (fun e_ w_ h_=>⟨_,h_.1,(congrArg Value.bool a9),h_.2⟩)) ?_)
   rintro _ go ⟨rfl,dt⟩
   obtain⟨gp,gq,gr,gt,du⟩:=OJ dt f6 f7 bC aG dj
   have dv:=bD.tr dt
   refine KJ (.bool false) rfl rfl (KQ rfl rfl rr) (KR (iv k) 1 false 30 rfl rfl rfl rfl rfl (KQ rfl cL rr) (KR (pt ah 0) 1 false 30 rfl rfl rfl rfl rfl (KT (n:=1) rfl am Tryz.underlying71 rfl (by kernel_rfl) (by decide) rfl rr) (KR (iv m) 1 false 30 rfl rfl rfl rfl rfl (KV rfl rfl Tryz.underlying3 du rfl rfl rr) (LA (R:=fun v_ w_=>v_ = .bool true/\KP (fun _=>False) go w_) 1 false 30 rfl rfl rfl rfl rfl (LE rfl rfl rfl (fun _ _=>by kernel_rfl) (K4 _) (Lm rfl (Lm rfl LS)) (aAV k m  _ (hA.but dv hG)  ) (fun e_ w_ h_=>⟨_,h_.1,(congrArg Value.bool (decide_eq_true dr)),h_.2⟩)) ?_))))
   rintro _ aH ⟨rfl,dw⟩
   obtain⟨gu,dy,aI,bF,aJ⟩:=OJ dw gp gq gr gt du
   have aC:=dv.tr dw
   refine KR (.bool false) 1 false 30 rfl rfl rfl rfl rfl (LW rfl rfl rfl rr) (KJ (.bool false) rfl rfl (Lb rfl rfl rfl rr) (KO ?_))
   have gv:=La (.bool false)
   refine KH ?_
   refine Lc (t:=false) gv (fun e=>by cases e) (fun _=>?_)
   refine Li (KH (KK (KK ?_)))
   have h1:=aA7 (l:=l) (k:=k) (ax:=ax) (ay:=ay) (bx:=bx) (yy:=yy) hm hs1 (by assumption) (by assumption)
   refine KI (KW rfl rfl rfl f8 (KO ?_))
   have gw:=La (.bool (NF m))
   refine KH ?_
   refine Lc gw (fun gz=>?_) (fun gz=>?_)
   ·skip
    refine KK ?_
    rw[UD (has:=NF m) (by assumption)] at h1
    refine KI (KJ (.agg #[iv ax,iv ay]) rfl rfl (KU LP rfl fm gu rr) (Ly (R:=fun v_ w_=>∃ (au:Nat->Prop),.tuple #[.agg #[iv (Rz l ax ay s1),iv (RC l ax ay s1)],iv (Qs l ax ay s1)]=v_/\KP aj aH w_/\(PG w_ au ae l (MQ l ax ay s1) ([(p,st)])/\KS aH aj au)) rfl rfl (LE rfl rfl rfl (fun _ _=>by kernel_rfl) (K4 _) (Lm ak (Lm rfl LS)) (U9 ae l s1 ([(p,st)]) ax ay aj _  bF ) (fun e_ w_ h_=>by obtain⟨T325_,he_,hr_⟩:=h_;exact⟨_,he_,T325_,rfl,hr_⟩)) ?_))
    rintro _ kV ⟨au,rfl,ba,⟨gA,dz⟩⟩
    have gB:=dy.all ba (fO.symm ar rfl)
    have gC:=aI.all ba (aq.symm ac rfl)
    have gD:=aJ.all ba (aB ah rfl)
    have aD:=ap.trans aC dz
    obtain⟨aK,aP⟩:=VE dz aq aI (aB.symm) aJ
    refine KJ (.tuple #[.agg #[iv (Rz l ax ay s1),iv (RC l ax ay s1)],iv (Qs l ax ay s1)]) rfl rfl (KQ rfl rfl rr) (KJ (.agg #[iv (Rz l ax ay s1),iv (RC l ax ay s1)]) rfl rfl (LM rfl rfl rfl rr) (KJ (iv (Qs l ax ay s1)) rfl rfl (LM rfl rfl rfl rr) (KJ (pt ah 1) rfl rfl (KT (n:=2) rfl am Tryz.underlying71 rfl (by kernel_rfl) (by decide) rfl rr) (ON (us:=[iv (Rz l ax ay s1),iv (RC l ax ay s1)]) (ns:=(Oh m (Rz l ax ay s1) (RC l ax ay s1) 0 0 (fun _=>(0:Int)))) LP rfl rfl rfl rfl rfl gD (Nat.le_of_ble_eq_true rfl) (K2 rfl (K2 rfl MI)) rfl fun bb bc bd=>?_))))
    have gE:=gB.all bd (df.symm ar rfl)
    have aQ:=gC.all bd (aw.symm ac rfl)
    have bG:=gA.all bd aP
    have aL:=(aC.trans ba (fun i hi x=>((KS.ok (S:=T_r) ap (fun _ x=>x)) i hi x))).trans bd (KS.ok (S:=T_r) av K6)
    refine KJ (iv (Qs l ax ay s1)) rfl rfl (KX rfl rfl rr) (KO ?_)
    have dA:=La (iv (Qs l ax ay s1))
    refine KH (KK (KI (KW rfl rfl rfl dA (KJ (.bool (decide ((Qs l ax ay s1)≠0))) rfl rfl (Mc rfl rfl rfl rfl rr) (KO ?_)))))
    have gF:=La (.bool (decide ((Qs l ax ay s1)≠0)))
    refine KH ?_
    refine Lc gF (fun aR=>?_) (fun aR=>?_)
    ·replace aR:=of_decide_eq_true aR
     refine Nx (Ml ?_)
     refine MP ⟨_,rfl,?_⟩
     refine KK (Li (KH (KK ?_)))
     first|have hR:=h1.trans (by unfold Ym;exact if_neg (by assumption))|have hR:=h1.trans (by unfold Vo;exact if_neg (by assumption))|have hR:=h1.trans (by unfold Yr;exact if_neg (by assumption))|(have hRR:=PY (l:=l) (k:=k) (ax:=ax) (ay:=ay) (bx:=bx) (yy:=yy) hm hs1 (by first|exact Or.inl (by assumption)|exact Or.inr (by assumption));obtain⟨s9,hR⟩:=hRR)
     have hT0:MW l k ax ay bx yy st=st:=by unfold MW;rw[hR];exact if_neg (by first|assumption|(intro z;exact absurd (show (120:Int)=0 from z) (by decide)))
     obtain⟨g2,a1,b1,a2,b2,hf2,hT2,ho1,ho2,ai,hq2,hg2,ap1_,ap2_,ap3_⟩:=NW bG
     have gG:KS w0 T_r (Lh p):=fun i h=>aD i ((fun i h=>(hT2 i).2 (Or.inl h)) i h)
     have gH:KM (Lh p) (Lh ac):=fun i h=>aK i ((fun i h=>(hT2 i).2 (Or.inl h)) i h)
     have gI:KS w0 T_r (Lh g2):=fun i h=>aD i ((fun i h=>(hT2 i).2 (Or.inr (Or.inr h))) i h)
     have gJ:KM (Lh g2) (Lh ac):=fun i h=>aK i ((fun i h=>(hT2 i).2 (Or.inr (Or.inr h))) i h)
     have dB:KM (Lh p) (Lh g2):=ap2_
     refine KI (KJ (.agg (Oh 0 0 0 0 0 (fun _=>(0:Int))).toArray) rfl rfl (L0 (l':=[]) (cells:=(Oh 0 0 0 0 0 (fun _=>(0:Int))).toArray) rfl Rc (by kernel_rfl) rfl rr) (KW rfl rfl rfl dA (Ll (us:=(Oh 0 0 0 0 0 (fun _=>(0:Int)))) LH rfl rfl rfl af rfl aQ rfl (K2 rfl (K2 rfl (K2 rfl (K2 rfl (K2 rfl (K2 rfl (K2 rfl (K2 rfl (K2 rfl (K2 rfl (K2 rfl (K2 rfl (K2 rfl (K2 rfl (K2 rfl (K2 rfl (K2 rfl (K2 rfl (K2 rfl (K2 rfl (K2 rfl MI))))))))))))))))))))) fun gK gL bH=>?_)))
     have dC:=ai.all bH (gH p rfl)
     have dD:=hg2.all bH gJ
     refine KJ (iv (Qs l ax ay s1)) rfl rfl (KX rfl rfl rr) (KO ?_)
     have gM:=La (iv (Qs l ax ay s1))
     refine KH (Ld (M5 ?_))
     have gN:Ps gK (fun i=>(Lh p) i\/((Lh g2) i)) p l (MW l k ax ay bx yy st):=(by rw[hT0];first|exact Mp hf2 ho1 dC dD dB|exact Mp hf2 ho2 dC dD dB)
     have gO:KS w0 T_r (fun i=>(Lh p) i\/((Lh g2) i)):=fun i h=>h.elim (fun y=>gG i y) (fun y=>gI i y)
     exact L7 ao rfl (ML (vs:=(Oh 0 0 0 0 0 (fun _=>(0:Int)))) LH rfl af gL) (Lz (v:=iv (Qs l ax ay s1)) rfl gM) ⟨(fun i=>(Lh p) i\/((Lh g2) i)),(by rw[hR] <;> rfl),(aL.trans bH (KS.ok (S:=T_r) an K6)),⟨gN,gO⟩⟩
    ·replace aR:=of_decide_eq_false aR
     refine Li (KH (KK (KK ?_)))
     first|(rw[SD (has:=NF m) (by assumption)] at h1;replace h1:=h1.trans (by unfold Ym;exact if_pos rfl);(try dsimp only at h1))|(have hv1:Qs l ax ay s1=0:=(by first|assumption|(apply Decidable.byContradiction;assumption));replace h1:=h1.trans (by unfold Ym;exact if_pos hv1);(try dsimp only at h1);rw[← QP hv1] at h1)
     refine KI (KW rfl rfl rfl dk (KO ?_))
     have gP:=La (.bool (Nm m))
     refine KH ?_
     refine Lc gP (fun gQ=>?_) (fun gQ=>?_)
     ·skip
      refine KK ?_
      rw[UD (has:=Nm m) (by assumption)] at h1
      refine KI (KJ (.agg #[iv bx,iv yy]) rfl rfl (KU LP rfl cM gE rr) (Ly (R:=fun v_ w_=>∃ (aM:Nat->Prop),.tuple #[.agg #[iv (Rz l bx yy (MQ l ax ay s1)),iv (RC l bx yy (MQ l ax ay s1))],iv (Qs l bx yy (MQ l ax ay s1))]=v_/\KP au bb w_/\(PG w_ aM ae l (MQ l bx yy (MQ l ax ay s1)) ([(p,st)])/\KS bb au aM)) rfl rfl (LE rfl rfl rfl (fun _ _=>by kernel_rfl) (K4 _) (Lm ak (Lm rfl LS)) (U9 ae l (MQ l ax ay s1) ([(p,st)]) bx yy au _  bG ) (fun e_ w_ h_=>by obtain⟨T449_,he_,hr_⟩:=h_;exact⟨_,he_,T449_,rfl,hr_⟩)) ?_))
      rintro _ kW ⟨aM,rfl,bI,⟨gR,dE⟩⟩
      have gS:=aQ.all bI (aK.symm ac rfl)
      have gT:=bc.all bI (aP.symm ah rfl)
      have aS:=aD.trans aL dE
      obtain⟨be,bJ⟩:=VE dE aK aQ aP bc
      refine KJ (.tuple #[.agg #[iv (Rz l bx yy (MQ l ax ay s1)),iv (RC l bx yy (MQ l ax ay s1))],iv (Qs l bx yy (MQ l ax ay s1))]) rfl rfl (KQ rfl rfl rr) (KJ (.agg #[iv (Rz l bx yy (MQ l ax ay s1)),iv (RC l bx yy (MQ l ax ay s1))]) rfl rfl (LM rfl rfl rfl rr) (KJ (iv (Qs l bx yy (MQ l ax ay s1))) rfl rfl (LM rfl rfl rfl rr) (KJ (pt ah 3) rfl rfl (KT (n:=2) rfl am Tryz.underlying71 rfl (by kernel_rfl) (by decide) rfl rr) (ON (us:=[iv (Rz l bx yy (MQ l ax ay s1)),iv (RC l bx yy (MQ l ax ay s1))]) (ns:=(Oh m (Rz l ax ay s1) (RC l ax ay s1) (Rz l bx yy (MQ l ax ay s1)) (RC l bx yy (MQ l ax ay s1)) (fun _=>(0:Int)))) LP rfl rfl rfl rfl rfl gT (Nat.le_of_ble_eq_true rfl) (K2 rfl (K2 rfl MI)) rfl fun dF dG bK=>?_))))
      have bL:=gS.all bK (aw.symm ac rfl)
      have dH:=gR.all bK bJ
      have bf:=(aL.trans bI (fun i hi x=>((KS.ok (S:=T_r) aD (fun _ x=>x)) i hi x))).trans bK (KS.ok (S:=T_r) av K6)
      refine KJ (iv (Qs l bx yy (MQ l ax ay s1))) rfl rfl (KX rfl rfl rr) (KO ?_)
      have dI:=La (iv (Qs l bx yy (MQ l ax ay s1)))
      refine KH (KK (KI (KW rfl rfl rfl dI (KJ (.bool (decide ((Qs l bx yy (MQ l ax ay s1))≠0))) rfl rfl (Mc rfl rfl rfl rfl rr) (KO ?_)))))
      have gU:=La (.bool (decide ((Qs l bx yy (MQ l ax ay s1))≠0)))
      refine KH ?_
      refine Lc gU (fun aT=>?_) (fun aT=>?_)
      ·replace aT:=of_decide_eq_true aT
       refine Nx (Ml ?_)
       refine MP ⟨_,rfl,?_⟩
       refine KK (Li (KH (KK ?_)))
       first|have hR:=h1.trans (by unfold Ym;exact if_neg (by assumption))|have hR:=h1.trans (by unfold Vo;exact if_neg (by assumption))|have hR:=h1.trans (by unfold Yr;exact if_neg (by assumption))|(have hRR:=PY (l:=l) (k:=k) (ax:=ax) (ay:=ay) (bx:=bx) (yy:=yy) hm hs1 (by first|exact Or.inl (by assumption)|exact Or.inr (by assumption));obtain⟨s9,hR⟩:=hRR)
       have hT0:MW l k ax ay bx yy st=st:=by unfold MW;rw[hR];exact if_neg (by first|assumption|(intro z;exact absurd (show (120:Int)=0 from z) (by decide)))
       obtain⟨g2,a1,b1,a2,b2,hf2,hT2,ho1,ho2,ai,hq2,hg2,ap1_,ap2_,ap3_⟩:=NW dH
       have gV:KS w0 T_r (Lh p):=fun i h=>aS i ((fun i h=>(hT2 i).2 (Or.inl h)) i h)
       have gW:KM (Lh p) (Lh ac):=fun i h=>be i ((fun i h=>(hT2 i).2 (Or.inl h)) i h)
       have gZ:KS w0 T_r (Lh g2):=fun i h=>aS i ((fun i h=>(hT2 i).2 (Or.inr (Or.inr h))) i h)
       have hP:KM (Lh g2) (Lh ac):=fun i h=>be i ((fun i h=>(hT2 i).2 (Or.inr (Or.inr h))) i h)
       have dJ:KM (Lh p) (Lh g2):=ap2_
       refine KI (KJ (.agg (Oh 0 0 0 0 0 (fun _=>(0:Int))).toArray) rfl rfl (L0 (l':=[]) (cells:=(Oh 0 0 0 0 0 (fun _=>(0:Int))).toArray) rfl Rc (by kernel_rfl) rfl rr) (KW rfl rfl rfl dI (Ll (us:=(Oh 0 0 0 0 0 (fun _=>(0:Int)))) LH rfl rfl rfl af rfl bL rfl (K2 rfl (K2 rfl (K2 rfl (K2 rfl (K2 rfl (K2 rfl (K2 rfl (K2 rfl (K2 rfl (K2 rfl (K2 rfl (K2 rfl (K2 rfl (K2 rfl (K2 rfl (K2 rfl (K2 rfl (K2 rfl (K2 rfl (K2 rfl (K2 rfl MI))))))))))))))))))))) fun hQ hZ bM=>?_)))
       have dK:=ai.all bM (gW p rfl)
       have dL:=hg2.all bM hP
       refine KJ (iv (Qs l bx yy (MQ l ax ay s1))) rfl rfl (KX rfl rfl rr) (KO ?_)
       have ia:=La (iv (Qs l bx yy (MQ l ax ay s1)))
       refine KH (Ld (M5 ?_))
       have ib:Ps hQ (fun i=>(Lh p) i\/((Lh g2) i)) p l (MW l k ax ay bx yy st):=(by rw[hT0];first|exact Mp hf2 ho1 dK dL dJ|exact Mp hf2 ho2 dK dL dJ)
       have ie:KS w0 T_r (fun i=>(Lh p) i\/((Lh g2) i)):=fun i h=>h.elim (fun y=>gV i y) (fun y=>gZ i y)
       exact L7 ao rfl (ML (vs:=(Oh 0 0 0 0 0 (fun _=>(0:Int)))) LH rfl af hZ) (Lz (v:=iv (Qs l bx yy (MQ l ax ay s1))) rfl ia) ⟨(fun i=>(Lh p) i\/((Lh g2) i)),(by rw[hR] <;> rfl),(bf.trans bM (KS.ok (S:=T_r) an K6)),⟨ib,ie⟩⟩
      ·replace aT:=of_decide_eq_false aT
       refine Li (KH (KK (KK ?_)))
       first|(rw[SD (has:=Nm m) (by assumption)] at h1;replace h1:=h1.trans (by unfold Vo;exact if_pos rfl);(try dsimp only at h1))|(have hv2:Qs l bx yy (MQ l ax ay s1)=0:=(by first|assumption|(apply Decidable.byContradiction;assumption));replace h1:=h1.trans (by unfold Vo;exact if_pos hv2);(try dsimp only at h1);rw[← QP hv2] at h1)|(have hv2:Qs l bx yy s1=0:=(by first|assumption|(apply Decidable.byContradiction;assumption));replace h1:=h1.trans (by unfold Vo;exact if_pos hv2);(try dsimp only at h1);rw[← QP hv2] at h1)
       refine KI (Ly (R:=fun v_ w_=>∃ (bN:Nat->Prop),.tuple #[LK ((LL l (MQ l bx yy (MQ l ax ay s1))).1),iv ((LL l (MQ l bx yy (MQ l ax ay s1))).2.1)]=v_/\KP aM dF w_/\(PG w_ bN ae l (WZ l (MQ l bx yy (MQ l ax ay s1))) ([(p,st)])/\KS dF aM bN)) rfl rfl (LE rfl rfl rfl (fun _ _=>by kernel_rfl) (K4 _) (Lm ak LS) (Rk ae l (MQ l bx yy (MQ l ax ay s1)) ([(p,st)]) aM _ (hO.but bf (ovO hG)) (ovO (UK aS hG hA)) dH ) (fun e_ w_ h_=>by obtain⟨T556_,he_,hr_⟩:=h_;exact⟨_,he_,T556_,rfl,hr_⟩)) ?_)
       rintro _ kX ⟨bN,rfl,bO,⟨ig,dM⟩⟩
       have ii:=bL.all bO (be.symm ac rfl)
       have ij:=dG.all bO (bJ.symm ah rfl)
       have bg:=aS.trans bf dM
       obtain⟨bh,dN⟩:=VE dM be bL bJ dG
       refine KJ (.tuple #[LK ((LL l (MQ l bx yy (MQ l ax ay s1))).1),iv ((LL l (MQ l bx yy (MQ l ax ay s1))).2.1)]) rfl rfl (KQ rfl rfl rr) (KJ (LK ((LL l (MQ l bx yy (MQ l ax ay s1))).1)) rfl rfl (LM rfl rfl rfl rr) (KJ (iv ((LL l (MQ l bx yy (MQ l ax ay s1))).2.1)) rfl rfl (LM rfl rfl rfl rr) (KJ (pt ah 5) rfl rfl (KT (n:=16) rfl am Tryz.underlying71 rfl (by kernel_rfl) (by decide) rfl rr) (ON (us:=L8 16 ((LL l (MQ l bx yy (MQ l ax ay s1))).1)) (ns:=(Oh m (Rz l ax ay s1) (RC l ax ay s1) (Rz l bx yy (MQ l ax ay s1)) (RC l bx yy (MQ l ax ay s1)) ((LL l (MQ l bx yy (MQ l ax ay s1))).1))) Qu rfl rfl rfl rfl rfl ij (Nat.le_of_ble_eq_true rfl) (RY _ _) rfl fun kY ik bP=>?_))))
       have dO:=ii.all bP (aw.symm ac rfl)
       have dP:=ig.all bP dN
       have dQ:=(bf.trans bO (fun i hi x=>((KS.ok (S:=T_r) aS (fun _ x=>x)) i hi x))).trans bP (KS.ok (S:=T_r) av K6)
       refine KJ (iv ((LL l (MQ l bx yy (MQ l ax ay s1))).2.1)) rfl rfl (KX rfl rfl rr) (KO ?_)
       have dR:=La (iv ((LL l (MQ l bx yy (MQ l ax ay s1))).2.1))
       refine KH (KK (KI (KW rfl rfl rfl dR (KJ (.bool (decide (((LL l (MQ l bx yy (MQ l ax ay s1))).2.1)≠0))) rfl rfl (Mc rfl rfl rfl rfl rr) (KO ?_)))))
       have io:=La (.bool (decide (((LL l (MQ l bx yy (MQ l ax ay s1))).2.1)≠0)))
       refine KH ?_
       refine Lc io (fun aU=>?_) (fun aU=>?_)
       ·replace aU:=of_decide_eq_true aU
        refine Nx (Ml ?_)
        refine MP ⟨_,rfl,?_⟩
        refine KK (Li (KH (KK ?_)))
        first|have hR:=h1.trans (by unfold Ym;exact if_neg (by assumption))|have hR:=h1.trans (by unfold Vo;exact if_neg (by assumption))|have hR:=h1.trans (by unfold Yr;exact if_neg (by assumption))|(have hRR:=PY (l:=l) (k:=k) (ax:=ax) (ay:=ay) (bx:=bx) (yy:=yy) hm hs1 (by first|exact Or.inl (by assumption)|exact Or.inr (by assumption));obtain⟨s9,hR⟩:=hRR)
        have hT0:MW l k ax ay bx yy st=st:=by unfold MW;rw[hR];exact if_neg (by first|assumption|(intro z;exact absurd (show (120:Int)=0 from z) (by decide)))
        obtain⟨g2,a1,b1,a2,b2,hf2,hT2,ho1,ho2,ai,hq2,hg2,ap1_,ap2_,ap3_⟩:=NW dP
        have ip:KS w0 T_r (Lh p):=fun i h=>bg i ((fun i h=>(hT2 i).2 (Or.inl h)) i h)
        have iq:KM (Lh p) (Lh ac):=fun i h=>bh i ((fun i h=>(hT2 i).2 (Or.inl h)) i h)
        have ir:KS w0 T_r (Lh g2):=fun i h=>bg i ((fun i h=>(hT2 i).2 (Or.inr (Or.inr h))) i h)
        have iu:KM (Lh g2) (Lh ac):=fun i h=>bh i ((fun i h=>(hT2 i).2 (Or.inr (Or.inr h))) i h)
        have dS:KM (Lh p) (Lh g2):=ap2_
        refine KI (KJ (.agg (Oh 0 0 0 0 0 (fun _=>(0:Int))).toArray) rfl rfl (L0 (l':=[]) (cells:=(Oh 0 0 0 0 0 (fun _=>(0:Int))).toArray) rfl Rc (by kernel_rfl) rfl rr) (KW rfl rfl rfl dR (Ll (us:=(Oh 0 0 0 0 0 (fun _=>(0:Int)))) LH rfl rfl rfl af rfl dO rfl (K2 rfl (K2 rfl (K2 rfl (K2 rfl (K2 rfl (K2 rfl (K2 rfl (K2 rfl (K2 rfl (K2 rfl (K2 rfl (K2 rfl (K2 rfl (K2 rfl (K2 rfl (K2 rfl (K2 rfl (K2 rfl (K2 rfl (K2 rfl (K2 rfl MI))))))))))))))))))))) fun iw iy bQ=>?_)))
        have dT:=ai.all bQ (iq p rfl)
        have dU:=hg2.all bQ iu
        refine KJ (iv ((LL l (MQ l bx yy (MQ l ax ay s1))).2.1)) rfl rfl (KX rfl rfl rr) (KO ?_)
        have iz:=La (iv ((LL l (MQ l bx yy (MQ l ax ay s1))).2.1))
        refine KH (Ld (M5 ?_))
        have iA:Ps iw (fun i=>(Lh p) i\/((Lh g2) i)) p l (MW l k ax ay bx yy st):=(by rw[hT0];first|exact Mp hf2 ho1 dT dU dS|exact Mp hf2 ho2 dT dU dS)
        have iB:KS w0 T_r (fun i=>(Lh p) i\/((Lh g2) i)):=fun i h=>h.elim (fun y=>ip i y) (fun y=>ir i y)
        exact L7 ao rfl (ML (vs:=(Oh 0 0 0 0 0 (fun _=>(0:Int)))) LH rfl af iy) (Lz (v:=iv ((LL l (MQ l bx yy (MQ l ax ay s1))).2.1)) rfl iz) ⟨(fun i=>(Lh p) i\/((Lh g2) i)),(by rw[hR] <;> rfl),(dQ.trans bQ (KS.ok (S:=T_r) an K6)),⟨iA,iB⟩⟩
       ·replace aU:=of_decide_eq_false aU
        refine Li (KH (KK ?_))
        have hR:=h1.trans (by unfold Yr;exact if_pos (by first|assumption|(apply Decidable.byContradiction;assumption)))
        have hT0:=(show MW l k ax ay bx yy st=(Sk l k ax ay bx yy st).2.2 from if_pos (by rw[hR]))
        rw[hR] at hT0
        dsimp only at hT0
        rw[← UF (by first|assumption|(apply Decidable.byContradiction;assumption))] at hT0
        obtain⟨g2,a1,b1,a2,b2,hf2,hT2,ho1,ho2,ai,hq2,hg2,ap1_,ap2_,ap3_⟩:=NW dP
        have dV:KS w0 T_r (Lh p):=fun i h=>bg i ((fun i h=>(hT2 i).2 (Or.inl h)) i h)
        have dW:KM (Lh p) (Lh ac):=fun i h=>bh i ((fun i h=>(hT2 i).2 (Or.inl h)) i h)
        have iC:KM (Lh p) (Lh ah):=fun i h=>dN i ((fun i h=>(hT2 i).2 (Or.inl h)) i h)
        have iD:KS w0 T_r (Lh g2):=fun i h=>bg i ((fun i h=>(hT2 i).2 (Or.inr (Or.inr h))) i h)
        have iE:KM (Lh g2) (Lh ac):=fun i h=>bh i ((fun i h=>(hT2 i).2 (Or.inr (Or.inr h))) i h)
        have bR:KM (Lh p) (Lh g2):=ap2_
        refine KI (KW rfl rfl rfl aE (KJ (.agg #[.slice (some ⟨g2,0,none⟩) l.length l.length,iv ((a2:Nat):Int),.bool b2]) rfl rfl (KU MM rfl ak hq2 rr) (KJ (pt p 0) rfl rfl (Om rfl rfl rr) (Ll (us:=[.slice (some ⟨g2,0,none⟩) l.length l.length,iv ((a2:Nat):Int),.bool b2]) MM rfl rfl rfl rfl rfl ai rfl (K2 rfl (K2 rfl (K2 rfl MI))) fun kZ iF bi=>?_))))
        have iG:=dO.all bi (dW.symm ac rfl)
        have iH:=ik.all bi (iC.symm ah rfl)
        have iI:=hg2.all bi bR.symm
        refine KO ?_
        refine KH (KK (KK (KI (KJ (.agg (Oh m (Rz l ax ay s1) (RC l ax ay s1) (Rz l bx yy (MQ l ax ay s1)) (RC l bx yy (MQ l ax ay s1)) ((LL l (MQ l bx yy (MQ l ax ay s1))).1)).toArray) rfl rfl (KU LH rfl am iH rr) (Ll (us:=(Oh m (Rz l ax ay s1) (RC l ax ay s1) (Rz l bx yy (MQ l ax ay s1)) (RC l bx yy (MQ l ax ay s1)) ((LL l (MQ l bx yy (MQ l ax ay s1))).1))) LH rfl rfl rfl af rfl iG rfl (K2 rfl (K2 rfl (K2 rfl (K2 rfl (K2 rfl (K2 rfl (K2 rfl (K2 rfl (K2 rfl (K2 rfl (K2 rfl (K2 rfl (K2 rfl (K2 rfl (K2 rfl (K2 rfl (K2 rfl (K2 rfl (K2 rfl (K2 rfl (K2 rfl MI))))))))))))))))))))) fun iJ iK bS=>?_)))))
        have dX:=iF.all bS (dW p rfl)
        have dY:=iI.all bS iE
        refine KJ (iv 0) rfl rfl (KX rfl rfl rr) (KO ?_)
        have iL:=La (iv 0)
        refine KH (Ld (Lq (O4 ?_)))
        have iM:Ps iJ (fun i=>(Lh p) i\/((Lh g2) i)) p l (MW l k ax ay bx yy st):=(by rw[hT0];first|exact Mp hf2 ho1 dX dY bR|exact Mp hf2 ho2 dX dY bR)
        have iN:KS w0 T_r (fun i=>(Lh p) i\/((Lh g2) i)):=fun i h=>h.elim (fun y=>dV i y) (fun y=>iD i y)
        exact L7 ao rfl (ML (vs:=(Oh m (Rz l ax ay s1) (RC l ax ay s1) (Rz l bx yy (MQ l ax ay s1)) (RC l bx yy (MQ l ax ay s1)) ((LL l (MQ l bx yy (MQ l ax ay s1))).1))) LH rfl af iK) (Lz (v:=iv 0) rfl iL) ⟨(fun i=>(Lh p) i\/((Lh g2) i)),(by rw[hR] <;> rfl),((dQ.trans bi (KS.ok (S:=T_r) dV (fun _ x=>x))).trans bS (KS.ok (S:=T_r) an K6)),⟨iM,iN⟩⟩
     ·skip
      refine Li (KH (KK (KK ?_)))
      first|(rw[SD (has:=Nm m) (by assumption)] at h1;replace h1:=h1.trans (by unfold Vo;exact if_pos rfl);(try dsimp only at h1))|(have hv2:Qs l bx yy (MQ l ax ay s1)=0:=(by first|assumption|(apply Decidable.byContradiction;assumption));replace h1:=h1.trans (by unfold Vo;exact if_pos hv2);(try dsimp only at h1);rw[← QP hv2] at h1)|(have hv2:Qs l bx yy s1=0:=(by first|assumption|(apply Decidable.byContradiction;assumption));replace h1:=h1.trans (by unfold Vo;exact if_pos hv2);(try dsimp only at h1);rw[← QP hv2] at h1)
      refine KI (Ly (R:=fun v_ w_=>∃ (bT:Nat->Prop),.tuple #[LK ((LL l (MQ l ax ay s1)).1),iv ((LL l (MQ l ax ay s1)).2.1)]=v_/\KP au bb w_/\(PG w_ bT ae l (WZ l (MQ l ax ay s1)) ([(p,st)])/\KS bb au bT)) rfl rfl (LE rfl rfl rfl (fun _ _=>by kernel_rfl) (K4 _) (Lm ak LS) (Rk ae l (MQ l ax ay s1) ([(p,st)]) au _ (hO.but aL (ovO hG)) (ovO (UK aD hG hA)) bG ) (fun e_ w_ h_=>by obtain⟨T720_,he_,hr_⟩:=h_;exact⟨_,he_,T720_,rfl,hr_⟩)) ?_)
      rintro _ k8 ⟨bT,rfl,bU,⟨iO,dZ⟩⟩
      have iP:=aQ.all bU (aK.symm ac rfl)
      have iQ:=bc.all bU (aP.symm ah rfl)
      have bj:=aD.trans aL dZ
      obtain⟨bl,d8⟩:=VE dZ aK aQ aP bc
      refine KJ (.tuple #[LK ((LL l (MQ l ax ay s1)).1),iv ((LL l (MQ l ax ay s1)).2.1)]) rfl rfl (KQ rfl rfl rr) (KJ (LK ((LL l (MQ l ax ay s1)).1)) rfl rfl (LM rfl rfl rfl rr) (KJ (iv ((LL l (MQ l ax ay s1)).2.1)) rfl rfl (LM rfl rfl rfl rr) (KJ (pt ah 5) rfl rfl (KT (n:=16) rfl am Tryz.underlying71 rfl (by kernel_rfl) (by decide) rfl rr) (ON (us:=L8 16 ((LL l (MQ l ax ay s1)).1)) (ns:=(Oh m (Rz l ax ay s1) (RC l ax ay s1) 0 0 ((LL l (MQ l ax ay s1)).1))) Qu rfl rfl rfl rfl rfl iQ (Nat.le_of_ble_eq_true rfl) (RY _ _) rfl fun la iR bV=>?_))))
      have d9:=iP.all bV (aw.symm ac rfl)
      have eb:=iO.all bV d8
      have ee:=(aL.trans bU (fun i hi x=>((KS.ok (S:=T_r) aD (fun _ x=>x)) i hi x))).trans bV (KS.ok (S:=T_r) av K6)
      refine KJ (iv ((LL l (MQ l ax ay s1)).2.1)) rfl rfl (KX rfl rfl rr) (KO ?_)
      have eh:=La (iv ((LL l (MQ l ax ay s1)).2.1))
      refine KH (KK (KI (KW rfl rfl rfl eh (KJ (.bool (decide (((LL l (MQ l ax ay s1)).2.1)≠0))) rfl rfl (Mc rfl rfl rfl rfl rr) (KO ?_)))))
      have iS:=La (.bool (decide (((LL l (MQ l ax ay s1)).2.1)≠0)))
      refine KH ?_
      refine Lc iS (fun aV=>?_) (fun aV=>?_)
      ·replace aV:=of_decide_eq_true aV
       refine Nx (Ml ?_)
       refine MP ⟨_,rfl,?_⟩
       refine KK (Li (KH (KK ?_)))
       first|have hR:=h1.trans (by unfold Ym;exact if_neg (by assumption))|have hR:=h1.trans (by unfold Vo;exact if_neg (by assumption))|have hR:=h1.trans (by unfold Yr;exact if_neg (by assumption))|(have hRR:=PY (l:=l) (k:=k) (ax:=ax) (ay:=ay) (bx:=bx) (yy:=yy) hm hs1 (by first|exact Or.inl (by assumption)|exact Or.inr (by assumption));obtain⟨s9,hR⟩:=hRR)
       have hT0:MW l k ax ay bx yy st=st:=by unfold MW;rw[hR];exact if_neg (by first|assumption|(intro z;exact absurd (show (120:Int)=0 from z) (by decide)))
       obtain⟨g2,a1,b1,a2,b2,hf2,hT2,ho1,ho2,ai,hq2,hg2,ap1_,ap2_,ap3_⟩:=NW eb
       have iT:KS w0 T_r (Lh p):=fun i h=>bj i ((fun i h=>(hT2 i).2 (Or.inl h)) i h)
       have iU:KM (Lh p) (Lh ac):=fun i h=>bl i ((fun i h=>(hT2 i).2 (Or.inl h)) i h)
       have iV:KS w0 T_r (Lh g2):=fun i h=>bj i ((fun i h=>(hT2 i).2 (Or.inr (Or.inr h))) i h)
       have iW:KM (Lh g2) (Lh ac):=fun i h=>bl i ((fun i h=>(hT2 i).2 (Or.inr (Or.inr h))) i h)
       have ei:KM (Lh p) (Lh g2):=ap2_
       refine KI (KJ (.agg (Oh 0 0 0 0 0 (fun _=>(0:Int))).toArray) rfl rfl (L0 (l':=[]) (cells:=(Oh 0 0 0 0 0 (fun _=>(0:Int))).toArray) rfl Rc (by kernel_rfl) rfl rr) (KW rfl rfl rfl eh (Ll (us:=(Oh 0 0 0 0 0 (fun _=>(0:Int)))) LH rfl rfl rfl af rfl d9 rfl (K2 rfl (K2 rfl (K2 rfl (K2 rfl (K2 rfl (K2 rfl (K2 rfl (K2 rfl (K2 rfl (K2 rfl (K2 rfl (K2 rfl (K2 rfl (K2 rfl (K2 rfl (K2 rfl (K2 rfl (K2 rfl (K2 rfl (K2 rfl (K2 rfl MI))))))))))))))))))))) fun iX iY bW=>?_)))
       have ek:=ai.all bW (iU p rfl)
       have en:=hg2.all bW iW
       refine KJ (iv ((LL l (MQ l ax ay s1)).2.1)) rfl rfl (KX rfl rfl rr) (KO ?_)
       have iZ:=La (iv ((LL l (MQ l ax ay s1)).2.1))
       refine KH (Ld (M5 ?_))
       have ja:Ps iX (fun i=>(Lh p) i\/((Lh g2) i)) p l (MW l k ax ay bx yy st):=(by rw[hT0];first|exact Mp hf2 ho1 ek en ei|exact Mp hf2 ho2 ek en ei)
       have jb:KS w0 T_r (fun i=>(Lh p) i\/((Lh g2) i)):=fun i h=>h.elim (fun y=>iT i y) (fun y=>iV i y)
       exact L7 ao rfl (ML (vs:=(Oh 0 0 0 0 0 (fun _=>(0:Int)))) LH rfl af iY) (Lz (v:=iv ((LL l (MQ l ax ay s1)).2.1)) rfl iZ) ⟨(fun i=>(Lh p) i\/((Lh g2) i)),(by rw[hR] <;> rfl),(ee.trans bW (KS.ok (S:=T_r) an K6)),⟨ja,jb⟩⟩
      ·replace aV:=of_decide_eq_false aV
       refine Li (KH (KK ?_))
       have hR:=h1.trans (by unfold Yr;exact if_pos (by first|assumption|(apply Decidable.byContradiction;assumption)))
       have hT0:=(show MW l k ax ay bx yy st=(Sk l k ax ay bx yy st).2.2 from if_pos (by rw[hR]))
       rw[hR] at hT0
       dsimp only at hT0
       rw[← UF (by first|assumption|(apply Decidable.byContradiction;assumption))] at hT0
       obtain⟨g2,a1,b1,a2,b2,hf2,hT2,ho1,ho2,ai,hq2,hg2,ap1_,ap2_,ap3_⟩:=NW eb
       have eo:KS w0 T_r (Lh p):=fun i h=>bj i ((fun i h=>(hT2 i).2 (Or.inl h)) i h)
       have ep:KM (Lh p) (Lh ac):=fun i h=>bl i ((fun i h=>(hT2 i).2 (Or.inl h)) i h)
       have jc:KM (Lh p) (Lh ah):=fun i h=>d8 i ((fun i h=>(hT2 i).2 (Or.inl h)) i h)
       have jd:KS w0 T_r (Lh g2):=fun i h=>bj i ((fun i h=>(hT2 i).2 (Or.inr (Or.inr h))) i h)
       have je:KM (Lh g2) (Lh ac):=fun i h=>bl i ((fun i h=>(hT2 i).2 (Or.inr (Or.inr h))) i h)
       have bX:KM (Lh p) (Lh g2):=ap2_
       refine KI (KW rfl rfl rfl aE (KJ (.agg #[.slice (some ⟨g2,0,none⟩) l.length l.length,iv ((a2:Nat):Int),.bool b2]) rfl rfl (KU MM rfl ak hq2 rr) (KJ (pt p 0) rfl rfl (Om rfl rfl rr) (Ll (us:=[.slice (some ⟨g2,0,none⟩) l.length l.length,iv ((a2:Nat):Int),.bool b2]) MM rfl rfl rfl rfl rfl ai rfl (K2 rfl (K2 rfl (K2 rfl MI))) fun lc jf bm=>?_))))
       have jg:=d9.all bm (ep.symm ac rfl)
       have jh:=iR.all bm (jc.symm ah rfl)
       have ji:=hg2.all bm bX.symm
       refine KO ?_
       refine KH (KK (KK (KI (KJ (.agg (Oh m (Rz l ax ay s1) (RC l ax ay s1) 0 0 ((LL l (MQ l ax ay s1)).1)).toArray) rfl rfl (KU LH rfl am jh rr) (Ll (us:=(Oh m (Rz l ax ay s1) (RC l ax ay s1) 0 0 ((LL l (MQ l ax ay s1)).1))) LH rfl rfl rfl af rfl jg rfl (K2 rfl (K2 rfl (K2 rfl (K2 rfl (K2 rfl (K2 rfl (K2 rfl (K2 rfl (K2 rfl (K2 rfl (K2 rfl (K2 rfl (K2 rfl (K2 rfl (K2 rfl (K2 rfl (K2 rfl (K2 rfl (K2 rfl (K2 rfl (K2 rfl MI))))))))))))))))))))) fun jj jk bY=>?_)))))
       have er:=jf.all bY (ep p rfl)
       have et:=ji.all bY je
       refine KJ (iv 0) rfl rfl (KX rfl rfl rr) (KO ?_)
       have jl:=La (iv 0)
       refine KH (Ld (Lq (O4 ?_)))
       have jm:Ps jj (fun i=>(Lh p) i\/((Lh g2) i)) p l (MW l k ax ay bx yy st):=(by rw[hT0];first|exact Mp hf2 ho1 er et bX|exact Mp hf2 ho2 er et bX)
       have jn:KS w0 T_r (fun i=>(Lh p) i\/((Lh g2) i)):=fun i h=>h.elim (fun y=>eo i y) (fun y=>jd i y)
       exact L7 ao rfl (ML (vs:=(Oh m (Rz l ax ay s1) (RC l ax ay s1) 0 0 ((LL l (MQ l ax ay s1)).1))) LH rfl af jk) (Lz (v:=iv 0) rfl jl) ⟨(fun i=>(Lh p) i\/((Lh g2) i)),(by rw[hR] <;> rfl),((ee.trans bm (KS.ok (S:=T_r) eo (fun _ x=>x))).trans bY (KS.ok (S:=T_r) an K6)),⟨jm,jn⟩⟩
   ·skip
    refine Li (KH (KK (KK ?_)))
    first|(rw[SD (has:=NF m) (by assumption)] at h1;replace h1:=h1.trans (by unfold Ym;exact if_pos rfl);(try dsimp only at h1))|(have hv1:Qs l ax ay s1=0:=(by first|assumption|(apply Decidable.byContradiction;assumption));replace h1:=h1.trans (by unfold Ym;exact if_pos hv1);(try dsimp only at h1);rw[← QP hv1] at h1)
    refine KI (KW rfl rfl rfl dk (KO ?_))
    have jo:=La (.bool (Nm m))
    refine KH ?_
    refine Lc jo (fun jp=>?_) (fun jp=>?_)
    ·skip
     refine KK ?_
     rw[UD (has:=Nm m) (by assumption)] at h1
     refine KI (KJ (.agg #[iv bx,iv yy]) rfl rfl (KU LP rfl cM dy rr) (Ly (R:=fun v_ w_=>∃ (aN:Nat->Prop),.tuple #[.agg #[iv (Rz l bx yy s1),iv (RC l bx yy s1)],iv (Qs l bx yy s1)]=v_/\KP aj aH w_/\(PG w_ aN ae l (MQ l bx yy s1) ([(p,st)])/\KS aH aj aN)) rfl rfl (LE rfl rfl rfl (fun _ _=>by kernel_rfl) (K4 _) (Lm ak (Lm rfl LS)) (U9 ae l s1 ([(p,st)]) bx yy aj _  bF ) (fun e_ w_ h_=>by obtain⟨T902_,he_,hr_⟩:=h_;exact⟨_,he_,T902_,rfl,hr_⟩)) ?_))
     rintro _ ld ⟨aN,rfl,bZ,⟨jq,eu⟩⟩
     have jr:=aI.all bZ (aq.symm ac rfl)
     have js:=aJ.all bZ (aB ah rfl)
     have aW:=ap.trans aC eu
     obtain⟨bn,b7⟩:=VE eu aq aI (aB.symm) aJ
     refine KJ (.tuple #[.agg #[iv (Rz l bx yy s1),iv (RC l bx yy s1)],iv (Qs l bx yy s1)]) rfl rfl (KQ rfl rfl rr) (KJ (.agg #[iv (Rz l bx yy s1),iv (RC l bx yy s1)]) rfl rfl (LM rfl rfl rfl rr) (KJ (iv (Qs l bx yy s1)) rfl rfl (LM rfl rfl rfl rr) (KJ (pt ah 3) rfl rfl (KT (n:=2) rfl am Tryz.underlying71 rfl (by kernel_rfl) (by decide) rfl rr) (ON (us:=[iv (Rz l bx yy s1),iv (RC l bx yy s1)]) (ns:=(Oh m 0 0 (Rz l bx yy s1) (RC l bx yy s1) (fun _=>(0:Int)))) LP rfl rfl rfl rfl rfl js (Nat.le_of_ble_eq_true rfl) (K2 rfl (K2 rfl MI)) rfl fun ew ex b8=>?_))))
     have b9:=jr.all b8 (aw.symm ac rfl)
     have ey:=jq.all b8 b7
     have bo:=(aC.trans bZ (fun i hi x=>((KS.ok (S:=T_r) ap (fun _ x=>x)) i hi x))).trans b8 (KS.ok (S:=T_r) av K6)
     refine KJ (iv (Qs l bx yy s1)) rfl rfl (KX rfl rfl rr) (KO ?_)
     have ez:=La (iv (Qs l bx yy s1))
     refine KH (KK (KI (KW rfl rfl rfl ez (KJ (.bool (decide ((Qs l bx yy s1)≠0))) rfl rfl (Mc rfl rfl rfl rfl rr) (KO ?_)))))
     have jt:=La (.bool (decide ((Qs l bx yy s1)≠0)))
     refine KH ?_
     refine Lc jt (fun aX=>?_) (fun aX=>?_)
     ·replace aX:=of_decide_eq_true aX
      refine Nx (Ml ?_)
      refine MP ⟨_,rfl,?_⟩
      refine KK (Li (KH (KK ?_)))
      first|have hR:=h1.trans (by unfold Ym;exact if_neg (by assumption))|have hR:=h1.trans (by unfold Vo;exact if_neg (by assumption))|have hR:=h1.trans (by unfold Yr;exact if_neg (by assumption))|(have hRR:=PY (l:=l) (k:=k) (ax:=ax) (ay:=ay) (bx:=bx) (yy:=yy) hm hs1 (by first|exact Or.inl (by assumption)|exact Or.inr (by assumption));obtain⟨s9,hR⟩:=hRR)
      have hT0:MW l k ax ay bx yy st=st:=by unfold MW;rw[hR];exact if_neg (by first|assumption|(intro z;exact absurd (show (120:Int)=0 from z) (by decide)))
      obtain⟨g2,a1,b1,a2,b2,hf2,hT2,ho1,ho2,ai,hq2,hg2,ap1_,ap2_,ap3_⟩:=NW ey
      have ju:KS w0 T_r (Lh p):=fun i h=>aW i ((fun i h=>(hT2 i).2 (Or.inl h)) i h)
      have jv:KM (Lh p) (Lh ac):=fun i h=>bn i ((fun i h=>(hT2 i).2 (Or.inl h)) i h)
      have jw:KS w0 T_r (Lh g2):=fun i h=>aW i ((fun i h=>(hT2 i).2 (Or.inr (Or.inr h))) i h)
      have jx:KM (Lh g2) (Lh ac):=fun i h=>bn i ((fun i h=>(hT2 i).2 (Or.inr (Or.inr h))) i h)
      have eA:KM (Lh p) (Lh g2):=ap2_
      refine KI (KJ (.agg (Oh 0 0 0 0 0 (fun _=>(0:Int))).toArray) rfl rfl (L0 (l':=[]) (cells:=(Oh 0 0 0 0 0 (fun _=>(0:Int))).toArray) rfl Rc (by kernel_rfl) rfl rr) (KW rfl rfl rfl ez (Ll (us:=(Oh 0 0 0 0 0 (fun _=>(0:Int)))) LH rfl rfl rfl af rfl b9 rfl (K2 rfl (K2 rfl (K2 rfl (K2 rfl (K2 rfl (K2 rfl (K2 rfl (K2 rfl (K2 rfl (K2 rfl (K2 rfl (K2 rfl (K2 rfl (K2 rfl (K2 rfl (K2 rfl (K2 rfl (K2 rfl (K2 rfl (K2 rfl (K2 rfl MI))))))))))))))))))))) fun jy jz cd=>?_)))
      have eB:=ai.all cd (jv p rfl)
      have eC:=hg2.all cd jx
      refine KJ (iv (Qs l bx yy s1)) rfl rfl (KX rfl rfl rr) (KO ?_)
      have jA:=La (iv (Qs l bx yy s1))
      refine KH (Ld (M5 ?_))
      have jB:Ps jy (fun i=>(Lh p) i\/((Lh g2) i)) p l (MW l k ax ay bx yy st):=(by rw[hT0];first|exact Mp hf2 ho1 eB eC eA|exact Mp hf2 ho2 eB eC eA)
      have jC:KS w0 T_r (fun i=>(Lh p) i\/((Lh g2) i)):=fun i h=>h.elim (fun y=>ju i y) (fun y=>jw i y)
      exact L7 ao rfl (ML (vs:=(Oh 0 0 0 0 0 (fun _=>(0:Int)))) LH rfl af jz) (Lz (v:=iv (Qs l bx yy s1)) rfl jA) ⟨(fun i=>(Lh p) i\/((Lh g2) i)),(by rw[hR] <;> rfl),(bo.trans cd (KS.ok (S:=T_r) an K6)),⟨jB,jC⟩⟩
     ·replace aX:=of_decide_eq_false aX
      refine Li (KH (KK (KK ?_)))
      first|(rw[SD (has:=Nm m) (by assumption)] at h1;replace h1:=h1.trans (by unfold Vo;exact if_pos rfl);(try dsimp only at h1))|(have hv2:Qs l bx yy (MQ l ax ay s1)=0:=(by first|assumption|(apply Decidable.byContradiction;assumption));replace h1:=h1.trans (by unfold Vo;exact if_pos hv2);(try dsimp only at h1);rw[← QP hv2] at h1)|(have hv2:Qs l bx yy s1=0:=(by first|assumption|(apply Decidable.byContradiction;assumption));replace h1:=h1.trans (by unfold Vo;exact if_pos hv2);(try dsimp only at h1);rw[← QP hv2] at h1)
      refine KI (Ly (R:=fun v_ w_=>∃ (ce:Nat->Prop),.tuple #[LK ((LL l (MQ l bx yy s1)).1),iv ((LL l (MQ l bx yy s1)).2.1)]=v_/\KP aN ew w_/\(PG w_ ce ae l (WZ l (MQ l bx yy s1)) ([(p,st)])/\KS ew aN ce)) rfl rfl (LE rfl rfl rfl (fun _ _=>by kernel_rfl) (K4 _) (Lm ak LS) (Rk ae l (MQ l bx yy s1) ([(p,st)]) aN _ (hO.but bo (ovO hG)) (ovO (UK aW hG hA)) ey ) (fun e_ w_ h_=>by obtain⟨T1007_,he_,hr_⟩:=h_;exact⟨_,he_,T1007_,rfl,hr_⟩)) ?_)
      rintro _ le ⟨ce,rfl,cf,⟨jD,eD⟩⟩
      have jE:=b9.all cf (bn.symm ac rfl)
      have jF:=ex.all cf (b7.symm ah rfl)
      have bp:=aW.trans bo eD
      obtain⟨bq,eE⟩:=VE eD bn b9 b7 ex
      refine KJ (.tuple #[LK ((LL l (MQ l bx yy s1)).1),iv ((LL l (MQ l bx yy s1)).2.1)]) rfl rfl (KQ rfl rfl rr) (KJ (LK ((LL l (MQ l bx yy s1)).1)) rfl rfl (LM rfl rfl rfl rr) (KJ (iv ((LL l (MQ l bx yy s1)).2.1)) rfl rfl (LM rfl rfl rfl rr) (KJ (pt ah 5) rfl rfl (KT (n:=16) rfl am Tryz.underlying71 rfl (by kernel_rfl) (by decide) rfl rr) (ON (us:=L8 16 ((LL l (MQ l bx yy s1)).1)) (ns:=(Oh m 0 0 (Rz l bx yy s1) (RC l bx yy s1) ((LL l (MQ l bx yy s1)).1))) Qu rfl rfl rfl rfl rfl jF (Nat.le_of_ble_eq_true rfl) (RY _ _) rfl fun lf jG cg=>?_))))
      have eF:=jE.all cg (aw.symm ac rfl)
      have eG:=jD.all cg eE
      have eH:=(bo.trans cf (fun i hi x=>((KS.ok (S:=T_r) aW (fun _ x=>x)) i hi x))).trans cg (KS.ok (S:=T_r) av K6)
      refine KJ (iv ((LL l (MQ l bx yy s1)).2.1)) rfl rfl (KX rfl rfl rr) (KO ?_)
      have eI:=La (iv ((LL l (MQ l bx yy s1)).2.1))
      refine KH (KK (KI (KW rfl rfl rfl eI (KJ (.bool (decide (((LL l (MQ l bx yy s1)).2.1)≠0))) rfl rfl (Mc rfl rfl rfl rfl rr) (KO ?_)))))
      have jH:=La (.bool (decide (((LL l (MQ l bx yy s1)).2.1)≠0)))
      refine KH ?_
      refine Lc jH (fun aY=>?_) (fun aY=>?_)
      ·replace aY:=of_decide_eq_true aY
       refine Nx (Ml ?_)
       refine MP ⟨_,rfl,?_⟩
       refine KK (Li (KH (KK ?_)))
       first|have hR:=h1.trans (by unfold Ym;exact if_neg (by assumption))|have hR:=h1.trans (by unfold Vo;exact if_neg (by assumption))|have hR:=h1.trans (by unfold Yr;exact if_neg (by assumption))|(have hRR:=PY (l:=l) (k:=k) (ax:=ax) (ay:=ay) (bx:=bx) (yy:=yy) hm hs1 (by first|exact Or.inl (by assumption)|exact Or.inr (by assumption));obtain⟨s9,hR⟩:=hRR)
       have hT0:MW l k ax ay bx yy st=st:=by unfold MW;rw[hR];exact if_neg (by first|assumption|(intro z;exact absurd (show (120:Int)=0 from z) (by decide)))
       obtain⟨g2,a1,b1,a2,b2,hf2,hT2,ho1,ho2,ai,hq2,hg2,ap1_,ap2_,ap3_⟩:=NW eG
       have jI:KS w0 T_r (Lh p):=fun i h=>bp i ((fun i h=>(hT2 i).2 (Or.inl h)) i h)
       have jJ:KM (Lh p) (Lh ac):=fun i h=>bq i ((fun i h=>(hT2 i).2 (Or.inl h)) i h)
       have jK:KS w0 T_r (Lh g2):=fun i h=>bp i ((fun i h=>(hT2 i).2 (Or.inr (Or.inr h))) i h)
       have jL:KM (Lh g2) (Lh ac):=fun i h=>bq i ((fun i h=>(hT2 i).2 (Or.inr (Or.inr h))) i h)
       have eJ:KM (Lh p) (Lh g2):=ap2_
       refine KI (KJ (.agg (Oh 0 0 0 0 0 (fun _=>(0:Int))).toArray) rfl rfl (L0 (l':=[]) (cells:=(Oh 0 0 0 0 0 (fun _=>(0:Int))).toArray) rfl Rc (by kernel_rfl) rfl rr) (KW rfl rfl rfl eI (Ll (us:=(Oh 0 0 0 0 0 (fun _=>(0:Int)))) LH rfl rfl rfl af rfl eF rfl (K2 rfl (K2 rfl (K2 rfl (K2 rfl (K2 rfl (K2 rfl (K2 rfl (K2 rfl (K2 rfl (K2 rfl (K2 rfl (K2 rfl (K2 rfl (K2 rfl (K2 rfl (K2 rfl (K2 rfl (K2 rfl (K2 rfl (K2 rfl (K2 rfl MI))))))))))))))))))))) fun jM jN ci=>?_)))
       have eK:=ai.all ci (jJ p rfl)
       have eL:=hg2.all ci jL
       refine KJ (iv ((LL l (MQ l bx yy s1)).2.1)) rfl rfl (KX rfl rfl rr) (KO ?_)
       have jO:=La (iv ((LL l (MQ l bx yy s1)).2.1))
       refine KH (Ld (M5 ?_))
       have jP:Ps jM (fun i=>(Lh p) i\/((Lh g2) i)) p l (MW l k ax ay bx yy st):=(by rw[hT0];first|exact Mp hf2 ho1 eK eL eJ|exact Mp hf2 ho2 eK eL eJ)
       have jQ:KS w0 T_r (fun i=>(Lh p) i\/((Lh g2) i)):=fun i h=>h.elim (fun y=>jI i y) (fun y=>jK i y)
       exact L7 ao rfl (ML (vs:=(Oh 0 0 0 0 0 (fun _=>(0:Int)))) LH rfl af jN) (Lz (v:=iv ((LL l (MQ l bx yy s1)).2.1)) rfl jO) ⟨(fun i=>(Lh p) i\/((Lh g2) i)),(by rw[hR] <;> rfl),(eH.trans ci (KS.ok (S:=T_r) an K6)),⟨jP,jQ⟩⟩
      ·replace aY:=of_decide_eq_false aY
       refine Li (KH (KK ?_))
       have hR:=h1.trans (by unfold Yr;exact if_pos (by first|assumption|(apply Decidable.byContradiction;assumption)))
       have hT0:=(show MW l k ax ay bx yy st=(Sk l k ax ay bx yy st).2.2 from if_pos (by rw[hR]))
       rw[hR] at hT0
       dsimp only at hT0
       rw[← UF (by first|assumption|(apply Decidable.byContradiction;assumption))] at hT0
       obtain⟨g2,a1,b1,a2,b2,hf2,hT2,ho1,ho2,ai,hq2,hg2,ap1_,ap2_,ap3_⟩:=NW eG
       have eM:KS w0 T_r (Lh p):=fun i h=>bp i ((fun i h=>(hT2 i).2 (Or.inl h)) i h)
       have eN:KM (Lh p) (Lh ac):=fun i h=>bq i ((fun i h=>(hT2 i).2 (Or.inl h)) i h)
       have jR:KM (Lh p) (Lh ah):=fun i h=>eE i ((fun i h=>(hT2 i).2 (Or.inl h)) i h)
       have jS:KS w0 T_r (Lh g2):=fun i h=>bp i ((fun i h=>(hT2 i).2 (Or.inr (Or.inr h))) i h)
       have jT:KM (Lh g2) (Lh ac):=fun i h=>bq i ((fun i h=>(hT2 i).2 (Or.inr (Or.inr h))) i h)
       have cj:KM (Lh p) (Lh g2):=ap2_
       refine KI (KW rfl rfl rfl aE (KJ (.agg #[.slice (some ⟨g2,0,none⟩) l.length l.length,iv ((a2:Nat):Int),.bool b2]) rfl rfl (KU MM rfl ak hq2 rr) (KJ (pt p 0) rfl rfl (Om rfl rfl rr) (Ll (us:=[.slice (some ⟨g2,0,none⟩) l.length l.length,iv ((a2:Nat):Int),.bool b2]) MM rfl rfl rfl rfl rfl ai rfl (K2 rfl (K2 rfl (K2 rfl MI))) fun lg jU bt=>?_))))
       have jV:=eF.all bt (eN.symm ac rfl)
       have jW:=jG.all bt (jR.symm ah rfl)
       have jX:=hg2.all bt cj.symm
       refine KO ?_
       refine KH (KK (KK (KI (KJ (.agg (Oh m 0 0 (Rz l bx yy s1) (RC l bx yy s1) ((LL l (MQ l bx yy s1)).1)).toArray) rfl rfl (KU LH rfl am jW rr) (Ll (us:=(Oh m 0 0 (Rz l bx yy s1) (RC l bx yy s1) ((LL l (MQ l bx yy s1)).1))) LH rfl rfl rfl af rfl jV rfl (K2 rfl (K2 rfl (K2 rfl (K2 rfl (K2 rfl (K2 rfl (K2 rfl (K2 rfl (K2 rfl (K2 rfl (K2 rfl (K2 rfl (K2 rfl (K2 rfl (K2 rfl (K2 rfl (K2 rfl (K2 rfl (K2 rfl (K2 rfl (K2 rfl MI))))))))))))))))))))) fun jY jZ cm=>?_)))))
       have eO:=jU.all cm (eN p rfl)
       have eP:=jX.all cm jT
       refine KJ (iv 0) rfl rfl (KX rfl rfl rr) (KO ?_)
       have j0:=La (iv 0)
       refine KH (Ld (Lq (O4 ?_)))
       have j1:Ps jY (fun i=>(Lh p) i\/((Lh g2) i)) p l (MW l k ax ay bx yy st):=(by rw[hT0];first|exact Mp hf2 ho1 eO eP cj|exact Mp hf2 ho2 eO eP cj)
       have j2:KS w0 T_r (fun i=>(Lh p) i\/((Lh g2) i)):=fun i h=>h.elim (fun y=>eM i y) (fun y=>jS i y)
       exact L7 ao rfl (ML (vs:=(Oh m 0 0 (Rz l bx yy s1) (RC l bx yy s1) ((LL l (MQ l bx yy s1)).1))) LH rfl af jZ) (Lz (v:=iv 0) rfl j0) ⟨(fun i=>(Lh p) i\/((Lh g2) i)),(by rw[hR] <;> rfl),((eH.trans bt (KS.ok (S:=T_r) eM (fun _ x=>x))).trans cm (KS.ok (S:=T_r) an K6)),⟨j1,j2⟩⟩
    ·skip
     refine Li (KH (KK (KK ?_)))
     first|(rw[SD (has:=Nm m) (by assumption)] at h1;replace h1:=h1.trans (by unfold Vo;exact if_pos rfl);(try dsimp only at h1))|(have hv2:Qs l bx yy (MQ l ax ay s1)=0:=(by first|assumption|(apply Decidable.byContradiction;assumption));replace h1:=h1.trans (by unfold Vo;exact if_pos hv2);(try dsimp only at h1);rw[← QP hv2] at h1)|(have hv2:Qs l bx yy s1=0:=(by first|assumption|(apply Decidable.byContradiction;assumption));replace h1:=h1.trans (by unfold Vo;exact if_pos hv2);(try dsimp only at h1);rw[← QP hv2] at h1)
     refine KI (Ly (R:=fun v_ w_=>∃ (cn:Nat->Prop),.tuple #[LK ((LL l s1).1),iv ((LL l s1).2.1)]=v_/\KP aj aH w_/\(PG w_ cn ae l (WZ l s1) ([(p,st)])/\KS aH aj cn)) rfl rfl (LE rfl rfl rfl (fun _ _=>by kernel_rfl) (K4 _) (Lm ak LS) (Rk ae l s1 ([(p,st)]) aj _ (hO.but aC (ovO hG)) (ovO (UK ap hG hA)) bF ) (fun e_ w_ h_=>by obtain⟨T1169_,he_,hr_⟩:=h_;exact⟨_,he_,T1169_,rfl,hr_⟩)) ?_)
     rintro _ lh ⟨cn,rfl,co,⟨j3,eQ⟩⟩
     have j4:=aI.all co (aq.symm ac rfl)
     have j5:=aJ.all co (aB ah rfl)
     have bu:=ap.trans aC eQ
     obtain⟨bv,eR⟩:=VE eQ aq aI (aB.symm) aJ
     refine KJ (.tuple #[LK ((LL l s1).1),iv ((LL l s1).2.1)]) rfl rfl (KQ rfl rfl rr) (KJ (LK ((LL l s1).1)) rfl rfl (LM rfl rfl rfl rr) (KJ (iv ((LL l s1).2.1)) rfl rfl (LM rfl rfl rfl rr) (KJ (pt ah 5) rfl rfl (KT (n:=16) rfl am Tryz.underlying71 rfl (by kernel_rfl) (by decide) rfl rr) (ON (us:=L8 16 ((LL l s1).1)) (ns:=(Oh m 0 0 0 0 ((LL l s1).1))) Qu rfl rfl rfl rfl rfl j5 (Nat.le_of_ble_eq_true rfl) (RY _ _) rfl fun lj j6 cq=>?_))))
     have eS:=j4.all cq (aw.symm ac rfl)
     have eT:=j3.all cq eR
     have eU:=(aC.trans co (fun i hi x=>((KS.ok (S:=T_r) ap (fun _ x=>x)) i hi x))).trans cq (KS.ok (S:=T_r) av K6)
     refine KJ (iv ((LL l s1).2.1)) rfl rfl (KX rfl rfl rr) (KO ?_)
     have eV:=La (iv ((LL l s1).2.1))
     refine KH (KK (KI (KW rfl rfl rfl eV (KJ (.bool (decide (((LL l s1).2.1)≠0))) rfl rfl (Mc rfl rfl rfl rfl rr) (KO ?_)))))
     have j7:=La (.bool (decide (((LL l s1).2.1)≠0)))
     refine KH ?_
     refine Lc j7 (fun aZ=>?_) (fun aZ=>?_)
     ·replace aZ:=of_decide_eq_true aZ
      refine Nx (Ml ?_)
      refine MP ⟨_,rfl,?_⟩
      refine KK (Li (KH (KK ?_)))
      first|have hR:=h1.trans (by unfold Ym;exact if_neg (by assumption))|have hR:=h1.trans (by unfold Vo;exact if_neg (by assumption))|have hR:=h1.trans (by unfold Yr;exact if_neg (by assumption))|(have hRR:=PY (l:=l) (k:=k) (ax:=ax) (ay:=ay) (bx:=bx) (yy:=yy) hm hs1 (by first|exact Or.inl (by assumption)|exact Or.inr (by assumption));obtain⟨s9,hR⟩:=hRR)
      have hT0:MW l k ax ay bx yy st=st:=by unfold MW;rw[hR];exact if_neg (by first|assumption|(intro z;exact absurd (show (120:Int)=0 from z) (by decide)))
      obtain⟨g2,a1,b1,a2,b2,hf2,hT2,ho1,ho2,ai,hq2,hg2,ap1_,ap2_,ap3_⟩:=NW eT
      have j8:KS w0 T_r (Lh p):=fun i h=>bu i ((fun i h=>(hT2 i).2 (Or.inl h)) i h)
      have j9:KM (Lh p) (Lh ac):=fun i h=>bv i ((fun i h=>(hT2 i).2 (Or.inl h)) i h)
      have ka:KS w0 T_r (Lh g2):=fun i h=>bu i ((fun i h=>(hT2 i).2 (Or.inr (Or.inr h))) i h)
      have kb:KM (Lh g2) (Lh ac):=fun i h=>bv i ((fun i h=>(hT2 i).2 (Or.inr (Or.inr h))) i h)
      have eW:KM (Lh p) (Lh g2):=ap2_
      refine KI (KJ (.agg (Oh 0 0 0 0 0 (fun _=>(0:Int))).toArray) rfl rfl (L0 (l':=[]) (cells:=(Oh 0 0 0 0 0 (fun _=>(0:Int))).toArray) rfl Rc (by kernel_rfl) rfl rr) (KW rfl rfl rfl eV (Ll (us:=(Oh 0 0 0 0 0 (fun _=>(0:Int)))) LH rfl rfl rfl af rfl eS rfl (K2 rfl (K2 rfl (K2 rfl (K2 rfl (K2 rfl (K2 rfl (K2 rfl (K2 rfl (K2 rfl (K2 rfl (K2 rfl (K2 rfl (K2 rfl (K2 rfl (K2 rfl (K2 rfl (K2 rfl (K2 rfl (K2 rfl (K2 rfl (K2 rfl MI))))))))))))))))))))) fun kd ke cr=>?_)))
      have eX:=ai.all cr (j9 p rfl)
      have eY:=hg2.all cr kb
      refine KJ (iv ((LL l s1).2.1)) rfl rfl (KX rfl rfl rr) (KO ?_)
      have kf:=La (iv ((LL l s1).2.1))
      refine KH (Ld (M5 ?_))
      have kg:Ps kd (fun i=>(Lh p) i\/((Lh g2) i)) p l (MW l k ax ay bx yy st):=(by rw[hT0];first|exact Mp hf2 ho1 eX eY eW|exact Mp hf2 ho2 eX eY eW)
      have ki:KS w0 T_r (fun i=>(Lh p) i\/((Lh g2) i)):=fun i h=>h.elim (fun y=>j8 i y) (fun y=>ka i y)
      exact L7 ao rfl (ML (vs:=(Oh 0 0 0 0 0 (fun _=>(0:Int)))) LH rfl af ke) (Lz (v:=iv ((LL l s1).2.1)) rfl kf) ⟨(fun i=>(Lh p) i\/((Lh g2) i)),(by rw[hR] <;> rfl),(eU.trans cr (KS.ok (S:=T_r) an K6)),⟨kg,ki⟩⟩
     ·replace aZ:=of_decide_eq_false aZ
      refine Li (KH (KK ?_))
      have hR:=h1.trans (by unfold Yr;exact if_pos (by first|assumption|(apply Decidable.byContradiction;assumption)))
      have hT0:=(show MW l k ax ay bx yy st=(Sk l k ax ay bx yy st).2.2 from if_pos (by rw[hR]))
      rw[hR] at hT0
      dsimp only at hT0
      rw[← UF (by first|assumption|(apply Decidable.byContradiction;assumption))] at hT0
      obtain⟨g2,a1,b1,a2,b2,hf2,hT2,ho1,ho2,ai,hq2,hg2,ap1_,ap2_,ap3_⟩:=NW eT
      have eZ:KS w0 T_r (Lh p):=fun i h=>bu i ((fun i h=>(hT2 i).2 (Or.inl h)) i h)
      have e6:KM (Lh p) (Lh ac):=fun i h=>bv i ((fun i h=>(hT2 i).2 (Or.inl h)) i h)
      have kj:KM (Lh p) (Lh ah):=fun i h=>eR i ((fun i h=>(hT2 i).2 (Or.inl h)) i h)
      have kn:KS w0 T_r (Lh g2):=fun i h=>bu i ((fun i h=>(hT2 i).2 (Or.inr (Or.inr h))) i h)
      have ko:KM (Lh g2) (Lh ac):=fun i h=>bv i ((fun i h=>(hT2 i).2 (Or.inr (Or.inr h))) i h)
      have ct:KM (Lh p) (Lh g2):=ap2_
      refine KI (KW rfl rfl rfl aE (KJ (.agg #[.slice (some ⟨g2,0,none⟩) l.length l.length,iv ((a2:Nat):Int),.bool b2]) rfl rfl (KU MM rfl ak hq2 rr) (KJ (pt p 0) rfl rfl (Om rfl rfl rr) (Ll (us:=[.slice (some ⟨g2,0,none⟩) l.length l.length,iv ((a2:Nat):Int),.bool b2]) MM rfl rfl rfl rfl rfl ai rfl (K2 rfl (K2 rfl (K2 rfl MI))) fun lk kp bz=>?_))))
      have kq:=eS.all bz (e6.symm ac rfl)
      have kr:=j6.all bz (kj.symm ah rfl)
      have ks:=hg2.all bz ct.symm
      refine KO ?_
      refine KH (KK (KK (KI (KJ (.agg (Oh m 0 0 0 0 ((LL l s1).1)).toArray) rfl rfl (KU LH rfl am kr rr) (Ll (us:=(Oh m 0 0 0 0 ((LL l s1).1))) LH rfl rfl rfl af rfl kq rfl (K2 rfl (K2 rfl (K2 rfl (K2 rfl (K2 rfl (K2 rfl (K2 rfl (K2 rfl (K2 rfl (K2 rfl (K2 rfl (K2 rfl (K2 rfl (K2 rfl (K2 rfl (K2 rfl (K2 rfl (K2 rfl (K2 rfl (K2 rfl (K2 rfl MI))))))))))))))))))))) fun kt ku cu=>?_)))))
      have e7:=kp.all cu (e6 p rfl)
      have e8:=ks.all cu ko
      refine KJ (iv 0) rfl rfl (KX rfl rfl rr) (KO ?_)
      have kv:=La (iv 0)
      refine KH (Ld (Lq (O4 ?_)))
      have kw:Ps kt (fun i=>(Lh p) i\/((Lh g2) i)) p l (MW l k ax ay bx yy st):=(by rw[hT0];first|exact Mp hf2 ho1 e7 e8 ct|exact Mp hf2 ho2 e7 e8 ct)
      have kx:KS w0 T_r (fun i=>(Lh p) i\/((Lh g2) i)):=fun i h=>h.elim (fun y=>eZ i y) (fun y=>kn i y)
      exact L7 ao rfl (ML (vs:=(Oh m 0 0 0 0 ((LL l s1).1))) LH rfl af ku) (Lz (v:=iv 0) rfl kv) ⟨(fun i=>(Lh p) i\/((Lh g2) i)),(by rw[hR] <;> rfl),((eU.trans bz (KS.ok (S:=T_r) eZ (fun _ x=>x))).trans cu (KS.ok (S:=T_r) an K6)),⟨kw,kx⟩⟩
  ·skip
   refine KI (Ly (R:=fun v_ w_=>v_ = .bool false/\KP (fun _=>False) bB w_) rfl rfl (LE rfl rfl rfl (fun _ _=>by kernel_rfl) (K4 _) (Lm ak LS) (Rj ae l s1 ([(p,st)]) aj _  aG ) (fun e_ w_ h_=>⟨_,h_.1,(congrArg Value.bool a9),h_.2⟩)) ?_)
   rintro _ ky ⟨rfl,e9⟩
   obtain⟨kz,kA,kB⟩:=ND e9 bC aG dj
   have fa:=bD.tr e9
   refine KJ (.bool false) rfl rfl (KQ rfl rfl rr) (KR (iv k) 1 false 30 rfl rfl rfl rfl rfl (KQ rfl cL rr) (KR (pt ah 0) 1 false 30 rfl rfl rfl rfl rfl (KT (n:=1) rfl am Tryz.underlying71 rfl (by kernel_rfl) (by decide) rfl rr) (KR (iv m) 1 false 30 rfl rfl rfl rfl rfl (KV rfl rfl Tryz.underlying3 kB rfl rfl rr) (LA (R:=fun v_ w_=>v_ = .bool false/\KP (fun _=>False) ky w_) 1 false 30 rfl rfl rfl rfl rfl (LE rfl rfl rfl (fun _ _=>by kernel_rfl) (K4 _) (Lm rfl (Lm rfl LS)) (aAV k m  _ (hA.but fa hG)  ) (fun e_ w_ h_=>⟨_,h_.1,(congrArg Value.bool (decide_eq_false dr)),h_.2⟩)) ?_))))
   rintro _ ll ⟨rfl,fb⟩
   obtain⟨kC,kD⟩:=NL fb kz kA
   refine KR (.bool true) 1 false 30 rfl rfl rfl rfl rfl (LW rfl rfl rfl rr) (KJ (.bool true) rfl rfl (Lb rfl rfl rfl rr) (KO ?_))
   have kE:=La (.bool true)
   refine KH ?_
   refine Lc (t:=true) kE (fun _=>?_) (fun e=>by cases e)
   refine Nx (Ml ?_)
   refine MP ⟨_,rfl,?_⟩
   refine KK (Li (KH (KK ?_)))
   first|have hR:=h1.trans (by unfold Ym;exact if_neg (by assumption))|have hR:=h1.trans (by unfold Vo;exact if_neg (by assumption))|have hR:=h1.trans (by unfold Yr;exact if_neg (by assumption))|(have hRR:=PY (l:=l) (k:=k) (ax:=ax) (ay:=ay) (bx:=bx) (yy:=yy) hm hs1 (by first|exact Or.inl (by assumption)|exact Or.inr (by assumption));obtain⟨s9,hR⟩:=hRR)
   have hT0:MW l k ax ay bx yy st=st:=by unfold MW;rw[hR];exact if_neg (by first|assumption|(intro z;exact absurd (show (120:Int)=0 from z) (by decide)))
   obtain⟨g2,a1,b1,a2,b2,hf2,hT2,ho1,ho2,ai,hq2,hg2,ap1_,ap2_,ap3_⟩:=NW kD
   have kF:KS w0 T_r (Lh p):=fun i h=>ap i ((fun i h=>(hT2 i).2 (Or.inl h)) i h)
   have kG:KM (Lh p) (Lh ac):=fun i h=>aq i ((fun i h=>(hT2 i).2 (Or.inl h)) i h)
   have kH:KS w0 T_r (Lh g2):=fun i h=>ap i ((fun i h=>(hT2 i).2 (Or.inr (Or.inr h))) i h)
   have kI:KM (Lh g2) (Lh ac):=fun i h=>aq i ((fun i h=>(hT2 i).2 (Or.inr (Or.inr h))) i h)
   have fc:KM (Lh p) (Lh g2):=ap2_
   refine KI (KJ (.agg (Oh 0 0 0 0 0 (fun _=>(0:Int))).toArray) rfl rfl (L0 (l':=[]) (cells:=(Oh 0 0 0 0 0 (fun _=>(0:Int))).toArray) rfl Rc (by kernel_rfl) rfl rr) (KW rfl rfl rfl dl (Ll (us:=(Oh 0 0 0 0 0 (fun _=>(0:Int)))) LH rfl rfl rfl af rfl kC rfl (K2 rfl (K2 rfl (K2 rfl (K2 rfl (K2 rfl (K2 rfl (K2 rfl (K2 rfl (K2 rfl (K2 rfl (K2 rfl (K2 rfl (K2 rfl (K2 rfl (K2 rfl (K2 rfl (K2 rfl (K2 rfl (K2 rfl (K2 rfl (K2 rfl MI))))))))))))))))))))) fun kJ kK cv=>?_)))
   have fd:=ai.all cv (kG p rfl)
   have fe:=hg2.all cv kI
   refine KJ (iv 120) rfl rfl (KX rfl rfl rr) (KO ?_)
   have kL:=La (iv 120)
   refine KH (Ld (M5 ?_))
   have kM:Ps kJ (fun i=>(Lh p) i\/((Lh g2) i)) p l (MW l k ax ay bx yy st):=(by rw[hT0];first|exact Mp hf2 ho1 fd fe fc|exact Mp hf2 ho2 fd fe fc)
   have kN:KS w0 T_r (fun i=>(Lh p) i\/((Lh g2) i)):=fun i h=>h.elim (fun y=>kF i y) (fun y=>kH i y)
   exact L7 ao rfl (ML (vs:=(Oh 0 0 0 0 0 (fun _=>(0:Int)))) LH rfl af kK) (Lz (v:=iv 120) rfl kL) ⟨(fun i=>(Lh p) i\/((Lh g2) i)),(by rw[hR] <;> rfl),((fa.tr fb).trans cv (KS.ok (S:=T_r) an K6)),⟨kM,kN⟩⟩
end Go.Proofs.YtknjpdcpmpfklaaGreatDoor
set_option maxRecDepth 100000
namespace Go.Proofs.YtknjpdcpmpfklaaGreatDoor
open Go.ChangeShapes Go.WideShapes Go.ChangeAt Go.RowKit Go.Deep
def Yl : List (String × DataW Unit) := [("clapboard/quant.steps", Rows.laid_clapboard_quant_steps), ("clapboard/scan.order", Rows.laid_clapboard_scan_order), ("clapboard/wave.waves", Rows.laid_clapboard_wave_waves), ("clapboard/block.acts", Rows.laid_clapboard_block_acts)]
theorem Tryz.gActs : Tryz.prog.globalNamed "clapboard/block.acts" = some 1 := by kernel_rfl
theorem Tryz.tActs:(Tryz.prog.globals[1]?).map (·.type)=some 165:=by kernel_rfl
theorem Tryz.c21a:Tryz.prog.cellsOf 165=21:=by kernel_rfl
theorem Tryz.c3a:Tryz.prog.cellsOf 164=3:=by kernel_rfl
theorem Tryz.c1b:Tryz.prog.cellsOf 4=1:=by kernel_rfl
theorem ay0(os:Os)(args:Array Value):laidMetH Tryz.prog Yl ((World.doorLaid Tryz.prog 400 os).forCall (fun _ _=>0) ⟨#[],args,[]⟩).memory :=
 laidMetH_of_parts3 (fuel:=8) (laidMet_of_run' 8 (by kernel_rfl) (by kernel_rfl)) (by kernel_rfl) (by kernel_rfl)
def aDu{H:Type}(q:Int×Bool×Bool):DataW H:=.agg [.lit (.int .i64 q.1),.lit (.bool q.2.1),.lit (.bool q.2.2)]
def aDS:List (Int×Bool×Bool):=[(0,false,false),(0,false,false),(0,false,false),(0,false,false),(1,true,false),(2,false,true),(2,true,true)]
theorem ay5{W:World}{f:Nat}{l:List (Int×Bool×Bool)}{cs:List Value}{p:List MemPlace}
  (hd:DataW.trod (fun _=>()) Tryz.prog W 0 (fun _=>true) false f 165 cs=some (.agg (l.map aDu),p)):cs.length=21/\∀ u,u<7->∃ q,l[u]? = some q/\cs[u*3]? = some (.int .i64 q.1)/\cs[u*3+1]? = some (.bool q.2.1)/\cs[u*3+2]? = some (.bool q.2.2):=by
 obtain⟨xs,k,rfl,hx,hl,hn,hel⟩:=DataW.trod_array Tryz.underlying165 hd
 rw[Tryz.c21a] at hl
 refine⟨hl,fun u hu=>?_⟩
 simp only[Prod.mk.injEq,DataW.agg.injEq] at hx
 have h1:=hel u hu
 rw[Tryz.c3a,List.getElem?_eq_getElem (by omega)] at h1
 have e1:(xs.map (·.1))[u]? = some xs[u].1:=by rw[List.getElem?_map,List.getElem?_eq_getElem (by omega)];rfl
 rw[← hx.1,List.getElem?_map] at e1
 cases hq:l[u]? with
 | none=>rw[hq] at e1;cases e1
 | some y =>
  rw[hq] at e1
  simp only[Option.map_some,Option.some.injEq] at e1
  obtain⟨y0,y1,y2,n,hagg,hsz,h2,h3,h4⟩:=trod_struct3 Tryz.underlying164 h1
  simp only[Tryz.c1,Tryz.c1b] at h2 h3 h4
  obtain⟨z0,hz0,hd0,_⟩:=DataW.trod_int Tryz.underlying3 h2
  obtain⟨b1,hz1,hd1⟩:=DataW.trod_bool Tryz.underlying4 h3
  obtain⟨b2,hz2,hd2⟩:=DataW.trod_bool Tryz.underlying4 h4
  rw[hagg] at e1
  simp only[aDu,DataW.agg.injEq,List.cons.injEq,and_true] at e1
  rw[hd0,hd1,hd2] at e1
  simp only[DataW.lit.injEq,Lit.int.injEq,Lit.bool.injEq,true_and] at e1
  obtain⟨r0,r1,r2⟩:=e1
  have g0:=congrArg (·[0]?) hz0
  have g1:=congrArg (·[0]?) hz1
  have g2:=congrArg (·[0]?) hz2
  refine⟨y,rfl,?_,?_,?_⟩
  ·rw[r0];simpa [List.getElem?_take,List.getElem?_drop] using g0
  ·rw[r1];simpa [List.getElem?_take,List.getElem?_drop] using g1
  ·rw[r2];simpa [List.getElem?_take,List.getElem?_drop] using g2
theorem aBH{W : World}{f : Nat}{cs : Array Value}{p : List MemPlace}(hv : World.var? Tryz.prog W "clapboard/block.acts" = some cs)
  (hd:DataW.trod (fun _=>()) Tryz.prog W 0 (fun _=>true) false f 165 cs.toList=some (Rows.laid_clapboard_block_acts,p)) (hs:5<=W.heap.size):NP W:=by
 have key:=(ay5 (l:=aDS) hd).2
 refine⟨hs,fun i hi=>?_⟩
 rw[World.var?_cell Tryz.gActs hv i,show cs[i]? = cs.toList[i]? by simp]
 obtain⟨q,hq,k0,k1,k2⟩:=key (i/3) (by omega)
 have hc:i/3<7/\(i=i/3*3\/i=i/3*3+1\/i=i/3*3+2):=by omega
 generalize i/3=u at *
 obtain⟨hu,hi3⟩:=hc
 have hu7:u=0\/u=1\/u=2\/u=3\/u=4\/u=5\/u=6:=by omega
 rcases hu7 with rfl|rfl|rfl|rfl|rfl|rfl|rfl <;> obtain rfl:=Option.some.inj hq <;> rcases hi3 with rfl|rfl|rfl <;> first|exact k0.trans rfl|exact k1.trans rfl|exact k2.trans rfl
theorem WK{W:World}(h:laidMetH Tryz.prog Yl W):NY W/\Oo W/\Qi W/\NP W:=by
 rw[MakeChecks.laidMetH_plain _ _ _ (by kernel_rfl)] at h
 obtain⟨ps,⟨g0,t0,cs0,f0,p0,q0,hg0,ht0,hv0,hd0,⟨g1,t1,cs1,f1,p1,q1,hg1,ht1,hv1,hd1,⟨g2,t2,cs2,f2,p2,q2,hg2,ht2,hv2,hd2,⟨g3,t3,cs3,f3,p3,q3,hg3,ht3,hv3,hd3,_,_⟩,_⟩,_⟩,_⟩,_,_⟩:=h
 obtain rfl:=Option.some.inj (Tryz.gSteps.symm.trans hg0)
 obtain rfl:=Option.some.inj (Tryz.tSteps.symm.trans ht0)
 obtain rfl:=Option.some.inj (Tryz.gOrder.symm.trans hg1)
 obtain rfl:=Option.some.inj (Tryz.tOrder.symm.trans ht1)
 obtain rfl:=Option.some.inj (Tryz.gWaves.symm.trans hg2)
 obtain rfl:=Option.some.inj (Tryz.tWaves.symm.trans ht2)
 obtain rfl:=Option.some.inj (Tryz.gActs.symm.trans hg3)
 obtain rfl:=Option.some.inj (Tryz.tActs.symm.trans ht3)
 have h0:=aAf hv0 hd0
 have h1:=aAW hv1 hd1
 have h2:=aAR hv2 hd2
 obtain⟨t4,f4,h4⟩:=Wl Tryz.gActs hv3
 have s0:=h0.1
 have s1:=h1.pos
 have s2:=h2.1
 have s3:=MK h4
 exact⟨h0,h1,h2,aBH hv3 hd3 (by omega)⟩
end Go.Proofs.YtknjpdcpmpfklaaGreatDoor
set_option maxRecDepth 100000
namespace Go.Proofs.YtknjpdcpmpfklaaGreatDoor
def Nv(n:Int):Prop:=8<=n/\n<=64/\n%8=0
instance (n:Int):Decidable (Nv n):=by unfold Nv;infer_instance
def Pf(W H R B:Int):Prop:=Nv W/\Nv H/\1<=R/\R<=16777216/\R<=B/\B<=1073741824
instance (W H R B:Int):Decidable (Pf W H R B):=by unfold Pf;infer_instance
def Od(K Q D F:Int):Prop:=0<=K/\K<=2/\0<=Q/\Q<=20/\0<=D/\D<16777216/\0<=F/\F<=1073741824
instance (K Q D F:Int):Decidable (Od K Q D F):=by unfold Od;infer_instance
def OV(W H R B:Int):Int:=if Pf W H R B then 0 else 110
def PN(K Q D F:Int):Int:=if Od K Q D F then 0 else 110
def nm(a b c d:Nat):Int:=(a:Int)*16777216+(b:Int)*65536+(c:Int)*256+(d:Int)
def aDA(l:List Nat)(i:Nat):Int:=nm (l.getD i 0) (l.getD (i+1) 0) (l.getD (i+2) 0) (l.getD (i+3) 0)
def nm0(l:List Nat):Int:=(l.getD 0 0:Nat)
def nm1(l:List Nat):Int:=(l.getD 1 0:Nat)
def nm2(l:List Nat):Int:=aDA l 2
def nm3(l:List Nat):Int:=aDA l 6
def aDl(l:List Nat):Prop:=l.length=10/\Pf (nm0 l) (nm1 l) (nm2 l) (nm3 l)
instance (l:List Nat):Decidable (aDl l):=by unfold aDl;infer_instance
def aBZ(l:List Nat):Prop:=10<=l.length/\Od (nm0 l) (nm1 l) (nm2 l) (nm3 l)
instance (l:List Nat):Decidable (aBZ l):=by unfold aBZ;infer_instance
end Go.Proofs.YtknjpdcpmpfklaaGreatDoor
set_option maxRecDepth 100000
namespace Go.Proofs.YtknjpdcpmpfklaaGreatDoor
abbrev chZ:Ch:=⟨0,0,0,0,0,fun _=>0⟩
def pX(w i:Nat):Int:=((i%w:Nat):Int)
def pY(w i:Nat):Int:=((i/w:Nat):Int)
structure YR where
  a:VF
  b:VF
  s:Option Nat
def Mf(l:List Nat)(k:Int)(w i:Nat)(t:YR):Ch×Int×Option Nat:=Sk l k (gX t.a (pX w i) (pY w i)) (gY t.a (pX w i) (pY w i)) (gX t.b (pX w i) (pY w i)) (gY t.b (pX w i) (pY w i)) t.s
def aAE(l:List Nat)(k:Int)(w i:Nat)(t:YR):YR:=⟨TV t.a (pX w i) (pY w i) (Mf l k w i t).1.px (Mf l k w i t).1.py,TV t.b (pX w i) (pY w i) (Mf l k w i t).1.nx (Mf l k w i t).1.ny,(Mf l k w i t).2.2⟩
def TA(l:List Nat)(k:Int)(w:Nat):Nat->Nat->YR->List Ch->List Ch×Int×Option Nat
 | 0,_,t,o=>(o,0,t.s)
 | m+1,i,t,o=>if (Mf l k w i t).2.1=0 then TA l k w m (i+1) (aAE l k w i t) (o ++ [(Mf l k w i t).1]) else ([],(Mf l k w i t).2.1,t.s)
theorem VS{l:List Nat}{k:Int}{w m i:Nat}{t:YR}{o:List Ch}(h:(Mf l k w i t).2.1=0):TA l k w (m+1) i t o=TA l k w m (i+1) (aAE l k w i t) (o ++ [(Mf l k w i t).1]):=if_pos h
theorem WR{l:List Nat}{k:Int}{w m i:Nat}{t:YR}{o:List Ch}(h:(Mf l k w i t).2.1≠0):TA l k w (m+1) i t o=([],(Mf l k w i t).2.1,t.s):=if_neg h
def Lk(W:Int)(p:Nat):Nat:=if p=0 then (W/4).toNat else (W/8).toNat
def Xb(l:List Nat)(k W H:Int)(p:Nat)(s:Option Nat)(o:List Ch):List Ch×Int×Option Nat :=
 TA l k (Lk W p) (Lk W p*Lk H p) 0 ⟨Qy (Lk W p) (Lk H p),Qy (Lk W p) (Lk H p),s⟩ o
def Ou(l:List Nat)(k W H:Int):Nat->List Ch×Int×Option Nat
 | 0=>([],0,some 0)
 | p+1=>if (Ou l k W H p).2.1=0 then Xb l k W H p (Ou l k W H p).2.2 (Ou l k W H p).1 else Ou l k W H p
theorem U6{l:List Nat}{k W H:Int}{p:Nat}(h:(Ou l k W H p).2.1=0):Ou l k W H (p+1)=Xb l k W H p (Ou l k W H p).2.2 (Ou l k W H p).1:=if_pos h
theorem UC{l:List Nat}{k W H:Int}{p:Nat}(h:(Ou l k W H p).2.1≠0):Ou l k W H (p+1)=Ou l k W H p:=if_neg h
def PZ(l:List Nat)(k W H:Int):List Ch×Int :=
 if (Ou l k W H 3).2.1=0 then (if Pg l (Ou l k W H 3).2.2=0 then ((Ou l k W H 3).1,0) else ([],130)) else ([],(Ou l k W H 3).2.1)
def PH(W H R B K Q D F:Int):Prop:=Pf W H R B/\Od K Q D F
instance (W H R B K Q D F:Int):Decidable (PH W H R B K Q D F):=by unfold PH;infer_instance
def Oz(l:List Nat)(W H R B K Q D F:Int):List Ch×Int:=if PH W H R B K Q D F then PZ l K W H else ([],110)
theorem aBi{l:List Nat}{W H R B K Q D F:Int}(h:¬ PH W H R B K Q D F):Oz l W H R B K Q D F=([],110):=if_neg h
theorem Px{l:List Nat}{W H R B K Q D F:Int}(h:PH W H R B K Q D F):Oz l W H R B K Q D F=PZ l K W H:=if_pos h
theorem XM{l:List Nat}{k W H:Int}{p:Nat}(hp:p<=3)(h:(Ou l k W H p).2.1≠0):PZ l k W H=([],(Ou l k W H p).2.1):=by
 have e:∀ q,(Ou l k W H p).2.1=(Ou l k W H (p+q)).2.1:=by
  intro q
  induction q with
  | zero=>rfl
  | succ q ih=>rw[← Nat.add_assoc,UC (by rw[← ih];exact h)];exact ih
 have e3:=e (3-p)
 rw[show p+(3-p)=3 by omega] at e3
 unfold PZ;rw[if_neg (by rw[← e3];exact h),← e3]
theorem ay4{l:List Nat}{k W H:Int}(h:(Ou l k W H 3).2.1=0)(h2:Pg l (Ou l k W H 3).2.2≠0):PZ l k W H=([],130):=by unfold PZ;rw[if_pos h,if_neg h2]
theorem aBo{l:List Nat}{k W H:Int}(h:(Ou l k W H 3).2.1=0)(h2:Pg l (Ou l k W H 3).2.2=0):PZ l k W H=((Ou l k W H 3).1,0):=by unfold PZ;rw[if_pos h,if_pos h2]
def MU(W H R B:Int)(f:FD):Prop:=Pf W H R B/\QB f/\W=f.W/\H=f.H
instance (W H R B:Int) (f:FD):Decidable (MU W H R B f):=by unfold MU;infer_instance
def aAz(g h:FD)(q p:Int)(w i:Nat)(c:Ch)(F:FD):FD:=Qp F p (4*pX w i) (4*pY w i) (buB (V9 F g h p (4*pX w i) (4*pY w i) c) c.b q)
def Uj(g h:FD)(q p:Int)(w:Nat)(L:List Ch)(a:Nat)(F:FD):Nat->FD
 | 0=>F
 | i+1=>aAz g h q p w i (L.getD (a+i) chZ) (Uj g h q p w L a F i)
def N6(W H:Int):Nat->Nat
 | 0=>0
 | p+1=>N6 W H p+Lk W p*Lk H p
def Xl(g h:FD)(q W H:Int)(L:List Ch):Nat->FD
 | 0=>LJ W H 0
 | p+1=>Uj g h q p (Lk W p) L (N6 W H p) (Xl g h q W H L p) (Lk W p*Lk H p)
def Ns(l:List Nat)(W H R B K Q D F:Int)(g h:FD):Int:=if PH W H R B K Q D F then (if (K≠0/\¬ MU W H R B g)\/(K=2/\¬ MU W H R B h) then 130 else (PZ l K W H).2) else 110
def MA(l:List Nat)(W H R B K Q D F:Int)(g h:FD):FD:=if Ns l W H R B K Q D F g h=0 then Xl g h Q W H (PZ l K W H).1 3 else FD.none
theorem Yk{l:List Nat}{W H R B K Q D F:Int}{g h:FD}(hn:¬ PH W H R B K Q D F):Ns l W H R B K Q D F g h=110:=if_neg hn
theorem Xy{l:List Nat}{W H R B K Q D F:Int}{g h:FD}(hm:PH W H R B K Q D F)(hn:(K≠0/\¬ MU W H R B g)\/(K=2/\¬ MU W H R B h)):Ns l W H R B K Q D F g h=130:=by unfold Ns;rw[if_pos hm,if_pos hn]
theorem Xr{l:List Nat}{W H R B K Q D F:Int}{g h:FD}(hm:PH W H R B K Q D F)(hn:¬ ((K≠0/\¬ MU W H R B g)\/(K=2/\¬ MU W H R B h))):Ns l W H R B K Q D F g h=(PZ l K W H).2:=by unfold Ns;rw[if_pos hm,if_neg hn]
theorem Uy{l:List Nat}{W H R B K Q D F:Int}{g h:FD}(hn:Ns l W H R B K Q D F g h≠0):MA l W H R B K Q D F g h=FD.none:=if_neg hn
theorem Xu{l:List Nat}{W H R B K Q D F:Int}{g h:FD}(hn:Ns l W H R B K Q D F g h=0):MA l W H R B K Q D F g h=Xl g h Q W H (PZ l K W H).1 3:=if_pos hn
theorem aAM{l:List Nat}{W H R B K Q D F D' F':Int}{g h:FD}(hm:PH W H R B K Q D F)(hm':PH W H R B K Q D' F'):Ns l W H R B K Q D F g h=Ns l W H R B K Q D' F' g h/\MA l W H R B K Q D F g h=MA l W H R B K Q D' F' g h:=by
 have e:Ns l W H R B K Q D F g h=Ns l W H R B K Q D' F' g h:=by unfold Ns;rw[if_pos hm,if_pos hm']
 exact⟨e,by unfold MA;rw[e]⟩
theorem azF{l:List Nat}{k:Int}{w:Nat}:∀ (m i:Nat) (t:YR) (o:List Ch),(TA l k w m i t o).2.1=0->(TA l k w m i t o).1.length=o.length+m:=by
 intro m
 induction m with
 | zero=>intro i t o _;rfl
 | succ m ih =>
  intro i t o h
  by_cases hc:(Mf l k w i t).2.1=0
  ·rw[VS hc] at h ⊢
   rw[ih _ _ _ h,List.length_append];simp;omega
  ·rw[WR hc] at h;exact absurd h hc
theorem azi{l:List Nat}{k W H:Int}:∀ p,(Ou l k W H p).2.1=0->(Ou l k W H p).1.length=N6 W H p:=by
 intro p
 induction p with
 | zero=>intro _;rfl
 | succ p ih =>
  intro h
  by_cases hc:(Ou l k W H p).2.1=0
  ·rw[U6 hc] at h ⊢
   unfold Xb at h ⊢
   rw[azF _ _ _ _ h,ih hc];rfl
  ·rw[UC hc] at h;exact absurd h hc
theorem aB5{W:Int}(h:Nv W):((Lk W 0:Nat):Int)=W/4/\((Lk W 1:Nat):Int)=W/8/\((Lk W 2:Nat):Int)=W/8/\2<=Lk W 0/\Lk W 0<=16/\1<=Lk W 1/\Lk W 1<=8/\Lk W 2=Lk W 1/\Lk W 0=2*Lk W 1:=by
 unfold Nv at h
 have e0:Lk W 0=(W/4).toNat:=rfl
 have e1:Lk W 1=(W/8).toNat:=rfl
 have e2:Lk W 2=(W/8).toNat:=rfl
 rw[e0,e1,e2];omega
end Go.Proofs.YtknjpdcpmpfklaaGreatDoor
set_option maxRecDepth 100000
namespace Go.Proofs.YtknjpdcpmpfklaaGreatDoor
theorem Zp{f:FD}(h:QB f){p:Nat}(hp:p<3):Lf f (p:Int)=(((4*Lk f.W p:Nat):Int),((4*Lk f.H p:Nat):Int)):=by
 have hW:=(Mv _).1 h.1
 have hH:=(Mv _).1 h.2.1
 by_cases h0:p=0
 ·subst h0
  rw[Ui h (by rfl)]
  have e1:Lk f.W 0=(f.W/4).toNat:=rfl
  have e2:Lk f.H 0=(f.H/4).toNat:=rfl
  rw[e1,e2];exact Prod.ext (by simp only;omega) (by simp only;omega)
 ·rw[Ud h (by omega) (by omega) (by omega),O7 (by omega),O7 (by omega)]
  have e1:Lk f.W p=(f.W/8).toNat:=if_neg h0
  have e2:Lk f.H p=(f.H/8).toNat:=if_neg h0
  rw[e1,e2];exact Prod.ext (by simp only;omega) (by simp only;omega)
theorem aCU{F:FD}(hF:QB F){p w n i:Nat}(hp:p<3)(hw:0<w)(hs:Lf F (p:Int)=(((4*w:Nat):Int),((4*n:Nat):Int)))(hi:i<w*n):aCv F (p:Int) (4*pX w i) (4*pY w i):=by
 have h1:i%w<w:=Nat.mod_lt _ hw
 have h2:i/w<n:=by rw[Nat.div_lt_iff_lt_mul hw,Nat.mul_comm];exact hi
 refine⟨hF,by omega,by omega,?_,?_,?_,?_⟩
 ·unfold pX;omega
 ·rw[hs];simp only;unfold pX;omega
 ·exact Int.mul_nonneg (by decide) (Int.natCast_nonneg _)
 ·rw[hs];simp only;unfold pY;omega
end Go.Proofs.YtknjpdcpmpfklaaGreatDoor
set_option maxRecDepth 100000
namespace Go.Proofs.YtknjpdcpmpfklaaGreatDoor
theorem azw{W H R B:Int}{f:FD}:MU W H R B f↔OV W H R B=0/\Na f=0/\W=f.W/\H=f.H:=by
 unfold MU OV
 rw[Mu]
 by_cases h:Pf W H R B
 ·rw[if_pos h];simp[h]
 ·rw[if_neg h];simp[h]
theorem az6{g h:FD}{q p:Int}{w a:Nat}{L:List Ch}{F:FD}(hF:QB F):∀ i,QB (Uj g h q p w L a F i)/\(Uj g h q p w L a F i).W=F.W/\(Uj g h q p w L a F i).H=F.H:=by
 intro i
 induction i with
 | zero=>exact⟨hF,rfl,rfl⟩
 | succ i ih =>
  obtain⟨i1,i2,i3⟩:=ih
  have hsd:=Q5 (Uj g h q p w L a F i) p (4*pX w i) (4*pY w i) (buB (V9 (Uj g h q p w L a F i) g h p (4*pX w i) (4*pY w i) (L.getD (a+i) chZ)) (L.getD (a+i) chZ).b q) 16
  rw[Ng i1] at hsd
  exact⟨azn i1 _ _ _ _ 16,hsd.1.trans i2,hsd.2.1.trans i3⟩
theorem NI{n:Int}(h:Nv n):Mm n=true:=(Mv _).2 h
theorem aBg{g h:FD}{q W H:Int}{L:List Ch}(hW:Nv W)(hH:Nv H):∀ p,QB (Xl g h q W H L p)/\(Xl g h q W H L p).W=W/\(Xl g h q W H L p).H=H:=by
 intro p
 induction p with
 | zero =>
  have e:Xl g h q W H L 0=LJ W H 0:=rfl
  rw[e]
  exact⟨Xd 0 (NI hW) (NI hH),by rw[Pu 0 (NI hW) (NI hH)],by rw[Pu 0 (NI hW) (NI hH)]⟩
 | succ p ih =>
  obtain⟨d1,d2,d3⟩:=az6 (g:=g) (h:=h) (q:=q) (p:=(p:Int)) (w:=Lk W p) (a:=N6 W H p) (L:=L) ih.1 (Lk W p*Lk H p)
  exact⟨d1,d2.trans ih.2.1,d3.trans ih.2.2⟩
theorem Zn{l:List Nat}{W H R B K Q D F:Int}{g h:FD}(h0:Ns l W H R B K Q D F g h=0):PH W H R B K Q D F/\¬ ((K≠0/\¬ MU W H R B g)\/(K=2/\¬ MU W H R B h))/\(PZ l K W H).2=0:=by
 by_cases hm:PH W H R B K Q D F
 ·by_cases hn:(K≠0/\¬ MU W H R B g)\/(K=2/\¬ MU W H R B h)
  ·rw[Xy hm hn] at h0;cases h0
  ·rw[Xr hm hn] at h0;exact⟨hm,hn,h0⟩
 ·rw[Yk hm] at h0;cases h0
theorem XW{l:List Nat}{W H R B K Q D F:Int}{g h:FD}(h0:Ns l W H R B K Q D F g h=0):MU W H R B (MA l W H R B K Q D F g h):=by
 obtain⟨hm,_,_⟩:=Zn h0
 rw[Xu h0]
 have:=aBg (g:=g) (h:=h) (q:=Q) (L:=(PZ l K W H).1) hm.1.1 hm.1.2.1 3
 exact⟨hm.1,this.1,this.2.1.symm,this.2.2.symm⟩
def OD:List Nat:=RT (List.replicate 12 true++PX 12)
set_option maxRecDepth 1000000 in
theorem azu:(PZ OD 0 8 8).2=0/\(PZ OD 0 8 8).1.length=6:=by decide +kernel
set_option maxRecDepth 1000000 in
theorem aCX:Ns OD 8 8 100 1000 0 0 0 0 FD.none FD.none=0:=by decide +kernel
set_option maxRecDepth 1000000 in
theorem aAC:Ns OD 8 8 100 1000 1 0 0 0 FD.none FD.none=130/\(PZ (OD ++ [0]) 0 8 8).2=130:=by decide +kernel
set_option maxRecDepth 1000000 in
theorem aC9:PL (MA OD 8 8 100 1000 0 0 0 0 FD.none FD.none) (LJ 8 8 128)=true:=by decide +kernel
end Go.Proofs.YtknjpdcpmpfklaaGreatDoor
set_option maxRecDepth 100000
namespace Go.Proofs.YtknjpdcpmpfklaaGreatDoor
theorem ZY{f:FD}(h:QB f){p i:Nat}(hp:p<3)(hi:i<Lk f.W p*Lk f.H p)(hw:0<Lk f.W p):MX f (p:Int) (4*pX (Lk f.W p) i) (4*pY (Lk f.W p) i):=by
 have hI:=aCU (n:=Lk f.H p) h hp hw (Zp h hp) hi
 have hs:=Zp h hp
 have hW:=(Mv _).1 h.1
 have hH:=(Mv _).1 h.2.1
 have h4:=aB5 (W:=f.W) hW
 have h4':=aB5 (W:=f.H) hH
 have x1:=hI.x1
 have y1:=hI.y1
 rw[hs] at x1 y1
 simp only at x1 y1
 have bw:Lk f.W p<=16/\Lk f.H p<=16:=by
  rcases (show p=0\/p=1\/p=2 by omega) with rfl|rfl|rfl <;> omega
 exact⟨h,by omega,by omega,hI.x0,by omega,hI.y0,by omega⟩
theorem aCj{W H:Int}{p i:Nat}(hp:p<3)(hi:i<Lk W p*Lk H p):N6 W H p+i<N6 W H 3:=by
 have e3:N6 W H 3=N6 W H 2+Lk W 2*Lk H 2:=rfl
 have e2:N6 W H 2=N6 W H 1+Lk W 1*Lk H 1:=rfl
 have e1:N6 W H 1=N6 W H 0+Lk W 0*Lk H 0:=rfl
 rcases (show p=0\/p=1\/p=2 by omega) with rfl|rfl|rfl <;> omega
end Go.Proofs.YtknjpdcpmpfklaaGreatDoor
set_option maxRecDepth 100000
namespace Go.Proofs.YtknjpdcpmpfklaaGreatDoor
open Go.RowKit
section
variable {P:Program} {ρ:Operand->Value} {o:Oper} {w:World} {R:Value->World->Prop}
theorem WP{t:TypeId}(ho:o.op = .alloc t)(hz:∀ w,(zeroValue t).run P w = .ok (.agg (L8 16 (fun _=>0)).toArray) w)(h:R (.pointer (some ⟨w.heap.size,0,none⟩)) (w.alloc (.cells (L8 16 (fun _=>0)).toArray t))):Lj P ρ o w R :=
 Ob (v:=.pointer (some ⟨w.heap.size,0,none⟩)) (w':=w.alloc (.cells (L8 16 (fun _=>0)).toArray t)) (by simp[execOp,ho,hz,go_sem]) h
end
end Go.Proofs.YtknjpdcpmpfklaaGreatDoor
set_option maxRecDepth 100000
namespace Go.Proofs.YtknjpdcpmpfklaaGreatDoor
open Go.RowKit
structure Thm where
  B:Value->(Nat->Prop)->World->Prop
  st:∀ (v:Value) (w w':World) (S T:Nat->Prop),B v T w->KP S w w'->KM T S->B v T w'
  li:∀ (v:Value) (w:World) (T:Nat->Prop),B v T w->Pb w T
inductive Pm where
  | eq (v:Value)
  | new (t:Thm)
structure Eld where
  A:World->Prop
  T:Nat->Prop
  st:∀ (w w':World) (S:Nat->Prop),A w->KP S w w'->KM T S->A w'
  li:∀ w,A w->Pb w T
end Go.Proofs.YtknjpdcpmpfklaaGreatDoor
set_option maxRecDepth 100000
namespace Go.Proofs.YtknjpdcpmpfklaaGreatDoor
open Go.RowKit
theorem Mw:QA Tryz.prog 23 4:=⟨_,Tryz.underlying23,rfl,by kernel_rfl⟩
theorem Qa:QA Tryz.prog 25 4:=⟨_,Tryz.underlying25,rfl,by kernel_rfl⟩
theorem aDd{n:Int}(h:8<=n):Int.tmod n 8=n%8:=Int.tmod_eq_emod_of_nonneg (by omega)
end Go.Proofs.YtknjpdcpmpfklaaGreatDoor
set_option maxRecDepth 100000
namespace Go.Proofs.YtknjpdcpmpfklaaGreatDoor
open Go.RowKit
def Uq:SV Ch:={ t:=32,e:=71,k:=21,by_:=168,enc:=chV,d:=⟨0,0,0,0,0,fun _=>0⟩,z:=.agg (chV ⟨0,0,0,0,0,fun _=>0⟩).toArray }
instance rCh_ok:SV.Ok Uq:=⟨Tryz.underlying32,by kernel_rfl,rfl,by decide,fun _=>rfl,fun c=>aCt c,by decide⟩
end Go.Proofs.YtknjpdcpmpfklaaGreatDoor
set_option maxRecDepth 100000
namespace Go.Proofs.YtknjpdcpmpfklaaGreatDoor
open Go.RowKit
theorem aCS{W H R B:Int}(h:OV W H R B=0):Pf W H R B:=Decidable.byContradiction fun hn=>by unfold OV at h;rw[if_neg hn] at h;cases h
theorem RV{W H R B:Int}(h:Pf W H R B):8<=W/\W<=64/\W%8=0/\8<=H/\H<=64/\H%8=0:=by
 obtain⟨h1,h2,_⟩:=h;unfold Nv at h1 h2;omega
theorem aB2{W:Int}{p:Nat}(h0:0<=W)(hp:p=0):Int.tdiv W 4=((Lk W p:Nat):Int):=by
 rw[Int.tdiv_eq_ediv_of_nonneg h0];unfold Lk;rw[if_pos hp];omega
theorem OC{W:Int}{p:Nat}(h:W<=64):Lk W p<=16:=by unfold Lk;split <;> omega
theorem aAN{w i:Nat}(hw:0<w)(h16:w<=16)(hi:i<=256):0<=pX w i/\pX w i<=16/\0<=pY w i/\pY w i<=256:=by
 have h1:=Nat.mod_lt i hw
 have h2:=Nat.div_le_self i w
 refine⟨Int.natCast_nonneg _,Int.ofNat_le.2 (show i%w<=16 by omega),Int.natCast_nonneg _,Int.ofNat_le.2 (show i/w<=256 by omega)⟩
theorem S4{W H R B:Int}{f:FD}{b:Bool}(h:b=true↔OV W H R B=0/\Na f=0/\W=f.W/\H=f.H):b=decide (MU W H R B f):=by
 rw[Bool.eq_iff_iff,decide_eq_true_iff];exact h.trans azw.symm
end Go.Proofs.YtknjpdcpmpfklaaGreatDoor
set_option maxRecDepth 100000
namespace Go.Proofs.YtknjpdcpmpfklaaGreatDoor
open Go.RowKit
theorem QG(n:Int):IntKind.u8.wrap (max 0 (min n 255))=((LX n:Nat):Int):=by rw[show max 0 (min n 255)=min (max n 0) 255 by omega];exact aA3 n
theorem W5(b:Nat->Int)(i:Nat)(w0:World)(hi:i<4) :
  Calls Tryz.prog 79 #[LK (b),.int .i64 (((i:Nat):Int))] w0 fun e w'=>e = .returned (.agg #[.int .u8 (((LX (b (i*4)):Nat):Int)),.int .u8 (((LX (b (i*4+1)):Nat):Int)),.int .u8 (((LX (b (i*4+2)):Nat):Int)),.int .u8 (((LX (b (i*4+3)):Nat):Int))])/\KP (fun _=>False) w0 w':=by
 refine Ls (args:=[LK b,iv ((i:Nat):Int)]) 22 Tryz.func79 rfl rfl (Nat.le_of_ble_eq_true rfl) ?_
 refine KK (KI (M6 rfl rfl rfl rfl fun p1 w2 e5 B3 k4=>?_))
 have g6:=LV (Nat.le_of_eq e5.symm)
 clear e5 g6
 have K8:=(KP.refl (fun _=>False) w0).tr k4
 refine LI (n:=4) (vs:=[.int .u8 0,.int .u8 0,.int .u8 0,.int .u8 0]) rfl rfl rfl (by kernel_rfl) fun p9 bL aD aZ aE=>?_
 have aF:=B3.all aE id
 have aG:=K8.tr aE
 refine KO ?_
 have af:=La (iv ((i:Nat):Int))
 have a8:=La (undef)
 have ah:=La (pt p1 0)
 have aH:=La (pt p9 0)
 refine KH (KK (KI (LI (n:=4) (vs:=[.int .u8 0,.int .u8 0,.int .u8 0,.int .u8 0]) rfl rfl rfl (by kernel_rfl) fun aa bM a9 aI aJ=>?_)))
 have ai:=KS.new aG aI
 obtain⟨ak,aj⟩:=S3 aI aF aD
 obtain⟨aK,ba⟩:=NL aJ aF aD
 refine KO ?_
 have ae:=La (pt aa 0)
 refine KH (KK (KK (KI (KJ (iv 0) rfl rfl (KQ rfl rfl rr) (KO ?_)))))
 have am:=La (iv 0)
 refine KH (Lo (OA 5 (Md (KK (KI (KJ (.bool true) rfl rfl (L5 rfl am rfl rfl rr) (KO ?_)))))))
 have bb:=La (.bool true)
 refine KH (KK ?_)
 refine Lc (t:=true) bb (fun _=>?_) (fun e=>by cases e)
 refine Li (KH (KK (Lo (KK (KI (KW rfl rfl rfl am (KJ (iv 0) rfl rfl (KX rfl rfl rr) (KO ?_))))))))
 have aL:=La (iv 0)
 refine KH (KI (KW rfl rfl rfl aL (KW rfl rfl rfl af (KJ (iv (((i*4):Nat):Int)) rfl rfl (NH rfl rfl rfl (L2 (by omega) (by omega)) rr) (KW rfl rfl rfl aL (KJ (iv (((i*4+0):Nat):Int)) rfl rfl (LR rfl rfl rfl (L2 (by omega) (by omega)) rr) (KJ (.pointer (some ⟨p1,(i*4+0),none⟩)) rfl rfl (LU (i*4+0) (s:=1) rfl ah rfl (by omega) Tryz.underlying69 (by omega) (by kernel_rfl) (by omega) rr) (KJ (iv (b (i*4+0))) rfl rfl (OI rfl rfl Tryz.underlying3 (aK.cell (by omega)) rr) (LY rfl rfl rfl rfl rfl (fun _ _=>by kernel_rfl) (Lm rfl (Lm rfl (Lm rfl LS))) (N3 (b (i*4+0)) 0 255  _   ) fun bN aM=>?_)))))))))
 obtain⟨bc,bd,be⟩:=ND aM aK ba a9
 refine KJ (.int .u8 ((LX (b (i*4+0)):Nat):Int)) rfl rfl (Pq rfl rfl Tryz.underlying3 Tryz.underlying5 (by first|exact QG _|exact QG (b (i*4+0))) rr) (KJ (pt aa 0) rfl rfl (LU 0 (s:=1) rfl ae rfl (by omega) Tryz.underlying123 (by omega) (by kernel_rfl) (by omega) rr) (N1 rfl rfl rfl rfl rfl be rfl rfl (by kernel_rfl) fun bf an ao=>?_))
 replace an:My bf aa 123 [.int .u8 ((LX (b (i*4+0)):Nat):Int),.int .u8 0,.int .u8 0,.int .u8 0]:=an
 have aN:=bc.all ao (ak.symm p1 rfl)
 have bg:=bd.all ao (aj.symm p9 rfl)
 refine KO ?_
 refine LD (KH (KI (KJ (iv ((1:Nat):Int)) rfl rfl (LR rfl am rfl (L2 (by omega) (by omega)) rr) (KJ (iv ((1:Nat):Int)) rfl rfl (KQ rfl rfl rr) (KO ?_)))))
 have ap:=La (iv ((1:Nat):Int))
 refine KH (Md (KK (KI (KJ (.bool true) rfl rfl (L5 rfl ap rfl rfl rr) (KO ?_)))))
 have bh:=La (.bool true)
 refine KH (KK ?_)
 refine Lc (t:=true) bh (fun _=>?_) (fun e=>by cases e)
 refine Li (KH (KK (Lo (KK (KI (KW rfl rfl rfl ap (KJ (iv ((1:Nat):Int)) rfl rfl (KX rfl rfl rr) (KO ?_))))))))
 have aO:=La (iv ((1:Nat):Int))
 refine KH (KI (KW rfl rfl rfl aO (KW rfl rfl rfl af (KJ (iv (((i*4):Nat):Int)) rfl rfl (NH rfl rfl rfl (L2 (by omega) (by omega)) rr) (KW rfl rfl rfl aO (KJ (iv (((i*4+1):Nat):Int)) rfl rfl (LR rfl rfl rfl (L2 (by omega) (by omega)) rr) (KJ (.pointer (some ⟨p1,(i*4+1),none⟩)) rfl rfl (LU (i*4+1) (s:=1) rfl ah rfl (by omega) Tryz.underlying69 (by omega) (by kernel_rfl) (by omega) rr) (KJ (iv (b (i*4+1))) rfl rfl (OI rfl rfl Tryz.underlying3 (aN.cell (by omega)) rr) (LY rfl rfl rfl rfl rfl (fun _ _=>by kernel_rfl) (Lm rfl (Lm rfl (Lm rfl LS))) (N3 (b (i*4+1)) 0 255  _   ) fun bO aP=>?_)))))))))
 obtain⟨bi,bj,bl⟩:=ND aP aN bg an
 refine KJ (.int .u8 ((LX (b (i*4+1)):Nat):Int)) rfl rfl (Pq rfl rfl Tryz.underlying3 Tryz.underlying5 (by first|exact QG _|exact QG (b (i*4+0))) rr) (KJ (pt aa 1) rfl rfl (LU 1 (s:=1) rfl ae rfl (by omega) Tryz.underlying123 (by omega) (by kernel_rfl) (by omega) rr) (N1 rfl rfl rfl rfl rfl bl rfl rfl (by kernel_rfl) fun bm aq ar=>?_))
 replace aq:My bm aa 123 [.int .u8 ((LX (b (i*4+0)):Nat):Int),.int .u8 ((LX (b (i*4+1)):Nat):Int),.int .u8 0,.int .u8 0]:=aq
 have aQ:=bi.all ar (ak.symm p1 rfl)
 have bn:=bj.all ar (aj.symm p9 rfl)
 refine KO ?_
 refine LD (KH (KI (KJ (iv ((2:Nat):Int)) rfl rfl (LR rfl ap rfl (L2 (by omega) (by omega)) rr) (KJ (iv ((2:Nat):Int)) rfl rfl (KQ rfl rfl rr) (KO ?_)))))
 have au:=La (iv ((2:Nat):Int))
 refine KH (Md (KK (KI (KJ (.bool true) rfl rfl (L5 rfl au rfl rfl rr) (KO ?_)))))
 have bo:=La (.bool true)
 refine KH (KK ?_)
 refine Lc (t:=true) bo (fun _=>?_) (fun e=>by cases e)
 refine Li (KH (KK (Lo (KK (KI (KW rfl rfl rfl au (KJ (iv ((2:Nat):Int)) rfl rfl (KX rfl rfl rr) (KO ?_))))))))
 have aR:=La (iv ((2:Nat):Int))
 refine KH (KI (KW rfl rfl rfl aR (KW rfl rfl rfl af (KJ (iv (((i*4):Nat):Int)) rfl rfl (NH rfl rfl rfl (L2 (by omega) (by omega)) rr) (KW rfl rfl rfl aR (KJ (iv (((i*4+2):Nat):Int)) rfl rfl (LR rfl rfl rfl (L2 (by omega) (by omega)) rr) (KJ (.pointer (some ⟨p1,(i*4+2),none⟩)) rfl rfl (LU (i*4+2) (s:=1) rfl ah rfl (by omega) Tryz.underlying69 (by omega) (by kernel_rfl) (by omega) rr) (KJ (iv (b (i*4+2))) rfl rfl (OI rfl rfl Tryz.underlying3 (aQ.cell (by omega)) rr) (LY rfl rfl rfl rfl rfl (fun _ _=>by kernel_rfl) (Lm rfl (Lm rfl (Lm rfl LS))) (N3 (b (i*4+2)) 0 255  _   ) fun bP aS=>?_)))))))))
 obtain⟨bp,bq,bt⟩:=ND aS aQ bn aq
 refine KJ (.int .u8 ((LX (b (i*4+2)):Nat):Int)) rfl rfl (Pq rfl rfl Tryz.underlying3 Tryz.underlying5 (by first|exact QG _|exact QG (b (i*4+0))) rr) (KJ (pt aa 2) rfl rfl (LU 2 (s:=1) rfl ae rfl (by omega) Tryz.underlying123 (by omega) (by kernel_rfl) (by omega) rr) (N1 rfl rfl rfl rfl rfl bt rfl rfl (by kernel_rfl) fun bu av aw=>?_))
 replace av:My bu aa 123 [.int .u8 ((LX (b (i*4+0)):Nat):Int),.int .u8 ((LX (b (i*4+1)):Nat):Int),.int .u8 ((LX (b (i*4+2)):Nat):Int),.int .u8 0]:=av
 have bv:=bp.all aw (ak.symm p1 rfl)
 have bz:=bq.all aw (aj.symm p9 rfl)
 refine KO ?_
 refine LD (KH (KI (KJ (iv ((3:Nat):Int)) rfl rfl (LR rfl au rfl (L2 (by omega) (by omega)) rr) (KJ (iv ((3:Nat):Int)) rfl rfl (KQ rfl rfl rr) (KO ?_)))))
 have az:=La (iv ((3:Nat):Int))
 refine KH (Md (KK (KI (KJ (.bool true) rfl rfl (L5 rfl az rfl rfl rr) (KO ?_)))))
 have bA:=La (.bool true)
 refine KH (KK ?_)
 refine Lc (t:=true) bA (fun _=>?_) (fun e=>by cases e)
 refine Li (KH (KK (Lo (KK (KI (KW rfl rfl rfl az (KJ (iv ((3:Nat):Int)) rfl rfl (KX rfl rfl rr) (KO ?_))))))))
 have aT:=La (iv ((3:Nat):Int))
 refine KH (KI (KW rfl rfl rfl aT (KW rfl rfl rfl af (KJ (iv (((i*4):Nat):Int)) rfl rfl (NH rfl rfl rfl (L2 (by omega) (by omega)) rr) (KW rfl rfl rfl aT (KJ (iv (((i*4+3):Nat):Int)) rfl rfl (LR rfl rfl rfl (L2 (by omega) (by omega)) rr) (KJ (.pointer (some ⟨p1,(i*4+3),none⟩)) rfl rfl (LU (i*4+3) (s:=1) rfl ah rfl (by omega) Tryz.underlying69 (by omega) (by kernel_rfl) (by omega) rr) (KJ (iv (b (i*4+3))) rfl rfl (OI rfl rfl Tryz.underlying3 (bv.cell (by omega)) rr) (LY rfl rfl rfl rfl rfl (fun _ _=>by kernel_rfl) (Lm rfl (Lm rfl (Lm rfl LS))) (N3 (b (i*4+3)) 0 255  _   ) fun bQ aU=>?_)))))))))
 obtain⟨bB,bC⟩:=NL aU bz av
 have bD:=(((((((aG.tr aJ).tr aM).trans ao (KS.ok (S:=fun _=>False) ai K6)).tr aP).trans ar (KS.ok (S:=fun _=>False) ai K6)).tr aS).trans aw (KS.ok (S:=fun _=>False) ai K6)).tr aU
 refine KJ (.int .u8 ((LX (b (i*4+3)):Nat):Int)) rfl rfl (Pq rfl rfl Tryz.underlying3 Tryz.underlying5 (by first|exact QG _|exact QG (b (i*4+0))) rr) (KJ (pt aa 3) rfl rfl (LU 3 (s:=1) rfl ae rfl (by omega) Tryz.underlying123 (by omega) (by kernel_rfl) (by omega) rr) (N1 rfl rfl rfl rfl rfl bC rfl rfl (by kernel_rfl) fun bE aA aV=>?_))
 replace aA:My bE aa 123 [.int .u8 ((LX (b (i*4+0)):Nat):Int),.int .u8 ((LX (b (i*4+1)):Nat):Int),.int .u8 ((LX (b (i*4+2)):Nat):Int),.int .u8 ((LX (b (i*4+3)):Nat):Int)]:=aA
 have bF:=bB.all aV (aj.symm p9 rfl)
 refine KO ?_
 refine LD (KH (KI (KJ (iv ((4:Nat):Int)) rfl rfl (LR rfl az rfl (L2 (by omega) (by omega)) rr) (KJ (iv ((4:Nat):Int)) rfl rfl (KQ rfl rfl rr) (KO ?_)))))
 have bG:=La (iv ((4:Nat):Int))
 refine KH (Md (KK (KI (KJ (.bool false) rfl rfl (L5 rfl bG rfl rfl rr) (KO ?_)))))
 have bH:=La (.bool false)
 refine KH (KK ?_)
 refine Lc (t:=false) bH (fun e=>by cases e) (fun _=>?_)
 refine Mg (Lt (Lt (Mh (KH (KK (KI (KJ (.agg #[.int .u8 ((LX (b (i*4+0)):Nat):Int),.int .u8 ((LX (b (i*4+1)):Nat):Int),.int .u8 ((LX (b (i*4+2)):Nat):Int),.int .u8 ((LX (b (i*4+3)):Nat):Int)]) rfl rfl (KU VQ rfl ae aA rr) (Ll (us:=[.int .u8 ((LX (b (i*4+0)):Nat):Int),.int .u8 ((LX (b (i*4+1)):Nat):Int),.int .u8 ((LX (b (i*4+2)):Nat):Int),.int .u8 ((LX (b (i*4+3)):Nat):Int)]) VQ rfl rfl rfl aH rfl bF rfl (K2 rfl (K2 rfl (K2 rfl (K2 rfl MI)))) fun bR bI bJ=>?_))))))))
 refine KO ?_
 refine KH (Ld ?_)
 exact OY (vs:=[.int .u8 ((LX (b (i*4+0)):Nat):Int),.int .u8 ((LX (b (i*4+1)):Nat):Int),.int .u8 ((LX (b (i*4+2)):Nat):Int),.int .u8 ((LX (b (i*4+3)):Nat):Int)]) VQ a8 rfl rfl aH bI ⟨rfl,((bD.trans aV (KS.ok (S:=fun _=>False) ai K6)).trans bJ (KS.ok (S:=fun _=>False) (KS.new K8 aZ) K6))⟩
def YH(l:List Nat)(i j:Nat)(x:Int)(c:List Nat):List Nat :=
 l.take (i+(max 0 (min x ((j-i:Nat):Int))).toNat)++((c.drop (max 0 (min (-x) 4)).toNat).take ((j-i)-(max 0 (min x ((j-i:Nat):Int))).toNat)++l.drop (i+(max 0 (min x ((j-i:Nat):Int))).toNat+min ((j-i)-(max 0 (min x ((j-i:Nat):Int))).toNat) (c.drop (max 0 (min (-x) 4)).toNat).length))
theorem Yq(v:Value)(l:List Nat)(i j:Nat)(x:Int)(a b c d:Nat)(T_s:Nat->Prop)(w0:World)(hij:i<=j)(hj:j<=l.length)(hx : -64<=x/\x<=128)(ha:a<256)(hb:b<256)(hc:c<256)(hd:d<256)(h_s:L4 w0 T_s v (l)) :
  Calls Tryz.prog 78 #[Mx (v) (i) (j) (j),.int .i64 (x),.agg #[.int .u8 (((a:Nat):Int)),.int .u8 (((b:Nat):Int)),.int .u8 (((c:Nat):Int)),.int .u8 (((d:Nat):Int))]] w0 fun e w'=>∃ (T_s':Nat->Prop),e = .returned (.tuple #[])/\KP (T_s) w0 w'/\(L4 w' T_s' v (YH l i j x [a,b,c,d])/\KS w0 T_s T_s'):=by
 refine Ls (args:=[Mx v i j j,iv x,.agg #[.int .u8 ((a:Nat):Int),.int .u8 ((b:Nat):Int),.int .u8 ((c:Nat):Int),.int .u8 ((d:Nat):Int)]]) 17 Tryz.func78 rfl rfl (Nat.le_of_ble_eq_true rfl) ?_
 have g_s:=KS.refl w0 T_s
 refine KK (KI (Lx (vs:=[.int .u8 ((a:Nat):Int),.int .u8 ((b:Nat):Int),.int .u8 ((c:Nat):Int),.int .u8 ((d:Nat):Int)]) rfl rfl rfl rfl fun p1 w2 B4 g5 k3=>?_))
 have B8:=h_s.all k3 KM.none
 refine KO ?_
 have ah:=La (Mx v i j j)
 have ai:=La (iv x)
 have ao:=La (undef)
 have ap:=La (pt p1 0)
 refine KH ?_
 refine Nd 10 [some 6,some 7,some 8,some 9,some 10,some 11,some 12,some 13,some 14,some 15] [Pd.eq (Mx v i j j),Pd.eq (iv x),Pd.eq (Mx v i j j),Pd.eq (iv ((j-i:Nat):Int)),Pd.eq (iv (max 0 (min x ((j-i:Nat):Int)))),Pd.eq (Mx (Mx v i j j) ((max 0 (min x ((j-i:Nat):Int))).toNat) (j-i) (j-i)),Pd.eq (iv x),Pd.eq (iv (-x)),Pd.eq (iv (max 0 (min (-x) 4))),Pd.eq (Yx p1 ((max 0 (min (-x) 4)).toNat))] (by kernel_rfl) (by kernel_rfl) (by kernel_rfl) ?_ ?_
 ·refine KN ?_ ?_
  ·refine Le.one rfl fun F_ w_ hR hout hD=>?_
   exact(KQ rfl ((hout 0 rfl (by decide)).trans ah) ⟨rfl,KP.refl _ _⟩)
  refine KN ?_ ?_
  ·refine Le.one rfl fun F_ w_ hR hout hD=>?_
   exact(KQ rfl ((hout 1 rfl (by decide)).trans ai) ⟨rfl,KP.refl _ _⟩)
  refine KN ?_ ?_
  ·refine Le.one rfl fun F_ w_ hR hout hD=>?_
   exact(KQ rfl ((hout 0 rfl (by decide)).trans ah) ⟨rfl,KP.refl _ _⟩)
  refine KN ?_ ?_
  ·refine Le.one rfl fun F_ w_ hR hout hD=>?_
   have g8:F_ 8=Mx v i j j:=(hD.get 0 rfl rfl rfl)
   exact(aCM rfl rfl g8 (B8.all hR KM.none).byt ⟨rfl,KP.refl _ _⟩)
  refine KN ?_ ?_
  ·refine Le.one rfl fun F_ w_ hR hout hD=>?_
   have g7:F_ 7=iv x:=(hD.get 0 rfl rfl rfl)
   have g9:F_ 9=iv ((j-i:Nat):Int):=(hD.get 1 rfl rfl rfl)
   exact(LE rfl rfl rfl (fun _ _=>by kernel_rfl) (K4 _) (Lm g7 (Lm rfl (Lm g9 LS))) (N3 x 0 ((j-i:Nat):Int)  _   ) (fun e_ w_ h_=>⟨_,h_.1,rfl,h_.2⟩))
  refine KN ?_ ?_
  ·refine Le.one rfl fun F_ w_ hR hout hD=>?_
   have g6:F_ 6=Mx v i j j:=(hD.get 0 rfl rfl rfl)
   have aw:F_ 10=iv (max 0 (min x ((j-i:Nat):Int))):=(hD.get 1 rfl rfl rfl)
   exact(WA ((max 0 (min x ((j-i:Nat):Int))).toNat) rfl g6 aw (by omega) (B8.all hR KM.none).byt (by omega) ⟨rfl,KP.refl _ _⟩)
  refine KN ?_ ?_
  ·refine Le.one rfl fun F_ w_ hR hout hD=>?_
   exact(KQ rfl ((hout 1 rfl (by decide)).trans ai) ⟨rfl,KP.refl _ _⟩)
  refine KN ?_ ?_
  ·refine Le.one rfl fun F_ w_ hR hout hD=>?_
   have az:F_ 12=iv x:=(hD.get 0 rfl rfl rfl)
   exact(aDk rfl az (Mb rfl (by omega)) ⟨rfl,KP.refl _ _⟩)
  refine KN ?_ ?_
  ·refine Le.one rfl fun F_ w_ hR hout hD=>?_
   have aA:F_ 13=iv (-x):=(hD.get 0 rfl rfl rfl)
   exact(LE rfl rfl rfl (fun _ _=>by kernel_rfl) (K4 _) (Lm aA (Lm rfl (Lm rfl LS))) (N3 (-x) 0 4  _   ) (fun e_ w_ h_=>⟨_,h_.1,rfl,h_.2⟩))
  refine KN ?_ ?_
  ·refine Le.one rfl fun F_ w_ hR hout hD=>?_
   have aB:F_ 14=iv (max 0 (min (-x) 4)):=(hD.get 0 rfl rfl rfl)
   exact(aCm ((max 0 (min (-x) 4)).toNat) rfl ((hout 5 rfl (by decide)).trans ap) aB (by omega) (by omega) ⟨rfl,KP.refl _ _⟩)
  exact L3
 intro aK aj aL ak ae aa
 obtain⟨am,aC⟩:=NL ak B8 B4
 have aD:=(aa 17).trans ao
 have aE:aj 11=Mx (Mx v i j j) ((max 0 (min x ((j-i:Nat):Int))).toNat) (j-i) (j-i):=(aa 11).trans (ae 5 (by decide))
 have aF:aj 15=Yx p1 ((max 0 (min (-x) 4)).toNat):=(aa 15).trans (ae 9 (by decide))
 clear ae aa
 refine RU rfl rfl rfl rfl aE (Wd (r:=i+((max 0 (min x ((j-i:Nat):Int))).toNat)) am.byt (by omega) (by omega) rfl) aF am (aC.bytes (by omega) (by omega) (by omega) (by omega) (k:=(max 0 (min (-x) 4)).toNat) (by omega)) (by omega) fun aM aG aH=>?_
 refine KO ?_
 exact Xw aD rfl ⟨T_s,rfl,((((KP.refl T_s w0).tr k3).tr ak).trans aH (KS.ok (S:=T_s) g_s (fun _ x=>x))),⟨aG,g_s⟩⟩
end Go.Proofs.YtknjpdcpmpfklaaGreatDoor
set_option maxRecDepth 100000
namespace Go.Proofs.YtknjpdcpmpfklaaGreatDoor
open Go.RowKit
def RR(l:List Nat)(n w:Nat)(u:Int)(c:Nat):List Nat:=if 0<=u/\u<(w:Int) then l.set (n+u.toNat) c else l
theorem O5(l:List Nat)(n w:Nat)(u:Int)(c:Nat):(RR l n w u c).length=l.length:=by unfold RR;split <;> simp
theorem azU(l:List Nat)(n w:Nat)(u:Int)(c q:Nat):(RR l n w u c).getD q 0=if 0<=u/\u<(w:Int)/\n+u.toNat=q/\q<l.length then c else l.getD q 0:=by
 unfold RR
 by_cases h:0<=u/\u<(w:Int)
 ·rw[if_pos h,azl]
  by_cases h2:n+u.toNat=q/\q<l.length
  ·rw[if_pos h2,if_pos ⟨h.1,h.2,h2.1,h2.2⟩]
  ·rw[if_neg h2,if_neg (fun k=>h2 ⟨k.2.2.1,k.2.2.2⟩)]
 ·rw[if_neg h,if_neg (fun k=>h ⟨k.1,k.2.1⟩)]
theorem az8{l m:List Nat}(hl:l.length=m.length)(h:∀ q,q<l.length->l.getD q 0=m.getD q 0):l=m:=by
 apply List.ext_getElem hl
 intro i h1 h2
 have:=h i h1
 simpa [List.getD,h1,h2] using this
theorem aCN(l m:List Nat)(off n q:Nat)(h:off+min n m.length<=l.length):(l.take off++(m.take n++l.drop (off+min n m.length))).getD q 0=if q<off then l.getD q 0 else if q<off+min n m.length then m.getD (q-off) 0 else l.getD q 0:=by
 have h1:(l.take off).length=off:=by rw[List.length_take];omega
 have h2:(m.take n).length=min n m.length:=List.length_take ..
 simp only[List.getD_eq_getElem?_getD]
 by_cases hq:q<off
 ·rw[if_pos hq,List.getElem?_append_left (by omega),List.getElem?_take,if_pos hq]
 ·rw[if_neg hq,List.getElem?_append_right (by omega),h1]
  by_cases hr:q<off+min n m.length
  ·rw[if_pos hr,List.getElem?_append_left (by omega),List.getElem?_take,if_pos (by omega)]
  ·rw[if_neg hr,List.getElem?_append_right (by omega),h2,List.getElem?_drop]
   congr 2;omega
theorem ayY(l:List Nat)(n w:Nat)(x:Int)(a b c d:Nat)(h:n+w<=l.length):YH l n (n+w) x [a,b,c,d]=RR (RR (RR (RR l n w x a) n w (x+1) b) n w (x+2) c) n w (x+3) d:=by
 unfold YH
 rw[show n+w-n=w by omega]
 obtain⟨cx,hcx⟩:∃ k,k=(max 0 (min x (w:Int))).toNat:=⟨_,rfl⟩
 obtain⟨dx,hdx⟩:∃ k,k=(max 0 (min (-x) 4)).toNat:=⟨_,rfl⟩
 rw[← hcx,← hdx]
 have hd4:([a,b,c,d].drop dx).length=4-dx:=by simp
 apply az8
 ·rw[O5,O5,O5,O5]
  simp;omega
 ·intro q hq
  have hql:q<l.length:=by
   have:(l.take (n+cx)++(([a,b,c,d].drop dx).take (w-cx)++l.drop (n+cx+min (w-cx) ([a,b,c,d].drop dx).length))).length=l.length:=by simp;omega
   omega
  rw[aCN _ _ _ _ _ (by rw[hd4];omega),hd4]
  simp only[azU,O5]
  have hg:∀ t,([a,b,c,d].drop dx).getD t 0=[a,b,c,d].getD (dx+t) 0:=fun t=>by simp[List.getD_eq_getElem?_getD,List.getElem?_drop]
  rw[hg]
  by_cases h3:0<=x+3/\x+3<(w:Int)/\n+(x+3).toNat=q/\q<l.length
  ·rw[if_pos h3,if_neg (by omega),if_pos (by omega),show dx+(q-(n+cx))=3 by omega];rfl
  ·rw[if_neg h3]
   by_cases h2:0<=x+2/\x+2<(w:Int)/\n+(x+2).toNat=q/\q<l.length
   ·rw[if_pos h2,if_neg (by omega),if_pos (by omega),show dx+(q-(n+cx))=2 by omega];rfl
   ·rw[if_neg h2]
    by_cases h1:0<=x+1/\x+1<(w:Int)/\n+(x+1).toNat=q/\q<l.length
    ·rw[if_pos h1,if_neg (by omega),if_pos (by omega),show dx+(q-(n+cx))=1 by omega];rfl
    ·rw[if_neg h1]
     by_cases h0:0<=x/\x<(w:Int)/\n+x.toNat=q/\q<l.length
     ·rw[if_pos h0,if_neg (by omega),if_pos (by omega),show dx+(q-(n+cx))=0 by omega];rfl
     ·rw[if_neg h0]
      by_cases hA:q<n+cx
      ·rw[if_pos hA]
      ·rw[if_neg hA,if_neg (by omega)]
theorem S5{f:FD}{p:Int}(x y:Int)(b:Nat->Int)(k:Nat)(hp:0<=p)(hp2:p<=2)(hy:0<=LN y+((k/4:Nat):Int)/\LN y+((k/4:Nat):Int)<(Lf f p).2) :
  (MJ f p x y b (k+1)).pl p=RR ((MJ f p x y b k).pl p) ((LN y+((k/4:Nat):Int))*(Lf f p).1).toNat (Lf f p).1.toNat (LN x+((k%4:Nat):Int)) (LX (b k))/\∀ q,0<=q->q<=2->q≠p->(MJ f p x y b (k+1)).pl q=(MJ f p x y b k).pl q:=by
 have hb:=Nq f p
 by_cases h:Oe (Lf f p).1 (Lf f p).2 (LN x+((k%4:Nat):Int)) (LN y+((k/4:Nat):Int))
 ·have hc:=OR h
  rw[aCo h]
  have hs:=aA6 (MJ f p x y b k) p ((LN y+((k/4:Nat):Int))*(Lf f p).1+(LN x+((k%4:Nat):Int))).toNat (LX (b k)) hp hp2
  refine⟨?_,hs.2⟩
  rw[hs.1]
  unfold RR
  unfold Oe at h
  rw[if_pos ⟨h.1,by omega⟩,Int.toNat_add (by omega) (by omega)]
 ·rw[S9 h]
  refine⟨?_,fun _ _ _ _=>rfl⟩
  unfold RR
  unfold Oe at h
  rw[if_neg (by omega)]
theorem UX{f:FD}{p:Int}(x y:Int)(b:Nat->Int)(i:Nat)(hp:0<=p)(hp2:p<=2)(hsz:(Lf f p).1≠0)(hy:0<=LN y+(i:Int)/\LN y+(i:Int)<(Lf f p).2) :
  (MJ f p x y b (4*(i+1))).pl p=YH ((MJ f p x y b (4*i)).pl p) ((LN y+(i:Int))*(Lf f p).1).toNat ((LN y+(i:Int))*(Lf f p).1+(Lf f p).1).toNat (LN x) [LX (b (i*4)),LX (b (i*4+1)),LX (b (i*4+2)),LX (b (i*4+3))]/\∀ q,0<=q->q<=2->q≠p->(MJ f p x y b (4*(i+1))).pl q=(MJ f p x y b (4*i)).pl q:=by
 have hb:=Nq f p
 have hin:Oe (Lf f p).1 (Lf f p).2 0 (LN y+(i:Int)):=⟨by omega,by omega,hy.1,hy.2⟩
 have hin2:Oe (Lf f p).1 (Lf f p).2 ((Lf f p).1-1) (LN y+(i:Int)):=⟨by omega,by omega,hy.1,hy.2⟩
 have hc:=OR hin
 have hc2:=OR hin2
 have q0:4*i/4=i:=by omega
 have q1:(4*i+1)/4=i:=by omega
 have q2:(4*i+2)/4=i:=by omega
 have q3:(4*i+3)/4=i:=by omega
 have r0:4*i%4=0:=by omega
 have r1:(4*i+1)%4=1:=by omega
 have r2:(4*i+2)%4=2:=by omega
 have r3:(4*i+3)%4=3:=by omega
 have s0:=S5 (f:=f) (p:=p) x y b (4*i) hp hp2 (by rw[q0];exact hy)
 have s1:=S5 (f:=f) (p:=p) x y b (4*i+1) hp hp2 (by rw[q1];exact hy)
 have s2:=S5 (f:=f) (p:=p) x y b (4*i+2) hp hp2 (by rw[q2];exact hy)
 have s3:=S5 (f:=f) (p:=p) x y b (4*i+3) hp hp2 (by rw[q3];exact hy)
 rw[q0,r0] at s0
 rw[q1,r1] at s1
 rw[q2,r2] at s2
 rw[q3,r3] at s3
 have hlen:((MJ f p x y b (4*i)).pl p).length=(f.pl p).length:=by
  have h:=Tg x y b (4*i) hsz
  have:p=0\/p=1\/p=2:=by omega
  rcases this with rfl|rfl|rfl
  ·exact h.1
  ·exact h.2.1
  ·exact h.2.2
 have e:((LN y+(i:Int))*(Lf f p).1+(Lf f p).1).toNat=((LN y+(i:Int))*(Lf f p).1).toNat+(Lf f p).1.toNat:=Int.toNat_add (by omega) (by omega)
 rw[show 4*(i+1)=4*i+3+1 by omega]
 refine⟨?_,fun q h0 h2 hq=>by rw[s3.2 q h0 h2 hq,s2.2 q h0 h2 hq,s1.2 q h0 h2 hq,s0.2 q h0 h2 hq]⟩
 rw[e,ayY _ _ _ _ _ _ _ _ (by rw[hlen];omega),s3.1,s2.1,s1.1,s0.1]
 rw[show i*4=4*i by omega]
 rw[show LN x+((0:Nat):Int)=LN x by omega]
 rfl
theorem Wh(f:FD)(p:Int):Lf (MD f) p=Lf f p:=by
 by_cases h:QB f
 ·rw[Ng h]
 ·rw[O6 h,PA (fun k=>h k.1),PA (fun k=>absurd k.1 (by decide))]
theorem Nt{f:FD}{p x y:Int}{b:Nat->Int}{i:Nat}(h:¬ (0<=LN y+(i:Int)/\LN y+(i:Int)<(Lf f p).2)):MJ f p x y b (4*(i+1))=MJ f p x y b (4*i):=by
 rw[show 4*(i+1)=4*i+3+1 by omega]
 rw[S9 (k:=4*i+3) (by unfold Oe;rw[show (4*i+3)/4=i by omega];omega),S9 (k:=4*i+2) (by unfold Oe;rw[show (4*i+2)/4=i by omega];omega),S9 (k:=4*i+1) (by unfold Oe;rw[show (4*i+1)/4=i by omega];omega),S9 (k:=4*i) (by unfold Oe;rw[show (4*i)/4=i by omega];omega)]
end Go.Proofs.YtknjpdcpmpfklaaGreatDoor
