/- What PictureStill reaches of my texts, part 6. -/
import Derived.Test.YtknjpdcpmpfklaaGreatDoorPictureStillE
set_option maxRecDepth 100000
set_option maxHeartbeats 4000000
set_option maxRecDepth 100000
namespace Go.Proofs.YtknjpdcpmpfklaaGreatDoor
open Go.RowKit
def QC(m:Int):Int:=if m<4 then 0 else if m=4 then 1 else 2
def aGn:List Value:=[.int .i64 0,.bool false,.bool false,.int .i64 0,.bool false,.bool false,.int .i64 0,.bool false,.bool false,.int .i64 0,.bool false,.bool false,.int .i64 1,.bool true,.bool false,.int .i64 2,.bool false,.bool true,.int .i64 2,.bool true,.bool true]
def Og(w:World):Prop:=5<=w.heap.size/\∀ i,i<21->w.cell? ⟨1,i,none⟩=aGn[i]?
theorem Og.but{w w':World}{T:Nat->Prop}(h:Og w)(k:KR T w w')(ha:∀ i,T i->5<=i):Og w' :=
 ⟨Nat.le_trans h.1 k.size,fun i hi=>(k.cell0 (Nat.lt_of_lt_of_le (by decide) h.1) (fun x=>absurd (ha _ x) (by decide))).trans (h.2 i hi)⟩
theorem Og.all{w w':World}(h:Og w)(k:KR (fun _=>False) w w'):Og w':=h.but k (fun _ x=>x.elim)
theorem SM{w0:World}{T:Nat->Prop}(g:KS w0 Mb T)(h:Og w0):∀ i,T i->5<=i:=fun i hi=>by
 have:=h.1
 rcases g i hi with h1|h1
 ·exact h1.elim
 ·omega
theorem VX{w0:World}{B T:Nat->Prop}(g:KS w0 B T)(hB:∀ i,B i->5<=i)(h:Og w0):∀ i,T i->5<=i:=fun i hi=>by
 have:=h.1
 rcases g i hi with h1|h1
 ·exact hB i h1
 ·omega
theorem ovO{T:Nat->Prop}(h:∀ i,T i->5<=i):∀ i,T i->2<i:=fun i hi=>Nat.lt_of_lt_of_le (by decide) (h i hi)
theorem Ue{w:World}(h:Og w){m:Int}(hm:0<=m/\m<7):w.cell? ⟨1,0+(m).toNat*3,none⟩=some (.int .i64 (QC m))/\w.cell? ⟨1,0+(m).toNat*3+1,none⟩=some (.bool (NM m))/\w.cell? ⟨1,0+(m).toNat*3+2,none⟩=some (.bool (Nv m)):=by
 have hc:m=0\/m=1\/m=2\/m=3\/m=4\/m=5\/m=6:=by omega
 rcases hc with rfl|rfl|rfl|rfl|rfl|rfl|rfl <;> exact⟨(h.2 _ (by decide)).trans rfl,(h.2 _ (by decide)).trans rfl,(h.2 _ (by decide)).trans rfl⟩
theorem aDw(k m:Int):0<=m/\m<7->(QC m<=k/\k<=2↔m<=N3 k):=by
 rintro ⟨h1,h2⟩
 have ha:QC m=0/\m<4\/QC m=1/\m=4\/QC m=2/\4<m:=by
  unfold QC
  by_cases h3:m<4
  ·rw[if_pos h3];omega
  ·rw[if_neg h3]
   by_cases h4:m=4
   ·rw[if_pos h4];omega
   ·rw[if_neg h4];omega
 have hk:k=0/\N3 k=3\/k=1/\N3 k=4\/k=2/\N3 k=6\/(k<0\/2<k)/\N3 k = -1:=by
  unfold N3
  by_cases h3:k=0
  ·rw[if_pos h3];omega
  ·rw[if_neg h3]
   by_cases h4:k=1
   ·rw[if_pos h4];omega
   ·rw[if_neg h4]
    by_cases h5:k=2
    ·rw[if_pos h5];omega
    ·rw[if_neg h5];omega
 omega
theorem QV(m:Int)(w0:World) :
  Calls Tryz.prog 109 #[.int .i64 (m)] w0 fun e w'=>e = .returned (.bool (decide (0<=m/\m<7)))/\KR (fun _=>False) w0 w':=by
 refine Ly (args:=[iv m]) 9 Tryz.func109 rfl rfl (Nat.le_of_ble_eq_true rfl) ?_
 have K0:=KR.refl (fun _=>False) w0
 refine KM (KL (Lb (.bool false) LE (KQ ?_)))
 have s3:=K4 (iv m)
 have s4:=K4 (undef)
 refine KK (KM ?_)
 by_cases d5:0<=m
 ·skip
  refine KL (K2 Lw s3 (KN (.bool true) rr (NO rfl rfl rfl (decide_eq_true d5) rr) (KN (.bool true) rr (KT rfl rfl rr) (Lj (iv m) 2 true 5 Li (KT rfl s3 rr) (Lj (.bool (decide (m<7))) 2 true 5 Li (Mc rfl rfl rfl rfl rr) (KN (.bool (decide (m<7))) rr (LB rfl rfl rfl rr) (Lb (.bool (decide (m<7))) LE (KQ ?_))))))))
  have s9:=K4 (.bool (decide (m<7)))
  refine KK (Le ?_)
  exact LC (v:=.bool (decide (m<7))) s4 rfl rfl s9 ⟨(PS (by first|exact(decide_eq_true (by omega)).symm|exact(decide_eq_false (by omega)).symm|exact decide_eq_decide.2 (by omega))),K0⟩
 ·skip
  refine KL (K2 Lw s3 (KN (.bool false) rr (NO rfl rfl rfl (decide_eq_false d5) rr) (KN (.bool false) rr (KT rfl rfl rr) (Lq 2 true 5 Li (Lq 2 true 5 Li (KN (.bool false) rr (Lt rfl rfl rfl rr) (Lb (.bool false) LE (KQ ?_))))))))
  have ah:=K4 (.bool false)
  refine KK (Le ?_)
  exact LC (v:=.bool false) s4 rfl rfl ah ⟨(PS (by first|exact(decide_eq_true (by omega)).symm|exact(decide_eq_false (by omega)).symm|exact decide_eq_decide.2 (by omega))),K0⟩
theorem aBQ(k m:Int)(w0:World)(hA:Og w0) :
  Calls Tryz.prog 99 #[.int .i64 (k),.int .i64 (m)] w0 fun e w'=>e = .returned (.bool (decide (0<=m/\m<=N3 k)))/\KR (fun _=>False) w0 w':=by
 refine Ly (args:=[iv k,iv m]) 19 Tryz.func99 rfl rfl (Nat.le_of_ble_eq_true rfl) ?_
 have K0:=KR.refl (fun _=>False) w0
 have hk6:=Uw k
 have hif:=aDw k m
 refine KM (KL (Lb (.bool false) LE (KQ ?_)))
 have s3:=K4 (iv k)
 have s4:=K4 (iv m)
 have s5:=K4 (undef)
 refine KK (KM ?_)
 by_cases d6:0<=m/\m<7
 ·skip
  by_cases d7:(QC m)<=k
  ·skip
   refine KL (K2 Lw s4 (LH (R:=fun v_ w_=>v_ = .bool true/\KR (fun _=>False) w0 w_) rfl rfl (LQ rfl rfl rfl (fun _ _=>by kernel_rfl) (K6 _) (Lo rfl L5) (QV m  _   ) (fun e_ w_ h_=>⟨_,h_.1,(congrArg Value.bool (decide_eq_true d6)),h_.2⟩)) ?_))
   rintro _ w8 ⟨rfl,k9⟩
   have ai:=K0.tr k9
   refine KN (.bool true) rr (KT rfl rfl rr) (Lj (iv k) 2 true 7 Li (KT rfl s3 rr) (Lj (iv m) 2 true 7 Li (KT rfl s4 rr) (Lj (.pointer (some ⟨1,0+(m.toNat)*3,none⟩)) 2 true 7 Li (L3 (m.toNat) (s:=3) rfl rfl rfl (by omega) Tryz.underlying165 (by omega) (by kernel_rfl) (by omega) rr) (Lj (.pointer (some ⟨1,0+(m.toNat)*3,none⟩)) 2 true 7 Li (KU (n:=1) rfl rfl Tryz.underlying164 rfl (by kernel_rfl) (by decide) rfl rr) (Lj (iv (QC m)) 2 true 7 Li (Pj rfl rfl Tryz.underlying3 ((Ue (hA.all ai) (by assumption)).1) rr) (Lj (.bool true) 2 true 7 Li (NO rfl rfl rfl (decide_eq_true d7) rr) (KN (.bool true) rr (LB rfl rfl rfl rr) (KN (.bool true) rr (KT rfl rfl rr) (Lj (iv k) 10 true 15 Li (KT rfl s3 rr) (Lj (.bool (decide (k<=2))) 10 true 15 Li (Vx rfl rfl rfl rfl rr) (KN (.bool (decide (k<=2))) rr (LB rfl rfl rfl rr) ?_)))))))))))
   refine Lb (.bool (decide (k<=2))) LE (KQ ?_)
   have am:=K4 (.bool (decide (k<=2)))
   refine KK (Le ?_)
   exact LC (v:=.bool (decide (k<=2))) s5 rfl rfl am ⟨(PS (by first|exact(decide_eq_true (by omega)).symm|exact(decide_eq_false (by omega)).symm|exact decide_eq_decide.2 (by omega))),ai⟩
  ·skip
   refine KL (K2 Lw s4 (LH (R:=fun v_ w_=>v_ = .bool true/\KR (fun _=>False) w0 w_) rfl rfl (LQ rfl rfl rfl (fun _ _=>by kernel_rfl) (K6 _) (Lo rfl L5) (QV m  _   ) (fun e_ w_ h_=>⟨_,h_.1,(congrArg Value.bool (decide_eq_true d6)),h_.2⟩)) ?_))
   rintro _ au ⟨rfl,an⟩
   have aj:=K0.tr an
   refine KN (.bool true) rr (KT rfl rfl rr) (Lj (iv k) 2 true 7 Li (KT rfl s3 rr) (Lj (iv m) 2 true 7 Li (KT rfl s4 rr) (Lj (.pointer (some ⟨1,0+(m.toNat)*3,none⟩)) 2 true 7 Li (L3 (m.toNat) (s:=3) rfl rfl rfl (by omega) Tryz.underlying165 (by omega) (by kernel_rfl) (by omega) rr) (Lj (.pointer (some ⟨1,0+(m.toNat)*3,none⟩)) 2 true 7 Li (KU (n:=1) rfl rfl Tryz.underlying164 rfl (by kernel_rfl) (by decide) rfl rr) (Lj (iv (QC m)) 2 true 7 Li (Pj rfl rfl Tryz.underlying3 ((Ue (hA.all aj) (by assumption)).1) rr) (Lj (.bool false) 2 true 7 Li (NO rfl rfl rfl (decide_eq_false d7) rr) (KN (.bool false) rr (LB rfl rfl rfl rr) (KN (.bool false) rr (KT rfl rfl rr) (Lq 10 true 15 Li (Lq 10 true 15 Li (KN (.bool false) rr (Lt rfl rfl rfl rr) ?_)))))))))))
   refine Lb (.bool false) LE (KQ ?_)
   have ao:=K4 (.bool false)
   refine KK (Le ?_)
   exact LC (v:=.bool false) s5 rfl rfl ao ⟨(PS (by first|exact(decide_eq_true (by omega)).symm|exact(decide_eq_false (by omega)).symm|exact decide_eq_decide.2 (by omega))),aj⟩
 ·skip
  refine KL (K2 Lw s4 (LH (R:=fun v_ w_=>v_ = .bool false/\KR (fun _=>False) w0 w_) rfl rfl (LQ rfl rfl rfl (fun _ _=>by kernel_rfl) (K6 _) (Lo rfl L5) (QV m  _   ) (fun e_ w_ h_=>⟨_,h_.1,(congrArg Value.bool (decide_eq_false d6)),h_.2⟩)) ?_))
  rintro _ av ⟨rfl,ap⟩
  refine KN (.bool false) rr (KT rfl rfl rr) (Lq 2 true 7 Li (Lq 2 true 7 Li (Lq 2 true 7 Li (Lq 2 true 7 Li (Lq 2 true 7 Li (Lq 2 true 7 Li (KN (.bool false) rr (Lt rfl rfl rfl rr) (KN (.bool false) rr (KT rfl rfl rr) (Lq 10 true 15 Li (Lq 10 true 15 Li (KN (.bool false) rr (Lt rfl rfl rfl rr) ?_)))))))))))
  refine Lb (.bool false) LE (KQ ?_)
  have aq:=K4 (.bool false)
  refine KK (Le ?_)
  exact LC (v:=.bool false) s5 rfl rfl aq ⟨(PS (by first|exact(decide_eq_true (by omega)).symm|exact(decide_eq_false (by omega)).symm|exact decide_eq_decide.2 (by omega))),(K0.tr ap)⟩
theorem aBV{m:Int}(h:¬ (0<=m/\m<7)):NM m=false/\Nv m=false:=by
 unfold NM Nv;rw[decide_eq_false (by omega:¬ m=4),decide_eq_false (by omega:¬ m=5),decide_eq_false (by omega:¬ m=6)];exact⟨rfl,rfl⟩
theorem WP(m:Int)(w0:World)(hA:Og w0) :
  Calls Tryz.prog 97 #[.int .i64 (m)] w0 fun e w'=>e = .returned (.tuple #[.bool (NM m),.bool (Nv m)])/\KR (fun _=>False) w0 w':=by
 refine Ly (args:=[iv m]) 15 Tryz.func97 rfl rfl (Nat.le_of_ble_eq_true rfl) ?_
 have K0:=KR.refl (fun _=>False) w0
 refine KM (KL (Lb (.bool false) LE (Lb (.bool false) LE (KQ ?_))))
 have s3:=K4 (iv m)
 have s4:=K4 (undef)
 refine KK (KM (KM ?_))
 by_cases d5:0<=m/\m<7
 ·skip
  refine KL (K2 Lw s3 (LH (R:=fun v_ w_=>v_ = .bool true/\KR (fun _=>False) w0 w_) rfl rfl (LQ rfl rfl rfl (fun _ _=>by kernel_rfl) (K6 _) (Lo rfl L5) (QV m  _   ) (fun e_ w_ h_=>⟨_,h_.1,(congrArg Value.bool (decide_eq_true d5)),h_.2⟩)) ?_))
  rintro _ w6 ⟨rfl,k7⟩
  have K8:=K0.tr k7
  refine KN (.bool false) rr (Mq rfl rfl rfl rr) (KQ ?_)
  have am:=K4 (.bool false)
  refine KK ?_
  refine K5 (t:=false) am (fun e=>by cases e) (fun _=>?_)
  refine Lf (KK (KM ?_))
  have hm7:0<=m/\m<7:=by first|assumption|(apply Decidable.byContradiction;assumption)
  refine RZ [some 7,some 8,some 9,some 10,some 11,some 12,some 13,some 14,some 2,some 3] [Pd.eq (iv m),Pd.eq (.pointer (some ⟨1,0+(m.toNat)*3,none⟩)),Pd.eq (.pointer (some ⟨1,0+(m.toNat)*3+1,none⟩)),Pd.eq (.bool (NM m)),Pd.eq (iv m),Pd.eq (.pointer (some ⟨1,0+(m.toNat)*3,none⟩)),Pd.eq (.pointer (some ⟨1,0+(m.toNat)*3+2,none⟩)),Pd.eq (.bool (Nv m)),Pd.eq (.bool (NM m)),Pd.eq (.bool (Nv m))] (by kernel_rfl) (by kernel_rfl) ?_ ?_
  ·refine KP ?_ ?_
   ·refine Ld.one rfl fun F_ w_ hR hout hD=>?_
    exact(KT rfl ((hout 0 rfl (by decide)).trans s3) ⟨rfl,KR.refl _ _⟩)
   refine KP ?_ ?_
   ·refine Ld.one rfl fun F_ w_ hR hout hD=>?_
    have g7:F_ 7=iv m:=(hD.get 0 rfl rfl rfl)
    exact(L3 (m.toNat) (s:=3) rfl rfl g7 (by omega) Tryz.underlying165 (by omega) (by kernel_rfl) (by omega) ⟨rfl,KR.refl _ _⟩)
   refine KP ?_ ?_
   ·refine Ld.one rfl fun F_ w_ hR hout hD=>?_
    have g8:F_ 8 = .pointer (some ⟨1,0+(m.toNat)*3,none⟩):=(hD.get 0 rfl rfl rfl)
    exact(KU (n:=1) rfl g8 Tryz.underlying164 rfl (by kernel_rfl) (by decide) rfl ⟨rfl,KR.refl _ _⟩)
   refine KP ?_ ?_
   ·refine Ld.one rfl fun F_ w_ hR hout hD=>?_
    have g9:F_ 9 = .pointer (some ⟨1,0+(m.toNat)*3+1,none⟩):=(hD.get 0 rfl rfl rfl)
    exact(ZN rfl g9 Tryz.underlying4 rfl ((Ue (hA.all (K8.trans hR (fun _ _ x=>x.elim))) hm7).2.1) ⟨rfl,KR.refl _ _⟩)
   refine KP ?_ ?_
   ·refine Ld.one rfl fun F_ w_ hR hout hD=>?_
    exact(KT rfl ((hout 0 rfl (by decide)).trans s3) ⟨rfl,KR.refl _ _⟩)
   refine KP ?_ ?_
   ·refine Ld.one rfl fun F_ w_ hR hout hD=>?_
    have aq:F_ 11=iv m:=(hD.get 0 rfl rfl rfl)
    exact(L3 (m.toNat) (s:=3) rfl rfl aq (by omega) Tryz.underlying165 (by omega) (by kernel_rfl) (by omega) ⟨rfl,KR.refl _ _⟩)
   refine KP ?_ ?_
   ·refine Ld.one rfl fun F_ w_ hR hout hD=>?_
    have ar:F_ 12 = .pointer (some ⟨1,0+(m.toNat)*3,none⟩):=(hD.get 0 rfl rfl rfl)
    exact(KU (n:=1) rfl ar Tryz.underlying164 rfl (by kernel_rfl) (by decide) rfl ⟨rfl,KR.refl _ _⟩)
   refine KP ?_ ?_
   ·refine Ld.one rfl fun F_ w_ hR hout hD=>?_
    have au:F_ 13 = .pointer (some ⟨1,0+(m.toNat)*3+2,none⟩):=(hD.get 0 rfl rfl rfl)
    exact(ZN rfl au Tryz.underlying4 rfl ((Ue (hA.all (K8.trans hR (fun _ _ x=>x.elim))) hm7).2.2) ⟨rfl,KR.refl _ _⟩)
   refine KP ?_ ?_
   ·refine Ld.one rfl fun F_ w_ hR hout hD=>?_
    have av:F_ 10 = .bool (NM m):=(hD.get 0 rfl rfl rfl)
    exact(Pv rfl av ⟨rfl,KR.refl _ _⟩)
   refine KP ?_ ?_
   ·refine Ld.one rfl fun F_ w_ hR hout hD=>?_
    have aw:F_ 14 = .bool (Nv m):=(hD.get 0 rfl rfl rfl)
    exact(Pv rfl aw ⟨rfl,KR.refl _ _⟩)
   exact Mj
  intro aI aj aJ az ae ab
  have aA:=(ab 15).trans s4
  have aB:aj 2 = .bool (NM m):=(ab 2).trans (ae 8 (by decide))
  have aC:aj 3 = .bool (Nv m):=(ab 3).trans (ae 9 (by decide))
  clear ae ab
  refine KK (Le ?_)
  exact Mo aA rfl (LF (v:=.bool (NM m)) rfl aB) (LF (v:=.bool (Nv m)) rfl aC) ⟨(by first|rfl|rw[hpo.1,hpo.2]),(K8.tr az)⟩
 ·skip
  refine KL (K2 Lw s3 (LH (R:=fun v_ w_=>v_ = .bool false/\KR (fun _=>False) w0 w_) rfl rfl (LQ rfl rfl rfl (fun _ _=>by kernel_rfl) (K6 _) (Lo rfl L5) (QV m  _   ) (fun e_ w_ h_=>⟨_,h_.1,(congrArg Value.bool (decide_eq_false d5)),h_.2⟩)) ?_))
  rintro _ aK ⟨rfl,aD⟩
  refine KN (.bool true) rr (Mq rfl rfl rfl rr) (KQ ?_)
  have aE:=K4 (.bool true)
  refine KK ?_
  refine K5 (t:=true) aE (fun _=>?_) (fun e=>by cases e)
  refine KM ?_
  have hpo:=aBV (m:=m) (by assumption)
  refine KL (Lb (.bool false) LE (Lb (.bool false) LE (KQ ?_)))
  have aF:=K4 (.bool false)
  have aG:=K4 (.bool false)
  refine KK (Le (Lx ?_))
  exact Mo s4 rfl (LF (v:=.bool false) rfl aF) (LF (v:=.bool false) rfl aG) ⟨(by first|rfl|rw[hpo.1,hpo.2]),(K0.tr aD)⟩
theorem aDg(b:Nat->Int)(c:Ch)(q:Int)(w0:World)(hs:Ox w0)(hw:QZ w0) :
  Calls Tryz.prog 76 #[LW (b),.agg (PN (c)).toArray,.int .i64 (q)] w0 fun e w'=>e = .returned (.tuple #[LW (buB b c.b q),.int .i64 (Q5 q)])/\KR (fun _=>False) w0 w':=by
 refine Ly (args:=[LW b,.agg (PN c).toArray,iv q]) 39 Tryz.func76 rfl rfl (Nat.le_of_ble_eq_true rfl) ?_
 have K0:=KR.refl (fun _=>False) w0
 refine KM (KL (Ny rfl rfl rfl rfl fun p1 w2 e5 B3 k4=>?_))
 have g6:=L7 (Nat.le_of_eq e5.symm)
 have aD:=KS.new K0 g6
 clear e5 g6
 refine LJ (vs:=(PN c)) rfl rfl rfl rfl fun p9 cr bj bl aE=>?_
 have aF:=KO.new bl (L8 B3.lt)
 have aG:=B3.all aE id
 have aH:=(K0.tr k4).tr aE
 refine Mf rfl rfl rfl KW.2.2 fun ac ct aI bm aJ=>?_
 have ae:=L7 (Nat.le_of_eq aI.symm)
 have aK:=KS.new aH ae
 have aL:=KO.new ae (L8 aG.lt)
 clear aI ae
 obtain⟨bn,aM⟩:=Oe aJ aG bj
 have aN:=aH.tr aJ
 refine Lb (iv 0) LE (KQ ?_)
 have bo:=K4 (iv q)
 have aO:=K4 (undef)
 have aP:=K4 (pt p1 0)
 have bp:=K4 (pt p9 0)
 have ao:=K4 (pt ac 0)
 refine KK (KM (KL (KN (pt p9 5) rr (KU (n:=16) rfl bp Tryz.underlying71 rfl (by kernel_rfl) (by decide) rfl rr) (KN (LW (c.b)) rr (PO (n:=16) (us:=Mp 16 (c.b)) Q3 rfl rfl aM (Nat.le_of_ble_eq_true rfl) rfl rr) (K2 Lw bo (L9 rfl rfl rfl rfl rfl (fun _ _=>by kernel_rfl) (Lo rfl (Lo rfl L5)) (aEW (c.b) q  _ (hs.all aN)  ) fun cu aQ=>?_))))))
 obtain⟨aR,aS,aT⟩:=Od aQ bn aM bm
 have aU:=aN.tr aQ
 refine KN (.tuple #[LW (TC (c.b) q),iv (Q5 q)]) rr (KT rfl rfl rr) (KN (LW (TC (c.b) q)) rr (LY rfl rfl rfl rr) (KN (iv (Q5 q)) rr (LY rfl rfl rfl rr) (Mf rfl rfl rfl KW.2.2 fun ai cv aV bq aW=>?_)))
 have aX:=L7 (Nat.le_of_eq aV.symm)
 obtain⟨ap,bt,bu⟩:=Us aX aR aS aT
 clear aV
 obtain⟨bv,bz,bA⟩:=Od aW aR aS aT
 refine Lu KW rfl rfl rfl rfl rfl bq fun cw aY aj=>?_
 have aZ:=bv.all aj (ap.symm p1 rfl)
 have bB:=bz.all aj (bt.symm p9 rfl)
 have a8:=bA.all aj (bu.symm ac rfl)
 have aq:=(aU.tr aW).trans aj (KS.ok (S:=fun _=>False) (KS.new aU aX) KZ)
 refine Lb (iv (Q5 q)) LE (KQ ?_)
 have bC:=K4 (pt ai 0)
 have a9:=K4 (iv (Q5 q))
 refine KK (KM (KM (KL (K2 Lw a9 (KN (.bool (decide ((Q5 q)≠0))) rr (Mw rfl rfl rfl rfl rr) (KQ ?_))))))
 have bD:=K4 (.bool (decide ((Q5 q)≠0)))
 refine KK ?_
 refine K5 bD (fun af=>?_) (fun af=>?_)
 ·replace af:=of_decide_eq_true af
  refine KM ?_
  have hR:=aF7 (b:=b) (l:=c.b) (q:=q) (by assumption)
  refine KL (KN (LW (fun _=>0)) rr (MQ (cells:=(Mp 16 (fun _=>0)).toArray) rfl (by kernel_rfl) rfl rr) (K2 Lw a9 (Lu KW rfl rfl rfl ao rfl a8 fun cy bE bF=>?_)))
  refine Lb (iv (Q5 q)) LE (KQ ?_)
  have bG:=K4 (iv (Q5 q))
  refine KK (Le (Lx ?_))
  exact Mo aO rfl (MH KW rfl ao bE) (LF (v:=iv (Q5 q)) rfl bG) ⟨(by first|rw[hR,hq0]|rw[hR]),(aq.trans bF (KS.ok (S:=fun _=>False) aK KZ))⟩
 ·replace af:=of_decide_eq_false af
  refine Lf (KK (KM ?_))
  have hq0:Q5 q=0:=by first|assumption|(apply Decidable.byContradiction;assumption)
  have hR:=aDn (b:=b) (l:=c.b) hq0
  refine NJ 4 [some 23,some 24,some 25,some 26] [Pd.eq (LW b),Pd.eq (LW (TC (c.b) q)),Pd.eq (LW (Ov (TC (c.b) q))),Pd.eq (LW (Pu b (Ov (TC (c.b) q))))] (by kernel_rfl) (by kernel_rfl) (by kernel_rfl) ?_ ?_
  ·refine KP ?_ ?_
   ·refine Ld.one rfl fun F_ w_ hR hout hD=>?_
    exact(Me KW rfl ((hout 3 rfl (by decide)).trans aP) (aZ.all hR id) ⟨rfl,KR.refl _ _⟩)
   refine KP ?_ ?_
   ·refine Ld.one rfl fun F_ w_ hR hout hD=>?_
    exact(Me KW rfl ((hout 8 rfl (by decide)).trans bC) (aY.all hR id) ⟨rfl,KR.refl _ _⟩)
   refine KP ?_ ?_
   ·refine Ld.one rfl fun F_ w_ hR hout hD=>?_
    have bH:F_ 24=LW (TC (c.b) q):=(hD.get 0 rfl rfl rfl)
    exact(LQ rfl rfl rfl (fun _ _=>by kernel_rfl) (K6 _) (Lo bH L5) (aCM (TC (c.b) q)  _ (hw.all (aq.trans hR (fun _ _ x=>x.elim)))  ) (fun e_ w_ h_=>⟨_,h_.1,rfl,h_.2⟩))
   refine KP ?_ ?_
   ·refine Ld.one rfl fun F_ w_ hR hout hD=>?_
    have ae:F_ 23=LW b:=(hD.get 0 rfl rfl rfl)
    have bI:F_ 25=LW (Ov (TC (c.b) q)):=(hD.get 1 rfl rfl rfl)
    exact(LQ rfl rfl rfl (fun _ _=>by kernel_rfl) (K6 _) (Lo ae (Lo bI L5)) (aB5 b (Ov (TC (c.b) q))  _   ) (fun e_ w_ h_=>⟨_,h_.1,rfl,h_.2⟩))
   exact Mj
  intro cz bJ cA ba bb ar
  obtain⟨bK,bL,bM,bN⟩:=Pg ba aZ bB a8 aY
  obtain⟨bO,au,bP⟩:=t3 ar 39 aO 3 aP 6 ao
  have bQ:bJ 26=LW (Pu b (Ov (TC (c.b) q))):=(ar 26).trans (bb 3 (by decide))
  clear bb ar
  refine Lu KW rfl rfl rfl au bQ bK fun cC bc ak=>?_
  have bR:=bL.all ak (aF p9 rfl)
  have bS:=bM.all ak (aL ac rfl)
  have bT:=bN.all ak (ap ai rfl)
  refine KQ ?_
  refine KK (KM (KM (KL (KN (LW (Pu b (Ov (TC (c.b) q)))) rr (Me KW rfl au bc rr) (KN (iv 0) rr (KT rfl rfl rr) (KQ ?_))))))
  have bU:=K4 (LW (Pu b (Ov (TC (c.b) q))))
  have bV:=K4 (iv 0)
  refine KK (Lm (M8 (fun nn FF ww=>∃ (i:Nat),(i<=16)/\nn=16-i/\FF 3=pt p1 0/\FF 6=pt ac 0/\FF 27=LW (Pu b (Ov (TC (c.b) q)))/\FF 39=undef/\FF 28=iv ((i:Nat):Int)/\KR (fun _=>False) w0 ww/\Of ww p1 69 (upto i (Pu b (Ov (TC c.b q))) (c8M (Pu b (Ov (TC c.b q)))))/\MJ ww p9 71 (PN c)/\Of ww ac 69 (fun _=>0)/\Of ww ai 69 (TC (c.b) q)) (16-0) ⟨0,by omega,rfl,au,bP,bU,bO,bV,((aq.tr ba).trans ak (KS.ok (S:=fun _=>False) aD KZ)),bc.first,bR,bS,bT⟩ ?_))
  rintro cD cE bW ⟨i,i131,hn130,av,aw,bd,be,am,bf,bg,bX,bh,bY⟩
  refine KM (KL (KN (.bool (decide (((i:Nat):Int)<16))) rr (Mc rfl am rfl rfl rr) (KQ ?_)))
  have bZ:=K4 (.bool (decide (((i:Nat):Int)<16)))
  refine KK (KM ?_)
  refine K5 bZ (fun ah=>?_) (fun ah=>?_)
  ·replace ah:=of_decide_eq_true ah
   refine Lf (KK (KM (Lm (KM (KL (K2 Lw am (KN (iv ((Pu b (Ov (TC (c.b) q))) i)) rr (aBN i KW rfl bd am (by omega) rfl rr) (Lb (iv ((i:Nat):Int)) LE (Lb (iv ((Pu b (Ov (TC (c.b) q))) i)) LE (KQ ?_))))))))))
   have b7:=K4 (iv ((i:Nat):Int))
   have b8:=K4 (iv ((Pu b (Ov (TC (c.b) q))) i))
   refine KK (KL (K2 Lw b7 (K2 Lw b8 (KN (iv (min ((Pu b (Ov (TC (c.b) q))) i) 255)) rr (RB rfl rfl rfl rfl rr) (KN (iv (c8M (Pu b (Ov (TC c.b q))) i)) rr (R9 rfl rfl rfl (by unfold c8M;omega) rr) (KN (.pointer (some ⟨p1,i,none⟩)) rr (L3 i (s:=1) rfl av rfl (by omega) Tryz.underlying69 (by omega) (by kernel_rfl) (by omega) rr) (Oh rfl rfl rfl rfl rfl bg (by omega) (by kernel_rfl) fun cF b9 an=>?_)))))))
   have cd:=bX.all an (aF p9 rfl)
   have ce:=bh.all an (aL ac rfl)
   have cf:=bY.all an (ap ai rfl)
   refine KQ ?_
   refine Lz (KK (KL (KN (iv ((i+1:Nat):Int)) rr (LS rfl am rfl (LX (by omega) (by omega)) rr) (KN (iv ((i+1:Nat):Int)) rr (KT rfl rfl rr) (KQ ?_)))))
   have cg:=K4 (iv ((i+1:Nat):Int))
   exact KK ⟨(16-(i+1)),by omega,i+1,by omega,rfl,av,aw,bd,be,cg,(bf.trans an (KS.ok (S:=fun _=>False) aD KZ)),(b9.next rfl),cd,ce,cf⟩
  ·replace ah:=of_decide_eq_false ah
   refine Mm (Lp (Lp ?_))
   have ci:16=i:=by omega
   subst ci
   have cj:Of bW p1 69 (c8M (Pu b (Ov (TC c.b q)))):=(bg.last)
   refine Mk (KK (KM (KL (KN (LW (c8M (Pu b (Ov (TC c.b q))))) rr (Me KW rfl av cj rr) (Lu KW rfl rfl rfl aw rfl bh fun cG cm cn=>?_)))))
   refine Lb (iv 0) LE (KQ ?_)
   have co:=K4 (iv 0)
   refine KK (Le ?_)
   exact Mo be rfl (MH KW rfl aw cm) (LF (v:=iv 0) rfl co) ⟨(by first|rw[hR,hq0]|rw[hR]),(bf.trans cn (KS.ok (S:=fun _=>False) aK KZ))⟩
theorem azy(k x y:Int)(c:Ch)(f:FD)(f0 f1 f2:Value)(g:FD)(g0 g1 g2:Value)(h:FD)(h0 h1 h2:Value)(T_f0:Nat->Prop)(T_f1:Nat->Prop)(T_f2:Nat->Prop)(T_g0:Nat->Prop)(T_g1:Nat->Prop)(T_g2:Nat->Prop)(T_h0:Nat->Prop)(T_h1:Nat->Prop)(T_h2:Nat->Prop)(w0:World)(hA:Og w0)(h_f0:Mv w0 T_f0 f0 ((f).p0))(h_f1:Mv w0 T_f1 f1 ((f).p1))(h_f2:Mv w0 T_f2 f2 ((f).p2))(h_g0:Mv w0 T_g0 g0 ((g).p0))(h_g1:Mv w0 T_g1 g1 ((g).p1))(h_g2:Mv w0 T_g2 g2 ((g).p2))(h_h0:Mv w0 T_h0 h0 ((h).p0))(h_h1:Mv w0 T_h1 h1 ((h).p1))(h_h2:Mv w0 T_h2 h2 ((h).p2)) :
  Calls Tryz.prog 75 #[.agg #[.int .i64 ((f).W),.int .i64 ((f).H),f0,f1,f2],.agg #[.int .i64 ((g).W),.int .i64 ((g).H),g0,g1,g2],.agg #[.int .i64 ((h).W),.int .i64 ((h).H),h0,h1,h2],.int .i64 (k),.int .i64 (x),.int .i64 (y),.agg (PN (c)).toArray] w0 fun e w'=>e = .returned (.tuple #[LW (VM f g h k x y c),.int .i64 (UO f g h k x y c)])/\KR (fun _=>False) w0 w':=by
 refine Ly (args:=[.agg #[iv (f.W),iv (f.H),f0,f1,f2],.agg #[iv (g.W),iv (g.H),g0,g1,g2],.agg #[iv (h.W),iv (h.H),h0,h1,h2],iv k,iv x,iv y,.agg (PN c).toArray]) 82 Tryz.func75 rfl rfl (Nat.le_of_ble_eq_true rfl) ?_
 have g_f0:=KS.refl w0 T_f0
 have g_f1:=KS.refl w0 T_f1
 have g_f2:=KS.refl w0 T_f2
 have g_g0:=KS.refl w0 T_g0
 have g_g1:=KS.refl w0 T_g1
 have g_g2:=KS.refl w0 T_g2
 have g_h0:=KS.refl w0 T_h0
 have g_h1:=KS.refl w0 T_h1
 have g_h2:=KS.refl w0 T_h2
 refine KM (KL (LJ (vs:=[iv (f.W),iv (f.H),f0,f1,f2]) rfl rfl rfl rfl fun p1 w2 B4 g5 k3=>?_))
 obtain⟨bV,bW,bX,bY,bZ,b7,b8,b9,cd⟩:=aA9 k3 h_f0 h_f1 h_f2 h_g0 h_g1 h_g2 h_h0 h_h1 h_h2
 refine LJ (vs:=[iv (g.W),iv (g.H),g0,g1,g2]) rfl rfl rfl rfl fun ce fK cf fL aM=>?_
 obtain⟨cg,ci,cj,cm,cn,co,cq,cr,ct,cu⟩:=Uo aM bV bW bX bY bZ b7 b8 b9 cd B4
 refine LJ (vs:=[iv (h.W),iv (h.H),h0,h1,h2]) rfl rfl rfl rfl fun aN fM cv fN aO=>?_
 obtain⟨cw,cy,cz,cA,cB,cC,cD,cE,cF,cG,cH⟩:=aCY aO cg ci cj cm cn co cq cr ct cu cf
 refine LJ (vs:=(PN c)) rfl rfl rfl rfl fun ab fO cI fP aP=>?_
 obtain⟨cJ,cK,cL,cM,cN,cO,cP,cQ,cR,cS,cT,cU⟩:=aCl aP cw cy cz cA cB cC cD cE cF cG cH cv
 have aQ:=((((KR.refl (fun _=>False) w0).tr k3).tr aM).tr aO).tr aP
 refine Mf rfl rfl rfl KW.2.2 fun ap fQ aR cV aS=>?_
 have aT:=L7 (Nat.le_of_eq aR.symm)
 have ac:=KS.new aQ aT
 clear aR aT
 obtain⟨cW,cX,cY,cZ,c5,c6,c7,c9,da,db,dc,dd,aU⟩:=ZI aS cJ cK cL cM cN cO cP cQ cR cS cT cU cI
 have aV:=aQ.tr aS
 refine Lb (iv 0) LE (KQ ?_)
 have aq:=K4 (iv k)
 have ar:=K4 (iv x)
 have au:=K4 (iv y)
 have ae:=K4 (undef)
 have de:=K4 (pt p1 0)
 have df:=K4 (pt ce 0)
 have aW:=K4 (pt aN 0)
 have aj:=K4 (pt ab 0)
 have aa:=K4 (pt ap 0)
 refine KK (WK (KM (KL (KN (pt ab 0) rr (KU (n:=1) rfl aj Tryz.underlying71 rfl (by kernel_rfl) (by decide) rfl rr) (KN (iv (c.m)) rr (KY rfl rfl Tryz.underlying3 aU rfl rfl rr) (L9 rfl rfl rfl rfl rfl (fun _ _=>by kernel_rfl) (Lo rfl L5) (WP (c.m)  _ (hA.all aV)  ) fun fR aX=>?_))))))
 obtain⟨dg,dh,di,dj,dk,dl,aY,aZ,a8,dm,dn,a9,ba,bb⟩:=PT aX cW cX cY cZ c5 c6 c7 c9 da db dc dd aU cV
 have bc:=aV.tr aX
 refine KN (.tuple #[.bool (NM (c.m)),.bool (Nv (c.m))]) rr (KT rfl rfl rr) (KN (.bool (NM (c.m))) rr (LY rfl rfl rfl rr) (KN (.bool (Nv (c.m))) rr (LY rfl rfl rfl rr) (Lb (.bool (NM (c.m))) LE (Lb (.bool (Nv (c.m))) LE (KQ ?_)))))
 have af:=K4 (.bool (NM (c.m)))
 have ak:=K4 (.bool (Nv (c.m)))
 refine KK (KM (KL (Mf rfl rfl rfl KW.2.2 fun bd fS be bf bg=>?_)))
 have bh:=L7 (Nat.le_of_eq be.symm)
 obtain⟨dp,dq,dr,dt,du,dv⟩:=WS bh aY aZ a8 a9 ba bb
 clear be
 obtain⟨dw,dy,dz,dA,dB,dC,dD,dE,dF,dG,dH,dI,dJ,bi⟩:=PT bg dg dh di dj dk dl aY aZ a8 dm dn a9 ba bb
 have bj:=bc.tr bg
 refine Mf rfl rfl rfl KW.2.2 fun bl bm bn dK az=>?_
 have aA:=L7 (Nat.le_of_eq bn.symm)
 have bo:=KS.new bj aA
 obtain⟨bp,bq⟩:=UJ aA bi bf
 clear bn aA
 obtain⟨dL,dM,dN,dO,dP,dQ,dR,dS,dT,dU,dV,dW,aB,bt⟩:=PT az dw dy dz dA dB dC dD dE dF dG dH dI dJ bi
 have dX:=bf.all az id
 have bu:=bj.tr az
 refine KQ ?_
 have aC:=K4 (pt bd 0)
 have av:=K4 (pt bl 0)
 refine KK (KM (KL (Lb (iv 120) LE (KQ ?_))))
 have dY:=K4 (iv 120)
 refine KK (KM (KM ?_))
 by_cases bv:0<=(c.m)/\(c.m)<7
 ·skip
  refine KL (KN (pt ab 0) rr (KU (n:=1) rfl aj Tryz.underlying71 rfl (by kernel_rfl) (by decide) rfl rr) (KN (iv (c.m)) rr (KY rfl rfl Tryz.underlying3 aB rfl rfl rr) (LH (R:=fun v_ w_=>v_ = .bool true/\KR (fun _=>False) bm w_) rfl rfl (LQ rfl rfl rfl (fun _ _=>by kernel_rfl) (K6 _) (Lo rfl L5) (QV (c.m)  _   ) (fun e_ w_ h_=>⟨_,h_.1,(congrArg Value.bool (decide_eq_true bv)),h_.2⟩)) ?_)))
  rintro _ fT ⟨rfl,aD⟩
  obtain⟨dZ,d8,d9,eb,ee,eh,bz,bA,bB,ei,en,bC,aw,aE⟩:=PT aD dL dM dN dO dP dQ dR dS dT dU dV dW aB bt
  obtain⟨eo,bD⟩:=Oe aD dX dK
  have aF:=bu.tr aD
  refine KN (.bool false) rr (Mq rfl rfl rfl rr) (KQ ?_)
  have ep:=K4 (.bool false)
  refine KK ?_
  refine K5 (t:=false) ep (fun e=>by cases e) (fun _=>?_)
  refine Lf (KK (KM (KM ?_)))
  have hm7:0<=c.m/\c.m<7:=by first|assumption|(apply Decidable.byContradiction;assumption)
  refine KL (K2 Lw af (KQ ?_))
  have er:=K4 (.bool (NM (c.m)))
  refine KK ?_
  refine K5 er (fun ah=>?_) (fun ah=>?_)
  ·skip
   refine KM (KL (KN (.agg #[iv (g.W),iv (g.H),g0,g1,g2]) rr (KX La rfl df en rr) (K2 Lw aq (K2 Lw ar (K2 Lw au (KN (pt ab 1) rr (KU (n:=2) rfl aj Tryz.underlying71 rfl (by kernel_rfl) (by decide) rfl rr) (KN (.agg #[iv (c.px),iv (c.py)]) rr (PO (n:=2) L0 rfl rfl aw (Nat.le_of_ble_eq_true rfl) rfl rr) (L9 rfl rfl rfl rfl rfl (fun _ _=>by kernel_rfl) (Lo rfl (Lo rfl (Lo rfl (Lo rfl (Lo rfl L5))))) (TZ k x y (c.px) (c.py) g g0 g1 g2 T_g0 T_g1 T_g2 _  eb ee eh ) fun fU bE=>?_))))))))
   obtain⟨et,eu,ew,ex,ey,ez,eA,eB⟩:=Yf bE bz bA bB bC aw aE eo bD
   refine KN (.tuple #[LW (U2 g k x y (c.px) (c.py)),iv (PC g k x y (c.px) (c.py))]) rr (KT rfl rfl rr) (KN (LW (U2 g k x y (c.px) (c.py))) rr (LY rfl rfl rfl rr) (KN (iv (PC g k x y (c.px) (c.py))) rr (LY rfl rfl rfl rr) (Lu KW rfl rfl rfl aC rfl eA fun fV bF ai=>?_)))
   have eC:=et.all ai dp.symm
   have eD:=eu.all ai dq.symm
   have eE:=ew.all ai dr.symm
   have eF:=ex.all ai (dt.symm aN rfl)
   have eG:=ey.all ai (du.symm ab rfl)
   have aG:=ez.all ai (dv.symm ap rfl)
   have eH:=eB.all ai (bq bl rfl)
   have aH:=(aF.tr bE).trans ai (KS.ok (S:=fun _=>False) (KS.new bc bh) KZ)
   refine Lb (iv (PC g k x y (c.px) (c.py))) LE (KQ ?_)
   have bG:=K4 (iv (PC g k x y (c.px) (c.py)))
   refine KK (KM (KL (K2 Lw bG (KN (.bool (decide ((PC g k x y (c.px) (c.py))≠0))) rr (Mw rfl rfl rfl rfl rr) (KQ ?_)))))
   have eI:=K4 (.bool (decide ((PC g k x y (c.px) (c.py))≠0)))
   refine KK ?_
   refine K5 eI (fun am=>?_) (fun am=>?_)
   ·replace am:=of_decide_eq_true am
    refine N0 (MB ?_)
    refine Na ⟨_,rfl,?_⟩
    refine KM (Lf (KK (KM ?_)))
    first|have hR:=X7 (f:=f) (p:=g) (n:=h) (k:=k) (x:=x) (y:=y) (c:=c) (by omega)|have hR:=Ux (f:=f) (p:=g) (n:=h) (k:=k) (x:=x) (y:=y) (c:=c) (Rv (by assumption)) (by assumption)|have hR:=UK (f:=f) (p:=g) (n:=h) (k:=k) (x:=x) (y:=y) (c:=c) (by have a1:=Vf (m:=c.m) (by assumption);have a2:=Rs (m:=c.m) (by assumption);omega) (by assumption)|have hR:=Uf (f:=f) (p:=g) (n:=h) (k:=k) (x:=x) (y:=y) (c:=c) (by have a1:=Rv (m:=c.m) (by assumption);have a2:=Rs (m:=c.m) (by assumption);omega) (by first|assumption|(apply Decidable.byContradiction;assumption)) (by assumption)
    refine KL (KN (LW (fun _=>0)) rr (MQ (cells:=(Mp 16 (fun _=>0)).toArray) rfl (by kernel_rfl) rfl rr) (K2 Lw bG (Lu KW rfl rfl rfl aa rfl aG fun fW eJ eK=>?_)))
    refine Lb (iv (PC g k x y (c.px) (c.py))) LE (KQ ?_)
    have eL:=K4 (iv (PC g k x y (c.px) (c.py)))
    refine KK (Le (Nu ?_))
    exact Mo ae rfl (MH KW rfl aa eJ) (LF (v:=iv (PC g k x y (c.px) (c.py))) rfl eL) ⟨(by first|rw[hR.1,hR.2,he0]|rw[hR.1,hR.2]),(aH.trans eK (KS.ok (S:=fun _=>False) ac KZ))⟩
   ·replace am:=of_decide_eq_false am
    refine Lf (KK (KM (KM (KL (K2 Lw ak (KQ ?_))))))
    have eM:=K4 (.bool (Nv (c.m)))
    refine KK ?_
    refine K5 eM (fun aI=>?_) (fun aI=>?_)
    ·skip
     refine KM (KL (KN (.agg #[iv (h.W),iv (h.H),h0,h1,h2]) rr (KX La rfl aW eF rr) (K2 Lw aq (K2 Lw ar (K2 Lw au (KN (pt ab 3) rr (KU (n:=2) rfl aj Tryz.underlying71 rfl (by kernel_rfl) (by decide) rfl rr) (KN (.agg #[iv (c.nx),iv (c.ny)]) rr (PO (n:=2) L0 rfl rfl eG (Nat.le_of_ble_eq_true rfl) rfl rr) (L9 rfl rfl rfl rfl rfl (fun _ _=>by kernel_rfl) (Lo rfl (Lo rfl (Lo rfl (Lo rfl (Lo rfl L5))))) (TZ k x y (c.nx) (c.ny) h h0 h1 h2 T_h0 T_h1 T_h2 _  eC eD eE ) fun fX bH=>?_))))))))
     obtain⟨eN,eO,eP⟩:=Od bH aG bF eH
     refine KN (.tuple #[LW (U2 h k x y (c.nx) (c.ny)),iv (PC h k x y (c.nx) (c.ny))]) rr (KT rfl rfl rr) (KN (LW (U2 h k x y (c.nx) (c.ny))) rr (LY rfl rfl rfl rr) (KN (iv (PC h k x y (c.nx) (c.ny))) rr (LY rfl rfl rfl rr) (Lu KW rfl rfl rfl av rfl eP fun fY eQ aJ=>?_)))
     have bI:=eN.all aJ (bp.symm ap rfl)
     have eR:=eO.all aJ (bq.symm bd rfl)
     have bJ:=(aH.tr bH).trans aJ (KS.ok (S:=fun _=>False) bo KZ)
     refine Lb (iv (PC h k x y (c.nx) (c.ny))) LE (KQ ?_)
     have bK:=K4 (iv (PC h k x y (c.nx) (c.ny)))
     refine KK (KM (KL (K2 Lw bK (KN (.bool (decide ((PC h k x y (c.nx) (c.ny))≠0))) rr (Mw rfl rfl rfl rfl rr) (KQ ?_)))))
     have eS:=K4 (.bool (decide ((PC h k x y (c.nx) (c.ny))≠0)))
     refine KK ?_
     refine K5 eS (fun an=>?_) (fun an=>?_)
     ·replace an:=of_decide_eq_true an
      refine N0 (MB ?_)
      refine Na ⟨_,rfl,?_⟩
      refine KM (Lf (KK (KM ?_)))
      first|have hR:=X7 (f:=f) (p:=g) (n:=h) (k:=k) (x:=x) (y:=y) (c:=c) (by omega)|have hR:=Ux (f:=f) (p:=g) (n:=h) (k:=k) (x:=x) (y:=y) (c:=c) (Rv (by assumption)) (by assumption)|have hR:=UK (f:=f) (p:=g) (n:=h) (k:=k) (x:=x) (y:=y) (c:=c) (by have a1:=Vf (m:=c.m) (by assumption);have a2:=Rs (m:=c.m) (by assumption);omega) (by assumption)|have hR:=Uf (f:=f) (p:=g) (n:=h) (k:=k) (x:=x) (y:=y) (c:=c) (by have a1:=Rv (m:=c.m) (by assumption);have a2:=Rs (m:=c.m) (by assumption);omega) (by first|assumption|(apply Decidable.byContradiction;assumption)) (by assumption)
      refine KL (KN (LW (fun _=>0)) rr (MQ (cells:=(Mp 16 (fun _=>0)).toArray) rfl (by kernel_rfl) rfl rr) (K2 Lw bK (Lu KW rfl rfl rfl aa rfl bI fun fZ eT eU=>?_)))
      refine Lb (iv (PC h k x y (c.nx) (c.ny))) LE (KQ ?_)
      have eV:=K4 (iv (PC h k x y (c.nx) (c.ny)))
      refine KK (Le (Nu ?_))
      exact Mo ae rfl (MH KW rfl aa eT) (LF (v:=iv (PC h k x y (c.nx) (c.ny))) rfl eV) ⟨(by first|rw[hR.1,hR.2,he0]|rw[hR.1,hR.2]),(bJ.trans eU (KS.ok (S:=fun _=>False) ac KZ))⟩
     ·replace an:=of_decide_eq_false an
      refine Lf (KK (KM (Lm (KM (KL (KN (.bool true) rr (KT rfl (Eq.trans af (congrArg Value.bool ah)) rr) (KN (.bool true) rr (KT rfl rfl rr) (Lj (.bool true) 1 true 59 Li (KT rfl (Eq.trans ak (congrArg Value.bool aI)) rr) (KN (.bool true) rr (LB rfl rfl rfl rr) (Lb (.bool true) LE (KQ ?_)))))))))))
      have eW:=K4 (.bool true)
      refine KK ?_
      refine K5 (t:=true) eW (fun _=>?_) (fun e=>by cases e)
      refine KM ?_
      have hR:=X4 (f:=f) (p:=g) (n:=h) (k:=k) (x:=x) (y:=y) (c:=c) (by have a1:=Rv (m:=c.m) (by assumption);have a2:=Rs (m:=c.m) (by assumption);omega) (by first|assumption|(apply Decidable.byContradiction;assumption)) (by first|assumption|(apply Decidable.byContradiction;assumption))
      refine KL (KN (LW (U2 g k x y (c.px) (c.py))) rr (Me KW rfl aC eR rr) (KN (LW (U2 h k x y (c.nx) (c.ny))) rr (Me KW rfl av eQ rr) (L9 rfl rfl rfl rfl rfl (fun _ _=>by kernel_rfl) (Lo rfl (Lo rfl L5)) (aD7 (U2 g k x y (c.px) (c.py)) (U2 h k x y (c.nx) (c.ny))  _   ) fun f5 bL=>?_)))
      have eX:=bI.all bL id
      refine Lu KW rfl rfl rfl aa rfl eX fun f7 eY eZ=>?_
      refine Lb (iv 0) LE (KQ ?_)
      have e6:=K4 (iv 0)
      refine KK (Le (Ot (Lx (PL ?_))))
      exact Mo ae rfl (MH KW rfl aa eY) (LF (v:=iv 0) rfl e6) ⟨(by first|rw[hR.1,hR.2,he0]|rw[hR.1,hR.2]),((bJ.tr bL).trans eZ (KS.ok (S:=fun _=>False) ac KZ))⟩
    ·skip
     refine Lf (KK (KM (Lm (KM (KL (KN (.bool true) rr (KT rfl (Eq.trans af (congrArg Value.bool ah)) rr) (KN (.bool true) rr (KT rfl rfl rr) (Lj (.bool false) 1 true 59 Li (KT rfl (Eq.trans ak (congrArg Value.bool aI)) rr) (KN (.bool false) rr (LB rfl rfl rfl rr) (Lb (.bool false) LE (KQ ?_)))))))))))
     have e7:=K4 (.bool false)
     refine KK ?_
     refine K5 (t:=false) e7 (fun e=>by cases e) (fun _=>?_)
     refine KM (KL (KN (.bool true) rr (KT rfl (Eq.trans af (congrArg Value.bool ah)) rr) (Lb (.bool true) LE (KQ ?_))))
     have e8:=K4 (.bool true)
     refine KK ?_
     refine K5 (t:=true) e8 (fun _=>?_) (fun e=>by cases e)
     refine KM ?_
     have hR:=Ua (f:=f) (p:=g) (n:=h) (k:=k) (x:=x) (y:=y) (c:=c) (by have a1:=Rv (m:=c.m) (by assumption);have a2:=aCc (m:=c.m) (by assumption);omega)
     have he0:=show PC g k x y c.px c.py=0 from (by first|assumption|(apply Decidable.byContradiction;assumption))
     refine KL (KN (LW (U2 g k x y (c.px) (c.py))) rr (Me KW rfl aC bF rr) (Lu KW rfl rfl rfl aa rfl aG fun f8 e9 fa=>?_))
     refine Lb (iv 0) LE (KQ ?_)
     have fb:=K4 (iv 0)
     refine KK (Le (Ot (Lx (PL ?_))))
     exact Mo ae rfl (MH KW rfl aa e9) (LF (v:=iv 0) rfl fb) ⟨(by first|rw[hR.1,hR.2,he0]|rw[hR.1,hR.2]),(aH.trans fa (KS.ok (S:=fun _=>False) ac KZ))⟩
  ·skip
   refine Lf (KK (KM (KM (KL (K2 Lw ak (KQ ?_))))))
   have fc:=K4 (.bool (Nv (c.m)))
   refine KK ?_
   refine K5 fc (fun aK=>?_) (fun aK=>?_)
   ·skip
    refine KM (KL (KN (.agg #[iv (h.W),iv (h.H),h0,h1,h2]) rr (KX La rfl aW bC rr) (K2 Lw aq (K2 Lw ar (K2 Lw au (KN (pt ab 3) rr (KU (n:=2) rfl aj Tryz.underlying71 rfl (by kernel_rfl) (by decide) rfl rr) (KN (.agg #[iv (c.nx),iv (c.ny)]) rr (PO (n:=2) L0 rfl rfl aw (Nat.le_of_ble_eq_true rfl) rfl rr) (L9 rfl rfl rfl rfl rfl (fun _ _=>by kernel_rfl) (Lo rfl (Lo rfl (Lo rfl (Lo rfl (Lo rfl L5))))) (TZ k x y (c.nx) (c.ny) h h0 h1 h2 T_h0 T_h1 T_h2 _  bz bA bB ) fun f9 bM=>?_))))))))
    obtain⟨fd,fe⟩:=Oe bM aE bD
    refine KN (.tuple #[LW (U2 h k x y (c.nx) (c.ny)),iv (PC h k x y (c.nx) (c.ny))]) rr (KT rfl rfl rr) (KN (LW (U2 h k x y (c.nx) (c.ny))) rr (LY rfl rfl rfl rr) (KN (iv (PC h k x y (c.nx) (c.ny))) rr (LY rfl rfl rfl rr) (Lu KW rfl rfl rfl av rfl fe fun ga ff bN=>?_)))
    have bO:=fd.all bN (bp.symm ap rfl)
    have bP:=(aF.tr bM).trans bN (KS.ok (S:=fun _=>False) bo KZ)
    refine Lb (iv (PC h k x y (c.nx) (c.ny))) LE (KQ ?_)
    have bQ:=K4 (iv (PC h k x y (c.nx) (c.ny)))
    refine KK (KM (KL (K2 Lw bQ (KN (.bool (decide ((PC h k x y (c.nx) (c.ny))≠0))) rr (Mw rfl rfl rfl rfl rr) (KQ ?_)))))
    have fg:=K4 (.bool (decide ((PC h k x y (c.nx) (c.ny))≠0)))
    refine KK ?_
    refine K5 fg (fun ao=>?_) (fun ao=>?_)
    ·replace ao:=of_decide_eq_true ao
     refine N0 (MB ?_)
     refine Na ⟨_,rfl,?_⟩
     refine KM (Lf (KK (KM ?_)))
     first|have hR:=X7 (f:=f) (p:=g) (n:=h) (k:=k) (x:=x) (y:=y) (c:=c) (by omega)|have hR:=Ux (f:=f) (p:=g) (n:=h) (k:=k) (x:=x) (y:=y) (c:=c) (Rv (by assumption)) (by assumption)|have hR:=UK (f:=f) (p:=g) (n:=h) (k:=k) (x:=x) (y:=y) (c:=c) (by have a1:=Vf (m:=c.m) (by assumption);have a2:=Rs (m:=c.m) (by assumption);omega) (by assumption)|have hR:=Uf (f:=f) (p:=g) (n:=h) (k:=k) (x:=x) (y:=y) (c:=c) (by have a1:=Rv (m:=c.m) (by assumption);have a2:=Rs (m:=c.m) (by assumption);omega) (by first|assumption|(apply Decidable.byContradiction;assumption)) (by assumption)
     refine KL (KN (LW (fun _=>0)) rr (MQ (cells:=(Mp 16 (fun _=>0)).toArray) rfl (by kernel_rfl) rfl rr) (K2 Lw bQ (Lu KW rfl rfl rfl aa rfl bO fun gb fh fi=>?_)))
     refine Lb (iv (PC h k x y (c.nx) (c.ny))) LE (KQ ?_)
     have fj:=K4 (iv (PC h k x y (c.nx) (c.ny)))
     refine KK (Le (Nu ?_))
     exact Mo ae rfl (MH KW rfl aa fh) (LF (v:=iv (PC h k x y (c.nx) (c.ny))) rfl fj) ⟨(by first|rw[hR.1,hR.2,he0]|rw[hR.1,hR.2]),(bP.trans fi (KS.ok (S:=fun _=>False) ac KZ))⟩
    ·replace ao:=of_decide_eq_false ao
     refine Lf (KK (KM (Lm (KM (KL (KN (.bool false) rr (KT rfl (Eq.trans af (congrArg Value.bool ah)) rr) (KN (.bool false) rr (KT rfl rfl rr) (Lq 1 true 59 Li (KN (.bool false) rr (Lt rfl rfl rfl rr) (Lb (.bool false) LE (KQ ?_)))))))))))
     have fk:=K4 (.bool false)
     refine KK ?_
     refine K5 (t:=false) fk (fun e=>by cases e) (fun _=>?_)
     refine KM (KL (KN (.bool false) rr (KT rfl (Eq.trans af (congrArg Value.bool ah)) rr) (Lb (.bool false) LE (KQ ?_))))
     have fm:=K4 (.bool false)
     refine KK ?_
     refine K5 (t:=false) fm (fun e=>by cases e) (fun _=>?_)
     refine KM (KL (KN (.bool true) rr (KT rfl (Eq.trans ak (congrArg Value.bool aK)) rr) (Lb (.bool true) LE (KQ ?_))))
     have fo:=K4 (.bool true)
     refine KK ?_
     refine K5 (t:=true) fo (fun _=>?_) (fun e=>by cases e)
     refine KM ?_
     have hR:=VZ (f:=f) (p:=g) (n:=h) (k:=k) (x:=x) (y:=y) (c:=c) (by have a1:=Vf (m:=c.m) (by assumption);have a2:=Rs (m:=c.m) (by assumption);omega)
     have he0:=show PC h k x y c.nx c.ny=0 from (by first|assumption|(apply Decidable.byContradiction;assumption))
     refine KL (KN (LW (U2 h k x y (c.nx) (c.ny))) rr (Me KW rfl av ff rr) (Lu KW rfl rfl rfl aa rfl bO fun gc fp fq=>?_))
     refine Lb (iv 0) LE (KQ ?_)
     have ft:=K4 (iv 0)
     refine KK (Le (Ot (Lx (PL ?_))))
     exact Mo ae rfl (MH KW rfl aa fp) (LF (v:=iv 0) rfl ft) ⟨(by first|rw[hR.1,hR.2,he0]|rw[hR.1,hR.2]),(bP.trans fq (KS.ok (S:=fun _=>False) ac KZ))⟩
   ·skip
    refine Lf (KK (KM (Lm (KM (KL (KN (.bool false) rr (KT rfl (Eq.trans af (congrArg Value.bool ah)) rr) (KN (.bool false) rr (KT rfl rfl rr) (Lq 1 true 59 Li (KN (.bool false) rr (Lt rfl rfl rfl rr) (Lb (.bool false) LE (KQ ?_)))))))))))
    have fu:=K4 (.bool false)
    refine KK ?_
    refine K5 (t:=false) fu (fun e=>by cases e) (fun _=>?_)
    refine KM (KL (KN (.bool false) rr (KT rfl (Eq.trans af (congrArg Value.bool ah)) rr) (Lb (.bool false) LE (KQ ?_))))
    have fw:=K4 (.bool false)
    refine KK ?_
    refine K5 (t:=false) fw (fun e=>by cases e) (fun _=>?_)
    refine KM (KL (KN (.bool false) rr (KT rfl (Eq.trans ak (congrArg Value.bool aK)) rr) (Lb (.bool false) LE (KQ ?_))))
    have fx:=K4 (.bool false)
    refine KK ?_
    refine K5 (t:=false) fx (fun e=>by cases e) (fun _=>?_)
    refine Lf (Lz (KK (KM (KM ?_))))
    have hR:=aB9 (f:=f) (p:=g) (n:=h) (k:=k) (x:=x) (y:=y) (c:=c) (by have a1:=Vf (m:=c.m) (by assumption);have a2:=aCc (m:=c.m) (by assumption);omega)
    refine KL (KN (.agg #[iv (f.W),iv (f.H),f0,f1,f2]) rr (KX La rfl de ei rr) (K2 Lw aq (K2 Lw ar (K2 Lw au (KN (pt ab 0) rr (KU (n:=1) rfl aj Tryz.underlying71 rfl (by kernel_rfl) (by decide) rfl rr) (KN (iv (c.m)) rr (KY rfl rfl Tryz.underlying3 aw rfl rfl rr) (L9 rfl rfl rfl rfl rfl (fun _ _=>by kernel_rfl) (Lo rfl (Lo rfl (Lo rfl (Lo rfl (Lo rfl L5))))) (azr k x y (c.m) f f0 f1 f2 T_f0 T_f1 T_f2 _  dZ d8 d9 ) fun gd bR=>?_)))))))
    have fy:=aE.all bR id
    refine KN (LW (Wc f k x y (c.m))) rr (LY rfl rfl rfl rr) (KN (iv (Sr f k x y (c.m))) rr (LY rfl rfl rfl rr) (Lu KW rfl rfl rfl aa rfl fy fun ge fA fB=>?_))
    refine Lb (iv (Sr f k x y (c.m))) LE (KQ ?_)
    have fC:=K4 (iv (Sr f k x y (c.m)))
    refine KK (Le (Lx (PL ?_)))
    exact Mo ae rfl (MH KW rfl aa fA) (LF (v:=iv (Sr f k x y (c.m))) rfl fC) ⟨(by first|rw[hR.1,hR.2,he0]|rw[hR.1,hR.2]),((aF.tr bR).trans fB (KS.ok (S:=fun _=>False) ac KZ))⟩
 ·skip
  refine KL (KN (pt ab 0) rr (KU (n:=1) rfl aj Tryz.underlying71 rfl (by kernel_rfl) (by decide) rfl rr) (KN (iv (c.m)) rr (KY rfl rfl Tryz.underlying3 aB rfl rfl rr) (LH (R:=fun v_ w_=>v_ = .bool false/\KR (fun _=>False) bm w_) rfl rfl (LQ rfl rfl rfl (fun _ _=>by kernel_rfl) (K6 _) (Lo rfl L5) (QV (c.m)  _   ) (fun e_ w_ h_=>⟨_,h_.1,(congrArg Value.bool (decide_eq_false bv)),h_.2⟩)) ?_)))
  rintro _ gh ⟨rfl,bS⟩
  have fD:=bt.all bS id
  refine KN (.bool true) rr (Mq rfl rfl rfl rr) (KQ ?_)
  have fE:=K4 (.bool true)
  refine KK ?_
  refine K5 (t:=true) fE (fun _=>?_) (fun e=>by cases e)
  refine N0 (MB ?_)
  refine Na ⟨_,rfl,?_⟩
  refine KM (Lf (KK (KM ?_)))
  first|have hR:=X7 (f:=f) (p:=g) (n:=h) (k:=k) (x:=x) (y:=y) (c:=c) (by omega)|have hR:=Ux (f:=f) (p:=g) (n:=h) (k:=k) (x:=x) (y:=y) (c:=c) (Rv (by assumption)) (by assumption)|have hR:=UK (f:=f) (p:=g) (n:=h) (k:=k) (x:=x) (y:=y) (c:=c) (by have a1:=Vf (m:=c.m) (by assumption);have a2:=Rs (m:=c.m) (by assumption);omega) (by assumption)|have hR:=Uf (f:=f) (p:=g) (n:=h) (k:=k) (x:=x) (y:=y) (c:=c) (by have a1:=Rv (m:=c.m) (by assumption);have a2:=Rs (m:=c.m) (by assumption);omega) (by first|assumption|(apply Decidable.byContradiction;assumption)) (by assumption)
  refine KL (KN (LW (fun _=>0)) rr (MQ (cells:=(Mp 16 (fun _=>0)).toArray) rfl (by kernel_rfl) rfl rr) (K2 Lw dY (Lu KW rfl rfl rfl aa rfl fD fun gi fF fG=>?_)))
  refine Lb (iv 120) LE (KQ ?_)
  have fH:=K4 (iv 120)
  refine KK (Le (Nu ?_))
  exact Mo ae rfl (MH KW rfl aa fF) (LF (v:=iv 120) rfl fH) ⟨(by first|rw[hR.1,hR.2,he0]|rw[hR.1,hR.2]),((bu.tr bS).trans fG (KS.ok (S:=fun _=>False) ac KZ))⟩
theorem aB2(l:List Nat)(n:Int)(s:Option Nat):0<=(Ls (LD l n) s).1:=by
 cases s with
 | none=>simp[Ls]
 | some a =>
  cases h:MM l a with
  | none=>simp[Ls,LD,h]
  | some p =>
   obtain⟨v,a'⟩:=p
   have hb:=RQ l a v a' h
   by_cases hv:n<v
   ·simp[Ls,LD,h,hv]
   ·simp[Ls,LD,h,hv];exact hb.1
theorem QI{l:List Nat}{k ax ay bx yy m:Int}{st s1:Option Nat}(hm:m=(Ls (LD l 6) st).1)(hs:s1=(Ls (LD l 6) st).2)(h:s1.isNone=true\/¬ (0<=m/\m<=N3 k)):∃ s,Sz l k ax ay bx yy st=(ch0,120,s):=by
 have h0:=aB2 l 6 st
 have e:=Vm (l:=l) (Uw k) st
 rw[if_pos (by rw[← hm,← hs];rw[← hm] at h0;rcases h with h|h;exact .inl h;exact .inr (by omega))] at e
 exact⟨none,by unfold Sz;rw[e];unfold rd1;exact if_pos rfl⟩
theorem aEk{l:List Nat}{k ax ay bx yy m:Int}{st s1:Option Nat}(hm:m=(Ls (LD l 6) st).1)(hs:s1=(Ls (LD l 6) st).2)(h1:s1.isNone=false)(h2:0<=m/\m<=N3 k):Sz l k ax ay bx yy st=YT l m bx yy (stV (NM m) l ax ay s1):=by
 have e:=Vm (l:=l) (Uw k) st
 rw[if_neg (by rw[← hm,← hs,h1];rintro (h|h);cases h;omega)] at e
 unfold Sz;rw[e];unfold rd1
 rw[if_neg (by rw[← hs,h1];exact Bool.false_ne_true),← hm,← hs]
theorem aEg(p:Nat)(l:List Nat)(st:Option Nat)(k ax ay bx yy:Int)(T_r:Nat->Prop)(w0:World)(hA:Og w0)(hO:OX w0)(hG:∀ i,T_r i->5<=i)(h_r:P2 w0 T_r p (l) (st)) :
  Calls Tryz.prog 62 #[.pointer (some ⟨p,0,none⟩),.int .i64 (k),.agg #[.int .i64 (ax),.int .i64 (ay)],.agg #[.int .i64 (bx),.int .i64 (yy)]] w0 fun e w'=>∃ (T_r':Nat->Prop),e = .returned (.tuple #[.agg (PN ((Sz l k ax ay bx yy st).1)).toArray,.int .i64 ((Sz l k ax ay bx yy st).2.1)])/\KR (T_r) w0 w'/\(P2 w' T_r' p (l) (Nq l k ax ay bx yy st)/\KS w0 T_r T_r'):=by
 refine Ly (args:=[pt p 0,iv k,.agg #[iv ax,iv ay],.agg #[iv bx,iv yy]]) 68 Tryz.func62 rfl rfl (Nat.le_of_ble_eq_true rfl) ?_
 obtain⟨m,hm⟩:∃ m,m=(Ls (LD l 6) st).1:=⟨_,rfl⟩
 obtain⟨s1,hs1⟩:∃ s,s=(Ls (LD l 6) st).2:=⟨_,rfl⟩
 have g_r:=KS.refl w0 T_r
 refine KM (KL (LJ (vs:=[iv ax,iv ay]) rfl rfl rfl rfl fun p1 w2 B4 g5 k3=>?_))
 have cy:=KO.new g5 h_r.live
 have B8:=h_r.all k3 KO.none
 refine LJ (vs:=[iv bx,iv yy]) rfl rfl rfl rfl fun ar kS fi fj cA=>?_
 have cB:=KO.new fj B8.live
 obtain⟨cC,fk⟩:=Oe cA B8 B4
 have cD:=((KR.refl T_r w0).tr k3).tr cA
 refine LN (n:=21) (vs:=(OP 0 0 0 0 0 (fun _=>(0:Int)))) rfl rfl rfl (by kernel_rfl) fun ac kT cE cF cG=>?_
 have an:=KS.new cD cF
 have cH:=KO.new cF cC.live
 obtain⟨fm,cI,cJ⟩:=Od cG cC fk fi
 have cK:=cD.tr cG
 refine Lb (iv 0) LE (KQ ?_)
 have aE:=K4 (pt p 0)
 have cL:=K4 (iv k)
 have ao:=K4 (undef)
 have fo:=K4 (pt p1 0)
 have cM:=K4 (pt ar 0)
 have af:=K4 (pt ac 0)
 refine KK (WK (KM (KM (KL (K2 Lw aE (KN (.bool false) rr (R0 rfl rfl rfl Tryz.underlying54 rr) (KQ ?_)))))))
 have fp:=K4 (.bool false)
 refine KK ?_
 refine K5 (t:=false) fp (fun e=>by cases e) (fun _=>?_)
 refine Lf (KK (KM ?_))
 obtain⟨g,a,b,hf,hT,hok,hp,hg,hap⟩:=aB0 fm
 have fq:KS w0 T_r (Lh p):=fun i h=>g_r i ((fun i h=>(hT i).2 (Or.inl h)) i h)
 have ft:KO (Lh p) (Lh p1):=fun i h=>cy.symm i ((fun i h=>(hT i).2 (Or.inl h)) i h)
 have fu:KO (Lh p) (Lh ar):=fun i h=>cB.symm i ((fun i h=>(hT i).2 (Or.inl h)) i h)
 have fw:KO (Lh p) (Lh ac):=fun i h=>cH.symm i ((fun i h=>(hT i).2 (Or.inl h)) i h)
 have fx:KS w0 T_r (Lh g):=fun i h=>g_r i ((fun i h=>(hT i).2 (Or.inr h)) i h)
 have fy:KO (Lh g) (Lh p1):=fun i h=>cy.symm i ((fun i h=>(hT i).2 (Or.inr h)) i h)
 have fA:KO (Lh g) (Lh ar):=fun i h=>cB.symm i ((fun i h=>(hT i).2 (Or.inr h)) i h)
 have fB:KO (Lh g) (Lh ac):=fun i h=>cH.symm i ((fun i h=>(hT i).2 (Or.inr h)) i h)
 have fC:KO (Lh p) (Lh g):=hap
 refine KL (K2 Lw aE (KN (pt p 0) rr (OW rfl rfl rr) (KN (.agg #[.slice (some ⟨g,0,none⟩) l.length l.length,iv ((a:Nat):Int),.bool b]) rr (KX M7 rfl rfl hp rr) (LN (n:=3) (vs:=[.slice none 0 0,iv ((0:Nat):Int),.bool false]) rfl rfl rfl (by kernel_rfl) fun ae kU fD cN cO=>?_))))
 have cP:=KS.new cK cN
 obtain⟨cQ,cR,cS,cT,cU⟩:=azg cN cI cJ cE hp hg
 obtain⟨fE,fF,fG,fH,fI⟩:=O6 cO cI cJ cE hp hg
 refine Ll (us:=[.slice (some ⟨g,0,none⟩) l.length l.length,iv ((a:Nat):Int),.bool b]) M7 rfl rfl rfl rfl rfl fD rfl (Qc rr (L4 rfl MX)) fun bA fJ aF=>?_
 have fK:=fE.all aF (cQ.symm p1 rfl)
 have cV:=fF.all aF (cR.symm ar rfl)
 have cW:=fG.all aF (cS.symm ac rfl)
 have fL:=fH.all aF (cT.symm p rfl)
 have fM:=fI.all aF cU.symm
 have cX:=(cK.tr cO).trans aF (KS.ok (S:=T_r) cP KZ)
 refine KQ ?_
 have ak:=K4 (pt ae 0)
 refine KK (KM ?_)
 have fN:Qq bA (fun i=>(Lh p) i\/((Lh ae) i\/((Lh g) i))) ae l st ([(p,st)]):=aBg hf hok fL fJ fM cT.symm fC cU
 have cY:KS w0 T_r (fun i=>(Lh p) i\/((Lh ae) i\/((Lh g) i))):=fun i h=>h.elim (fun y=>fq i y) (fun y=>y.elim (fun y=>(KS.weak cP (fun _ z=>z.elim)) i y) (fun y=>fx i y))
 have fO:KO (fun i=>(Lh p) i\/((Lh ae) i\/((Lh g) i))) (Lh p1):=fun i h=>h.elim (fun y=>ft i y) (fun y=>y.elim (fun y=>cQ i y) (fun y=>fy i y))
 have cZ:KO (fun i=>(Lh p) i\/((Lh ae) i\/((Lh g) i))) (Lh ar):=fun i h=>h.elim (fun y=>fu i y) (fun y=>y.elim (fun y=>cR i y) (fun y=>fA i y))
 have c5:KO (fun i=>(Lh p) i\/((Lh ae) i\/((Lh g) i))) (Lh ac):=fun i h=>h.elim (fun y=>fw i y) (fun y=>y.elim (fun y=>cS i y) (fun y=>fB i y))
 refine KL (LH (R:=fun v_ w_=>∃ (aj:Nat->Prop),iv m=v_/\KR (fun i=>(Lh p) i\/((Lh ae) i\/((Lh g) i))) bA w_/\(Qq w_ aj ae l ((Ls (LD l 6) st).2) ([(p,st)])/\KS bA (fun i=>(Lh p) i\/((Lh ae) i\/((Lh g) i))) aj)) rfl rfl (LQ rfl rfl rfl (fun _ _=>by kernel_rfl) (K6 _) (Lo ak (Lo rfl L5)) (UX ae l st ([(p,st)]) 6 (fun i=>(Lh p) i\/((Lh ae) i\/((Lh g) i))) _  fN ) (fun e_ w_ h_=>by obtain⟨T112_,he_,hr_⟩:=h_;exact⟨_,he_,T112_,(congrArg (Value.int .i64) hm.symm).symm,hr_⟩)) ?_)
 rintro _ kV ⟨aj,rfl,a8,⟨c6,c7⟩⟩
 have c9:=fK.all a8 (fO.symm p1 rfl)
 have da:=cV.all a8 (cZ.symm ar rfl)
 have db:=cW.all a8 (c5.symm ac rfl)
 have dc:=cX.trans a8 (fun i hi x=>((KS.ok (S:=T_r) cY (fun _ x=>x)) i hi x))
 have ap:=cY.trans cX c7
 obtain⟨fP,aq⟩:=WX c7 cZ cV c5 cW
 refine KN (.agg (OP m 0 0 0 0 (fun _=>(0:Int))).toArray) rr (Ma (l':=[(0,iv m)]) (cells:=(OP m 0 0 0 0 (fun _=>(0:Int))).toArray) rfl (RW rfl Rj) (by kernel_rfl) rfl rr) (LN (n:=21) (vs:=(OP 0 0 0 0 0 (fun _=>(0:Int)))) rfl rfl rfl (by kernel_rfl) fun ah kW fQ dd de=>?_)
 have av:=KS.new dc dd
 obtain⟨fR,df,aw,aB⟩:=WI dd c9 da db c6
 obtain⟨fS,fT,fU,fV⟩:=Pg de c9 da db c6
 refine Ll (us:=(OP m 0 0 0 0 (fun _=>(0:Int)))) LM rfl rfl rfl rfl rfl fQ rfl (MS Li (MS Li (MS Li (MS Li (L4 rfl MX))))) fun fW dg aO=>?_
 have fX:=fS.all aO (fR.symm p1 rfl)
 have fY:=fT.all aO (df.symm ar rfl)
 have fZ:=fU.all aO (aw.symm ac rfl)
 have f5:=fV.all aO aB.symm
 have dh:=(dc.tr de).trans aO (KS.ok (S:=T_r) av KZ)
 refine KQ ?_
 have am:=K4 (pt ah 0)
 refine KK (KM ?_)
 have f7:Qq fW aj ae l s1 ([(p,st)]):=(by rw[hs1];exact f5)
 refine KL (KN (pt ah 0) rr (KU (n:=1) rfl am Tryz.underlying71 rfl (by kernel_rfl) (by decide) rfl rr) (KN (iv m) rr (KY rfl rfl Tryz.underlying3 dg rfl rfl rr) (L9 rfl rfl rfl rfl rfl (fun _ _=>by kernel_rfl) (Lo rfl L5) (WP m  _ (hA.but dh hG)  ) fun bB di=>?_)))
 obtain⟨f8,f9,bC,aG,dj⟩:=O6 di fX fY fZ f7 dg
 have bD:=dh.tr di
 refine KN (.tuple #[.bool (NM m),.bool (Nv m)]) rr (KT rfl rfl rr) (KN (.bool (NM m)) rr (LY rfl rfl rfl rr) (KN (.bool (Nv m)) rr (LY rfl rfl rfl rr) (Lb (.bool (NM m)) LE (Lb (.bool (Nv m)) LE (KQ ?_)))))
 have ga:=K4 (.bool (NM m))
 have dk:=K4 (.bool (Nv m))
 refine KK (KM (KL (Lb (iv 120) LE (KQ ?_))))
 have dl:=K4 (iv 120)
 refine KK (KM (KM ?_))
 rcases Bool.eq_false_or_eq_true (s1.isNone) with a9|a9
 ·skip
  refine KL (LH (R:=fun v_ w_=>v_ = .bool true/\KR (fun _=>False) bB w_) rfl rfl (LQ rfl rfl rfl (fun _ _=>by kernel_rfl) (K6 _) (Lo ak L5) (Sg ae l s1 ([(p,st)]) aj _  aG ) (fun e_ w_ h_=>⟨_,h_.1,(congrArg Value.bool a9),h_.2⟩)) ?_)
  rintro _ kX ⟨rfl,dm⟩
  obtain⟨gb,gc⟩:=Oe dm bC aG
  refine KN (.bool true) rr (KT rfl rfl rr) (Lq 1 false 30 Li (Lq 1 false 30 Li (Lq 1 false 30 Li (Lq 1 false 30 Li (Lq 1 false 30 Li (KN (.bool true) rr (LB rfl rfl rfl rr) (KQ ?_)))))))
  have gd:=K4 (.bool true)
  refine KK ?_
  refine K5 (t:=true) gd (fun _=>?_) (fun e=>by cases e)
  refine N0 (MB ?_)
  refine Na ⟨_,rfl,?_⟩
  refine KM (Lf (KK (KM ?_)))
  first|have hR:=h1.trans (by unfold YT;exact if_neg (by assumption))|have hR:=h1.trans (by unfold VV;exact if_neg (by assumption))|have hR:=h1.trans (by unfold rd4;exact if_neg (by assumption))|(have hRR:=QI (l:=l) (k:=k) (ax:=ax) (ay:=ay) (bx:=bx) (yy:=yy) hm hs1 (by first|exact Or.inl (by assumption)|exact Or.inr (by assumption));obtain⟨s9,hR⟩:=hRR)
  have hT0:Nq l k ax ay bx yy st=st:=by unfold Nq;rw[hR];exact if_neg (by first|assumption|(intro z;exact absurd (show (120:Int)=0 from z) (by decide)))
  obtain⟨g2,a1,b1,a2,b2,hf2,hT2,ho1,ho2,ai,hq2,hg2,ap1_,ap2_,ap3_⟩:=On gc
  have ge:KS w0 T_r (Lh p):=fun i h=>ap i ((fun i h=>(hT2 i).2 (Or.inl h)) i h)
  have gh:KO (Lh p) (Lh ac):=fun i h=>aq i ((fun i h=>(hT2 i).2 (Or.inl h)) i h)
  have gi:KS w0 T_r (Lh g2):=fun i h=>ap i ((fun i h=>(hT2 i).2 (Or.inr (Or.inr h))) i h)
  have gj:KO (Lh g2) (Lh ac):=fun i h=>aq i ((fun i h=>(hT2 i).2 (Or.inr (Or.inr h))) i h)
  have dn:KO (Lh p) (Lh g2):=ap2_
  refine KL (KN (.agg (OP 0 0 0 0 0 (fun _=>(0:Int))).toArray) rr (Ma (l':=[]) (cells:=(OP 0 0 0 0 0 (fun _=>(0:Int))).toArray) rfl Rj (by kernel_rfl) rfl rr) (K2 Lw dl (Ll (us:=(OP 0 0 0 0 0 (fun _=>(0:Int)))) LM rfl rfl rfl af rfl gb rfl (MS Li (MS Li (MS Li (MS Li (L4 rfl MX))))) fun gl gm bE=>?_)))
  have dp:=ai.all bE (gh p rfl)
  have dq:=hg2.all bE gj
  refine Lb (iv 120) LE (KQ ?_)
  have gn:=K4 (iv 120)
  refine KK (Le (Nu ?_))
  have go:P2 gl (fun i=>(Lh p) i\/((Lh g2) i)) p l (Nq l k ax ay bx yy st):=(by rw[hT0];first|exact ME hf2 ho1 dp dq dn|exact ME hf2 ho2 dp dq dn)
  have gp:KS w0 T_r (fun i=>(Lh p) i\/((Lh g2) i)):=fun i h=>h.elim (fun y=>ge i y) (fun y=>gi i y)
  exact Mo ao rfl (M6 (vs:=(OP 0 0 0 0 0 (fun _=>(0:Int)))) LM rfl af gm) (LF (v:=iv 120) rfl gn) ⟨(fun i=>(Lh p) i\/((Lh g2) i)),(by rw[hR] <;> rfl),((bD.tr dm).trans bE (KS.ok (S:=T_r) an KZ)),⟨go,gp⟩⟩
 ·skip
  by_cases dr:0<=m/\m<=N3 k
  ·skip
   refine KL (LH (R:=fun v_ w_=>v_ = .bool false/\KR (fun _=>False) bB w_) rfl rfl (LQ rfl rfl rfl (fun _ _=>by kernel_rfl) (K6 _) (Lo ak L5) (Sg ae l s1 ([(p,st)]) aj _  aG ) (fun e_ w_ h_=>⟨_,h_.1,(congrArg Value.bool a9),h_.2⟩)) ?_)
   rintro _ gq ⟨rfl,dt⟩
   obtain⟨gr,gt,gu,gv,du⟩:=O6 dt f8 f9 bC aG dj
   have dv:=bD.tr dt
   refine KN (.bool false) rr (KT rfl rfl rr) (Lj (iv k) 1 false 30 Li (KT rfl cL rr) (Lj (pt ah 0) 1 false 30 Li (KU (n:=1) rfl am Tryz.underlying71 rfl (by kernel_rfl) (by decide) rfl rr) (Lj (iv m) 1 false 30 Li (KY rfl rfl Tryz.underlying3 du rfl rfl rr) (LZ (R:=fun v_ w_=>v_ = .bool true/\KR (fun _=>False) gq w_) 1 false 30 rfl rfl rfl rfl rfl (LQ rfl rfl rfl (fun _ _=>by kernel_rfl) (K6 _) (Lo rfl (Lo rfl L5)) (aBQ k m  _ (hA.but dv hG)  ) (fun e_ w_ h_=>⟨_,h_.1,(congrArg Value.bool (decide_eq_true dr)),h_.2⟩)) ?_))))
   rintro _ aH ⟨rfl,dw⟩
   obtain⟨gw,dy,aI,bF,aJ⟩:=O6 dw gr gt gu gv du
   have aC:=dv.tr dw
   refine Lj (.bool false) 1 false 30 Li (Mq rfl rfl rfl rr) (KN (.bool false) rr (Lt rfl rfl rfl rr) (KQ ?_))
   have gz:=K4 (.bool false)
   refine KK ?_
   refine K5 (t:=false) gz (fun e=>by cases e) (fun _=>?_)
   refine Lf (KK (KM (KM ?_)))
   have h1:=aEk (l:=l) (k:=k) (ax:=ax) (ay:=ay) (bx:=bx) (yy:=yy) hm hs1 (by assumption) (by assumption)
   refine KL (K2 Lw ga (KQ ?_))
   have gA:=K4 (.bool (NM m))
   refine KK ?_
   refine K5 gA (fun gB=>?_) (fun gB=>?_)
   ·skip
    refine KM ?_
    rw[Um (has:=NM m) (by assumption)] at h1
    refine KL (KN (.agg #[iv ax,iv ay]) rr (KX L0 rfl fo gw rr) (LH (R:=fun v_ w_=>∃ (au:Nat->Prop),.tuple #[.agg #[iv (Se l ax ay s1),iv (R2 l ax ay s1)],iv (QN l ax ay s1)]=v_/\KR aj aH w_/\(Qq w_ au ae l (Nc l ax ay s1) ([(p,st)])/\KS aH aj au)) rfl rfl (LQ rfl rfl rfl (fun _ _=>by kernel_rfl) (K6 _) (Lo ak (Lo rfl L5)) (Wx ae l s1 ([(p,st)]) ax ay aj _  bF ) (fun e_ w_ h_=>by obtain⟨T325_,he_,hr_⟩:=h_;exact⟨_,he_,T325_,rfl,hr_⟩)) ?_))
    rintro _ kY ⟨au,rfl,ba,⟨gC,dz⟩⟩
    have gD:=dy.all ba (fP.symm ar rfl)
    have gE:=aI.all ba (aq.symm ac rfl)
    have gF:=aJ.all ba (aB ah rfl)
    have aD:=ap.trans aC dz
    obtain⟨aK,aP⟩:=WX dz aq aI (aB.symm) aJ
    refine KN (.tuple #[.agg #[iv (Se l ax ay s1),iv (R2 l ax ay s1)],iv (QN l ax ay s1)]) rr (KT rfl rfl rr) (KN (.agg #[iv (Se l ax ay s1),iv (R2 l ax ay s1)]) rr (LY rfl rfl rfl rr) (KN (iv (QN l ax ay s1)) rr (LY rfl rfl rfl rr) (KN (pt ah 1) rr (KU (n:=2) rfl am Tryz.underlying71 rfl (by kernel_rfl) (by decide) rfl rr) (Pp (us:=[iv (Se l ax ay s1),iv (R2 l ax ay s1)]) (ns:=(OP m (Se l ax ay s1) (R2 l ax ay s1) 0 0 (fun _=>(0:Int)))) L0 rfl rfl rfl rfl rfl gF (Nat.le_of_ble_eq_true rfl) (L4 rfl (L4 rfl MX)) rfl fun bb bc bd=>?_))))
    have gG:=gD.all bd (df.symm ar rfl)
    have aQ:=gE.all bd (aw.symm ac rfl)
    have bG:=gC.all bd aP
    have aL:=(aC.trans ba (fun i hi x=>((KS.ok (S:=T_r) ap (fun _ x=>x)) i hi x))).trans bd (KS.ok (S:=T_r) av KZ)
    refine Lb (iv (QN l ax ay s1)) LE (KQ ?_)
    have dA:=K4 (iv (QN l ax ay s1))
    refine KK (KM (KL (K2 Lw dA (KN (.bool (decide ((QN l ax ay s1)≠0))) rr (Mw rfl rfl rfl rfl rr) (KQ ?_)))))
    have gH:=K4 (.bool (decide ((QN l ax ay s1)≠0)))
    refine KK ?_
    refine K5 gH (fun aR=>?_) (fun aR=>?_)
    ·replace aR:=of_decide_eq_true aR
     refine N0 (MB ?_)
     refine Na ⟨_,rfl,?_⟩
     refine KM (Lf (KK (KM ?_)))
     first|have hR:=h1.trans (by unfold YT;exact if_neg (by assumption))|have hR:=h1.trans (by unfold VV;exact if_neg (by assumption))|have hR:=h1.trans (by unfold rd4;exact if_neg (by assumption))|(have hRR:=QI (l:=l) (k:=k) (ax:=ax) (ay:=ay) (bx:=bx) (yy:=yy) hm hs1 (by first|exact Or.inl (by assumption)|exact Or.inr (by assumption));obtain⟨s9,hR⟩:=hRR)
     have hT0:Nq l k ax ay bx yy st=st:=by unfold Nq;rw[hR];exact if_neg (by first|assumption|(intro z;exact absurd (show (120:Int)=0 from z) (by decide)))
     obtain⟨g2,a1,b1,a2,b2,hf2,hT2,ho1,ho2,ai,hq2,hg2,ap1_,ap2_,ap3_⟩:=On bG
     have gI:KS w0 T_r (Lh p):=fun i h=>aD i ((fun i h=>(hT2 i).2 (Or.inl h)) i h)
     have gJ:KO (Lh p) (Lh ac):=fun i h=>aK i ((fun i h=>(hT2 i).2 (Or.inl h)) i h)
     have gK:KS w0 T_r (Lh g2):=fun i h=>aD i ((fun i h=>(hT2 i).2 (Or.inr (Or.inr h))) i h)
     have gL:KO (Lh g2) (Lh ac):=fun i h=>aK i ((fun i h=>(hT2 i).2 (Or.inr (Or.inr h))) i h)
     have dB:KO (Lh p) (Lh g2):=ap2_
     refine KL (KN (.agg (OP 0 0 0 0 0 (fun _=>(0:Int))).toArray) rr (Ma (l':=[]) (cells:=(OP 0 0 0 0 0 (fun _=>(0:Int))).toArray) rfl Rj (by kernel_rfl) rfl rr) (K2 Lw dA (Ll (us:=(OP 0 0 0 0 0 (fun _=>(0:Int)))) LM rfl rfl rfl af rfl aQ rfl (MS Li (MS Li (MS Li (MS Li (L4 rfl MX))))) fun gM gN bH=>?_)))
     have dC:=ai.all bH (gJ p rfl)
     have dD:=hg2.all bH gL
     refine Lb (iv (QN l ax ay s1)) LE (KQ ?_)
     have gO:=K4 (iv (QN l ax ay s1))
     refine KK (Le (Nu ?_))
     have gP:P2 gM (fun i=>(Lh p) i\/((Lh g2) i)) p l (Nq l k ax ay bx yy st):=(by rw[hT0];first|exact ME hf2 ho1 dC dD dB|exact ME hf2 ho2 dC dD dB)
     have gQ:KS w0 T_r (fun i=>(Lh p) i\/((Lh g2) i)):=fun i h=>h.elim (fun y=>gI i y) (fun y=>gK i y)
     exact Mo ao rfl (M6 (vs:=(OP 0 0 0 0 0 (fun _=>(0:Int)))) LM rfl af gN) (LF (v:=iv (QN l ax ay s1)) rfl gO) ⟨(fun i=>(Lh p) i\/((Lh g2) i)),(by rw[hR] <;> rfl),(aL.trans bH (KS.ok (S:=T_r) an KZ)),⟨gP,gQ⟩⟩
    ·replace aR:=of_decide_eq_false aR
     refine Lf (KK (KM (KM ?_)))
     first|(rw[S3 (has:=NM m) (by assumption)] at h1;replace h1:=h1.trans (by unfold YT;exact if_pos rfl);(try dsimp only at h1))|(have hv1:QN l ax ay s1=0:=(by first|assumption|(apply Decidable.byContradiction;assumption));replace h1:=h1.trans (by unfold YT;exact if_pos hv1);(try dsimp only at h1);rw[← Rw hv1] at h1)
     refine KL (K2 Lw dk (KQ ?_))
     have gR:=K4 (.bool (Nv m))
     refine KK ?_
     refine K5 gR (fun gS=>?_) (fun gS=>?_)
     ·skip
      refine KM ?_
      rw[Um (has:=Nv m) (by assumption)] at h1
      refine KL (KN (.agg #[iv bx,iv yy]) rr (KX L0 rfl cM gG rr) (LH (R:=fun v_ w_=>∃ (aM:Nat->Prop),.tuple #[.agg #[iv (Se l bx yy (Nc l ax ay s1)),iv (R2 l bx yy (Nc l ax ay s1))],iv (QN l bx yy (Nc l ax ay s1))]=v_/\KR au bb w_/\(Qq w_ aM ae l (Nc l bx yy (Nc l ax ay s1)) ([(p,st)])/\KS bb au aM)) rfl rfl (LQ rfl rfl rfl (fun _ _=>by kernel_rfl) (K6 _) (Lo ak (Lo rfl L5)) (Wx ae l (Nc l ax ay s1) ([(p,st)]) bx yy au _  bG ) (fun e_ w_ h_=>by obtain⟨T449_,he_,hr_⟩:=h_;exact⟨_,he_,T449_,rfl,hr_⟩)) ?_))
      rintro _ kZ ⟨aM,rfl,bI,⟨gT,dE⟩⟩
      have gU:=aQ.all bI (aK.symm ac rfl)
      have gV:=bc.all bI (aP.symm ah rfl)
      have aS:=aD.trans aL dE
      obtain⟨be,bJ⟩:=WX dE aK aQ aP bc
      refine KN (.tuple #[.agg #[iv (Se l bx yy (Nc l ax ay s1)),iv (R2 l bx yy (Nc l ax ay s1))],iv (QN l bx yy (Nc l ax ay s1))]) rr (KT rfl rfl rr) (KN (.agg #[iv (Se l bx yy (Nc l ax ay s1)),iv (R2 l bx yy (Nc l ax ay s1))]) rr (LY rfl rfl rfl rr) (KN (iv (QN l bx yy (Nc l ax ay s1))) rr (LY rfl rfl rfl rr) (KN (pt ah 3) rr (KU (n:=2) rfl am Tryz.underlying71 rfl (by kernel_rfl) (by decide) rfl rr) (Pp (us:=[iv (Se l bx yy (Nc l ax ay s1)),iv (R2 l bx yy (Nc l ax ay s1))]) (ns:=(OP m (Se l ax ay s1) (R2 l ax ay s1) (Se l bx yy (Nc l ax ay s1)) (R2 l bx yy (Nc l ax ay s1)) (fun _=>(0:Int)))) L0 rfl rfl rfl rfl rfl gV (Nat.le_of_ble_eq_true rfl) (L4 rfl (L4 rfl MX)) rfl fun dF dG bK=>?_))))
      have bL:=gU.all bK (aw.symm ac rfl)
      have dH:=gT.all bK bJ
      have bf:=(aL.trans bI (fun i hi x=>((KS.ok (S:=T_r) aD (fun _ x=>x)) i hi x))).trans bK (KS.ok (S:=T_r) av KZ)
      refine Lb (iv (QN l bx yy (Nc l ax ay s1))) LE (KQ ?_)
      have dI:=K4 (iv (QN l bx yy (Nc l ax ay s1)))
      refine KK (KM (KL (K2 Lw dI (KN (.bool (decide ((QN l bx yy (Nc l ax ay s1))≠0))) rr (Mw rfl rfl rfl rfl rr) (KQ ?_)))))
      have gW:=K4 (.bool (decide ((QN l bx yy (Nc l ax ay s1))≠0)))
      refine KK ?_
      refine K5 gW (fun aT=>?_) (fun aT=>?_)
      ·replace aT:=of_decide_eq_true aT
       refine N0 (MB ?_)
       refine Na ⟨_,rfl,?_⟩
       refine KM (Lf (KK (KM ?_)))
       first|have hR:=h1.trans (by unfold YT;exact if_neg (by assumption))|have hR:=h1.trans (by unfold VV;exact if_neg (by assumption))|have hR:=h1.trans (by unfold rd4;exact if_neg (by assumption))|(have hRR:=QI (l:=l) (k:=k) (ax:=ax) (ay:=ay) (bx:=bx) (yy:=yy) hm hs1 (by first|exact Or.inl (by assumption)|exact Or.inr (by assumption));obtain⟨s9,hR⟩:=hRR)
       have hT0:Nq l k ax ay bx yy st=st:=by unfold Nq;rw[hR];exact if_neg (by first|assumption|(intro z;exact absurd (show (120:Int)=0 from z) (by decide)))
       obtain⟨g2,a1,b1,a2,b2,hf2,hT2,ho1,ho2,ai,hq2,hg2,ap1_,ap2_,ap3_⟩:=On dH
       have gZ:KS w0 T_r (Lh p):=fun i h=>aS i ((fun i h=>(hT2 i).2 (Or.inl h)) i h)
       have hQ:KO (Lh p) (Lh ac):=fun i h=>be i ((fun i h=>(hT2 i).2 (Or.inl h)) i h)
       have hZ:KS w0 T_r (Lh g2):=fun i h=>aS i ((fun i h=>(hT2 i).2 (Or.inr (Or.inr h))) i h)
       have ia:KO (Lh g2) (Lh ac):=fun i h=>be i ((fun i h=>(hT2 i).2 (Or.inr (Or.inr h))) i h)
       have dJ:KO (Lh p) (Lh g2):=ap2_
       refine KL (KN (.agg (OP 0 0 0 0 0 (fun _=>(0:Int))).toArray) rr (Ma (l':=[]) (cells:=(OP 0 0 0 0 0 (fun _=>(0:Int))).toArray) rfl Rj (by kernel_rfl) rfl rr) (K2 Lw dI (Ll (us:=(OP 0 0 0 0 0 (fun _=>(0:Int)))) LM rfl rfl rfl af rfl bL rfl (MS Li (MS Li (MS Li (MS Li (L4 rfl MX))))) fun ib ie bM=>?_)))
       have dK:=ai.all bM (hQ p rfl)
       have dL:=hg2.all bM ia
       refine Lb (iv (QN l bx yy (Nc l ax ay s1))) LE (KQ ?_)
       have ig:=K4 (iv (QN l bx yy (Nc l ax ay s1)))
       refine KK (Le (Nu ?_))
       have ii:P2 ib (fun i=>(Lh p) i\/((Lh g2) i)) p l (Nq l k ax ay bx yy st):=(by rw[hT0];first|exact ME hf2 ho1 dK dL dJ|exact ME hf2 ho2 dK dL dJ)
       have ij:KS w0 T_r (fun i=>(Lh p) i\/((Lh g2) i)):=fun i h=>h.elim (fun y=>gZ i y) (fun y=>hZ i y)
       exact Mo ao rfl (M6 (vs:=(OP 0 0 0 0 0 (fun _=>(0:Int)))) LM rfl af ie) (LF (v:=iv (QN l bx yy (Nc l ax ay s1))) rfl ig) ⟨(fun i=>(Lh p) i\/((Lh g2) i)),(by rw[hR] <;> rfl),(bf.trans bM (KS.ok (S:=T_r) an KZ)),⟨ii,ij⟩⟩
      ·replace aT:=of_decide_eq_false aT
       refine Lf (KK (KM (KM ?_)))
       first|(rw[S3 (has:=Nv m) (by assumption)] at h1;replace h1:=h1.trans (by unfold VV;exact if_pos rfl);(try dsimp only at h1))|(have hv2:QN l bx yy (Nc l ax ay s1)=0:=(by first|assumption|(apply Decidable.byContradiction;assumption));replace h1:=h1.trans (by unfold VV;exact if_pos hv2);(try dsimp only at h1);rw[← Rw hv2] at h1)|(have hv2:QN l bx yy s1=0:=(by first|assumption|(apply Decidable.byContradiction;assumption));replace h1:=h1.trans (by unfold VV;exact if_pos hv2);(try dsimp only at h1);rw[← Rw hv2] at h1)
       refine KL (LH (R:=fun v_ w_=>∃ (bN:Nat->Prop),.tuple #[LW ((LV l (Nc l bx yy (Nc l ax ay s1))).1),iv ((LV l (Nc l bx yy (Nc l ax ay s1))).2.1)]=v_/\KR aM dF w_/\(Qq w_ bN ae l (YQ l (Nc l bx yy (Nc l ax ay s1))) ([(p,st)])/\KS dF aM bN)) rfl rfl (LQ rfl rfl rfl (fun _ _=>by kernel_rfl) (K6 _) (Lo ak L5) (R7 ae l (Nc l bx yy (Nc l ax ay s1)) ([(p,st)]) aM _ (hO.but bf (ovO hG)) (ovO (VX aS hG hA)) dH ) (fun e_ w_ h_=>by obtain⟨T556_,he_,hr_⟩:=h_;exact⟨_,he_,T556_,rfl,hr_⟩)) ?_)
       rintro _ k8 ⟨bN,rfl,bO,⟨ik,dM⟩⟩
       have io:=bL.all bO (be.symm ac rfl)
       have ip:=dG.all bO (bJ.symm ah rfl)
       have bg:=aS.trans bf dM
       obtain⟨bh,dN⟩:=WX dM be bL bJ dG
       refine KN (.tuple #[LW ((LV l (Nc l bx yy (Nc l ax ay s1))).1),iv ((LV l (Nc l bx yy (Nc l ax ay s1))).2.1)]) rr (KT rfl rfl rr) (KN (LW ((LV l (Nc l bx yy (Nc l ax ay s1))).1)) rr (LY rfl rfl rfl rr) (KN (iv ((LV l (Nc l bx yy (Nc l ax ay s1))).2.1)) rr (LY rfl rfl rfl rr) (KN (pt ah 5) rr (KU (n:=16) rfl am Tryz.underlying71 rfl (by kernel_rfl) (by decide) rfl rr) (Pp (us:=Mp 16 ((LV l (Nc l bx yy (Nc l ax ay s1))).1)) (ns:=(OP m (Se l ax ay s1) (R2 l ax ay s1) (Se l bx yy (Nc l ax ay s1)) (R2 l bx yy (Nc l ax ay s1)) ((LV l (Nc l bx yy (Nc l ax ay s1))).1))) Q3 rfl rfl rfl rfl rfl ip (Nat.le_of_ble_eq_true rfl) (Tb _ _) rfl fun la iq bP=>?_))))
       have dO:=io.all bP (aw.symm ac rfl)
       have dP:=ik.all bP dN
       have dQ:=(bf.trans bO (fun i hi x=>((KS.ok (S:=T_r) aS (fun _ x=>x)) i hi x))).trans bP (KS.ok (S:=T_r) av KZ)
       refine Lb (iv ((LV l (Nc l bx yy (Nc l ax ay s1))).2.1)) LE (KQ ?_)
       have dR:=K4 (iv ((LV l (Nc l bx yy (Nc l ax ay s1))).2.1))
       refine KK (KM (KL (K2 Lw dR (KN (.bool (decide (((LV l (Nc l bx yy (Nc l ax ay s1))).2.1)≠0))) rr (Mw rfl rfl rfl rfl rr) (KQ ?_)))))
       have ir:=K4 (.bool (decide (((LV l (Nc l bx yy (Nc l ax ay s1))).2.1)≠0)))
       refine KK ?_
       refine K5 ir (fun aU=>?_) (fun aU=>?_)
       ·replace aU:=of_decide_eq_true aU
        refine N0 (MB ?_)
        refine Na ⟨_,rfl,?_⟩
        refine KM (Lf (KK (KM ?_)))
        first|have hR:=h1.trans (by unfold YT;exact if_neg (by assumption))|have hR:=h1.trans (by unfold VV;exact if_neg (by assumption))|have hR:=h1.trans (by unfold rd4;exact if_neg (by assumption))|(have hRR:=QI (l:=l) (k:=k) (ax:=ax) (ay:=ay) (bx:=bx) (yy:=yy) hm hs1 (by first|exact Or.inl (by assumption)|exact Or.inr (by assumption));obtain⟨s9,hR⟩:=hRR)
        have hT0:Nq l k ax ay bx yy st=st:=by unfold Nq;rw[hR];exact if_neg (by first|assumption|(intro z;exact absurd (show (120:Int)=0 from z) (by decide)))
        obtain⟨g2,a1,b1,a2,b2,hf2,hT2,ho1,ho2,ai,hq2,hg2,ap1_,ap2_,ap3_⟩:=On dP
        have iu:KS w0 T_r (Lh p):=fun i h=>bg i ((fun i h=>(hT2 i).2 (Or.inl h)) i h)
        have iw:KO (Lh p) (Lh ac):=fun i h=>bh i ((fun i h=>(hT2 i).2 (Or.inl h)) i h)
        have iy:KS w0 T_r (Lh g2):=fun i h=>bg i ((fun i h=>(hT2 i).2 (Or.inr (Or.inr h))) i h)
        have iz:KO (Lh g2) (Lh ac):=fun i h=>bh i ((fun i h=>(hT2 i).2 (Or.inr (Or.inr h))) i h)
        have dS:KO (Lh p) (Lh g2):=ap2_
        refine KL (KN (.agg (OP 0 0 0 0 0 (fun _=>(0:Int))).toArray) rr (Ma (l':=[]) (cells:=(OP 0 0 0 0 0 (fun _=>(0:Int))).toArray) rfl Rj (by kernel_rfl) rfl rr) (K2 Lw dR (Ll (us:=(OP 0 0 0 0 0 (fun _=>(0:Int)))) LM rfl rfl rfl af rfl dO rfl (MS Li (MS Li (MS Li (MS Li (L4 rfl MX))))) fun iA iB bQ=>?_)))
        have dT:=ai.all bQ (iw p rfl)
        have dU:=hg2.all bQ iz
        refine Lb (iv ((LV l (Nc l bx yy (Nc l ax ay s1))).2.1)) LE (KQ ?_)
        have iC:=K4 (iv ((LV l (Nc l bx yy (Nc l ax ay s1))).2.1))
        refine KK (Le (Nu ?_))
        have iD:P2 iA (fun i=>(Lh p) i\/((Lh g2) i)) p l (Nq l k ax ay bx yy st):=(by rw[hT0];first|exact ME hf2 ho1 dT dU dS|exact ME hf2 ho2 dT dU dS)
        have iE:KS w0 T_r (fun i=>(Lh p) i\/((Lh g2) i)):=fun i h=>h.elim (fun y=>iu i y) (fun y=>iy i y)
        exact Mo ao rfl (M6 (vs:=(OP 0 0 0 0 0 (fun _=>(0:Int)))) LM rfl af iB) (LF (v:=iv ((LV l (Nc l bx yy (Nc l ax ay s1))).2.1)) rfl iC) ⟨(fun i=>(Lh p) i\/((Lh g2) i)),(by rw[hR] <;> rfl),(dQ.trans bQ (KS.ok (S:=T_r) an KZ)),⟨iD,iE⟩⟩
       ·replace aU:=of_decide_eq_false aU
        refine Lf (KK (KM ?_))
        have hR:=h1.trans (by unfold rd4;exact if_pos (by first|assumption|(apply Decidable.byContradiction;assumption)))
        have hT0:=(show Nq l k ax ay bx yy st=(Sz l k ax ay bx yy st).2.2 from if_pos (by rw[hR]))
        rw[hR] at hT0
        dsimp only at hT0
        rw[← VQ (by first|assumption|(apply Decidable.byContradiction;assumption))] at hT0
        obtain⟨g2,a1,b1,a2,b2,hf2,hT2,ho1,ho2,ai,hq2,hg2,ap1_,ap2_,ap3_⟩:=On dP
        have dV:KS w0 T_r (Lh p):=fun i h=>bg i ((fun i h=>(hT2 i).2 (Or.inl h)) i h)
        have dW:KO (Lh p) (Lh ac):=fun i h=>bh i ((fun i h=>(hT2 i).2 (Or.inl h)) i h)
        have iF:KO (Lh p) (Lh ah):=fun i h=>dN i ((fun i h=>(hT2 i).2 (Or.inl h)) i h)
        have iG:KS w0 T_r (Lh g2):=fun i h=>bg i ((fun i h=>(hT2 i).2 (Or.inr (Or.inr h))) i h)
        have iH:KO (Lh g2) (Lh ac):=fun i h=>bh i ((fun i h=>(hT2 i).2 (Or.inr (Or.inr h))) i h)
        have bR:KO (Lh p) (Lh g2):=ap2_
        refine KL (K2 Lw aE (KN (.agg #[.slice (some ⟨g2,0,none⟩) l.length l.length,iv ((a2:Nat):Int),.bool b2]) rr (KX M7 rfl ak hq2 rr) (KN (pt p 0) rr (OW rfl rfl rr) (Ll (us:=[.slice (some ⟨g2,0,none⟩) l.length l.length,iv ((a2:Nat):Int),.bool b2]) M7 rfl rfl rfl rfl rfl ai rfl (Qc rr (L4 rfl MX)) fun lc iI bi=>?_))))
        have iJ:=dO.all bi (dW.symm ac rfl)
        have iK:=iq.all bi (iF.symm ah rfl)
        have iL:=hg2.all bi bR.symm
        refine KQ ?_
        refine KK (KM (KM (KL (KN (.agg (OP m (Se l ax ay s1) (R2 l ax ay s1) (Se l bx yy (Nc l ax ay s1)) (R2 l bx yy (Nc l ax ay s1)) ((LV l (Nc l bx yy (Nc l ax ay s1))).1)).toArray) rr (KX LM rfl am iK rr) (Ll (us:=(OP m (Se l ax ay s1) (R2 l ax ay s1) (Se l bx yy (Nc l ax ay s1)) (R2 l bx yy (Nc l ax ay s1)) ((LV l (Nc l bx yy (Nc l ax ay s1))).1))) LM rfl rfl rfl af rfl iJ rfl (MS Li (MS Li (MS Li (MS Li (L4 rfl MX))))) fun iM iN bS=>?_)))))
        have dX:=iI.all bS (dW p rfl)
        have dY:=iL.all bS iH
        refine Lb (iv 0) LE (KQ ?_)
        have iO:=K4 (iv 0)
        refine KK (Le (Lx (PL ?_)))
        have iP:P2 iM (fun i=>(Lh p) i\/((Lh g2) i)) p l (Nq l k ax ay bx yy st):=(by rw[hT0];first|exact ME hf2 ho1 dX dY bR|exact ME hf2 ho2 dX dY bR)
        have iQ:KS w0 T_r (fun i=>(Lh p) i\/((Lh g2) i)):=fun i h=>h.elim (fun y=>dV i y) (fun y=>iG i y)
        exact Mo ao rfl (M6 (vs:=(OP m (Se l ax ay s1) (R2 l ax ay s1) (Se l bx yy (Nc l ax ay s1)) (R2 l bx yy (Nc l ax ay s1)) ((LV l (Nc l bx yy (Nc l ax ay s1))).1))) LM rfl af iN) (LF (v:=iv 0) rfl iO) ⟨(fun i=>(Lh p) i\/((Lh g2) i)),(by rw[hR] <;> rfl),((dQ.trans bi (KS.ok (S:=T_r) dV (fun _ x=>x))).trans bS (KS.ok (S:=T_r) an KZ)),⟨iP,iQ⟩⟩
     ·skip
      refine Lf (KK (KM (KM ?_)))
      first|(rw[S3 (has:=Nv m) (by assumption)] at h1;replace h1:=h1.trans (by unfold VV;exact if_pos rfl);(try dsimp only at h1))|(have hv2:QN l bx yy (Nc l ax ay s1)=0:=(by first|assumption|(apply Decidable.byContradiction;assumption));replace h1:=h1.trans (by unfold VV;exact if_pos hv2);(try dsimp only at h1);rw[← Rw hv2] at h1)|(have hv2:QN l bx yy s1=0:=(by first|assumption|(apply Decidable.byContradiction;assumption));replace h1:=h1.trans (by unfold VV;exact if_pos hv2);(try dsimp only at h1);rw[← Rw hv2] at h1)
      refine KL (LH (R:=fun v_ w_=>∃ (bT:Nat->Prop),.tuple #[LW ((LV l (Nc l ax ay s1)).1),iv ((LV l (Nc l ax ay s1)).2.1)]=v_/\KR au bb w_/\(Qq w_ bT ae l (YQ l (Nc l ax ay s1)) ([(p,st)])/\KS bb au bT)) rfl rfl (LQ rfl rfl rfl (fun _ _=>by kernel_rfl) (K6 _) (Lo ak L5) (R7 ae l (Nc l ax ay s1) ([(p,st)]) au _ (hO.but aL (ovO hG)) (ovO (VX aD hG hA)) bG ) (fun e_ w_ h_=>by obtain⟨T720_,he_,hr_⟩:=h_;exact⟨_,he_,T720_,rfl,hr_⟩)) ?_)
      rintro _ ld ⟨bT,rfl,bU,⟨iR,dZ⟩⟩
      have iS:=aQ.all bU (aK.symm ac rfl)
      have iT:=bc.all bU (aP.symm ah rfl)
      have bj:=aD.trans aL dZ
      obtain⟨bl,d8⟩:=WX dZ aK aQ aP bc
      refine KN (.tuple #[LW ((LV l (Nc l ax ay s1)).1),iv ((LV l (Nc l ax ay s1)).2.1)]) rr (KT rfl rfl rr) (KN (LW ((LV l (Nc l ax ay s1)).1)) rr (LY rfl rfl rfl rr) (KN (iv ((LV l (Nc l ax ay s1)).2.1)) rr (LY rfl rfl rfl rr) (KN (pt ah 5) rr (KU (n:=16) rfl am Tryz.underlying71 rfl (by kernel_rfl) (by decide) rfl rr) (Pp (us:=Mp 16 ((LV l (Nc l ax ay s1)).1)) (ns:=(OP m (Se l ax ay s1) (R2 l ax ay s1) 0 0 ((LV l (Nc l ax ay s1)).1))) Q3 rfl rfl rfl rfl rfl iT (Nat.le_of_ble_eq_true rfl) (Tb _ _) rfl fun le iU bV=>?_))))
      have d9:=iS.all bV (aw.symm ac rfl)
      have eb:=iR.all bV d8
      have ee:=(aL.trans bU (fun i hi x=>((KS.ok (S:=T_r) aD (fun _ x=>x)) i hi x))).trans bV (KS.ok (S:=T_r) av KZ)
      refine Lb (iv ((LV l (Nc l ax ay s1)).2.1)) LE (KQ ?_)
      have eh:=K4 (iv ((LV l (Nc l ax ay s1)).2.1))
      refine KK (KM (KL (K2 Lw eh (KN (.bool (decide (((LV l (Nc l ax ay s1)).2.1)≠0))) rr (Mw rfl rfl rfl rfl rr) (KQ ?_)))))
      have iV:=K4 (.bool (decide (((LV l (Nc l ax ay s1)).2.1)≠0)))
      refine KK ?_
      refine K5 iV (fun aV=>?_) (fun aV=>?_)
      ·replace aV:=of_decide_eq_true aV
       refine N0 (MB ?_)
       refine Na ⟨_,rfl,?_⟩
       refine KM (Lf (KK (KM ?_)))
       first|have hR:=h1.trans (by unfold YT;exact if_neg (by assumption))|have hR:=h1.trans (by unfold VV;exact if_neg (by assumption))|have hR:=h1.trans (by unfold rd4;exact if_neg (by assumption))|(have hRR:=QI (l:=l) (k:=k) (ax:=ax) (ay:=ay) (bx:=bx) (yy:=yy) hm hs1 (by first|exact Or.inl (by assumption)|exact Or.inr (by assumption));obtain⟨s9,hR⟩:=hRR)
       have hT0:Nq l k ax ay bx yy st=st:=by unfold Nq;rw[hR];exact if_neg (by first|assumption|(intro z;exact absurd (show (120:Int)=0 from z) (by decide)))
       obtain⟨g2,a1,b1,a2,b2,hf2,hT2,ho1,ho2,ai,hq2,hg2,ap1_,ap2_,ap3_⟩:=On eb
       have iW:KS w0 T_r (Lh p):=fun i h=>bj i ((fun i h=>(hT2 i).2 (Or.inl h)) i h)
       have iX:KO (Lh p) (Lh ac):=fun i h=>bl i ((fun i h=>(hT2 i).2 (Or.inl h)) i h)
       have iY:KS w0 T_r (Lh g2):=fun i h=>bj i ((fun i h=>(hT2 i).2 (Or.inr (Or.inr h))) i h)
       have iZ:KO (Lh g2) (Lh ac):=fun i h=>bl i ((fun i h=>(hT2 i).2 (Or.inr (Or.inr h))) i h)
       have ei:KO (Lh p) (Lh g2):=ap2_
       refine KL (KN (.agg (OP 0 0 0 0 0 (fun _=>(0:Int))).toArray) rr (Ma (l':=[]) (cells:=(OP 0 0 0 0 0 (fun _=>(0:Int))).toArray) rfl Rj (by kernel_rfl) rfl rr) (K2 Lw eh (Ll (us:=(OP 0 0 0 0 0 (fun _=>(0:Int)))) LM rfl rfl rfl af rfl d9 rfl (MS Li (MS Li (MS Li (MS Li (L4 rfl MX))))) fun ja jb bW=>?_)))
       have en:=ai.all bW (iX p rfl)
       have eo:=hg2.all bW iZ
       refine Lb (iv ((LV l (Nc l ax ay s1)).2.1)) LE (KQ ?_)
       have jc:=K4 (iv ((LV l (Nc l ax ay s1)).2.1))
       refine KK (Le (Nu ?_))
       have jd:P2 ja (fun i=>(Lh p) i\/((Lh g2) i)) p l (Nq l k ax ay bx yy st):=(by rw[hT0];first|exact ME hf2 ho1 en eo ei|exact ME hf2 ho2 en eo ei)
       have je:KS w0 T_r (fun i=>(Lh p) i\/((Lh g2) i)):=fun i h=>h.elim (fun y=>iW i y) (fun y=>iY i y)
       exact Mo ao rfl (M6 (vs:=(OP 0 0 0 0 0 (fun _=>(0:Int)))) LM rfl af jb) (LF (v:=iv ((LV l (Nc l ax ay s1)).2.1)) rfl jc) ⟨(fun i=>(Lh p) i\/((Lh g2) i)),(by rw[hR] <;> rfl),(ee.trans bW (KS.ok (S:=T_r) an KZ)),⟨jd,je⟩⟩
      ·replace aV:=of_decide_eq_false aV
       refine Lf (KK (KM ?_))
       have hR:=h1.trans (by unfold rd4;exact if_pos (by first|assumption|(apply Decidable.byContradiction;assumption)))
       have hT0:=(show Nq l k ax ay bx yy st=(Sz l k ax ay bx yy st).2.2 from if_pos (by rw[hR]))
       rw[hR] at hT0
       dsimp only at hT0
       rw[← VQ (by first|assumption|(apply Decidable.byContradiction;assumption))] at hT0
       obtain⟨g2,a1,b1,a2,b2,hf2,hT2,ho1,ho2,ai,hq2,hg2,ap1_,ap2_,ap3_⟩:=On eb
       have ep:KS w0 T_r (Lh p):=fun i h=>bj i ((fun i h=>(hT2 i).2 (Or.inl h)) i h)
       have er:KO (Lh p) (Lh ac):=fun i h=>bl i ((fun i h=>(hT2 i).2 (Or.inl h)) i h)
       have jf:KO (Lh p) (Lh ah):=fun i h=>d8 i ((fun i h=>(hT2 i).2 (Or.inl h)) i h)
       have jg:KS w0 T_r (Lh g2):=fun i h=>bj i ((fun i h=>(hT2 i).2 (Or.inr (Or.inr h))) i h)
       have jh:KO (Lh g2) (Lh ac):=fun i h=>bl i ((fun i h=>(hT2 i).2 (Or.inr (Or.inr h))) i h)
       have bX:KO (Lh p) (Lh g2):=ap2_
       refine KL (K2 Lw aE (KN (.agg #[.slice (some ⟨g2,0,none⟩) l.length l.length,iv ((a2:Nat):Int),.bool b2]) rr (KX M7 rfl ak hq2 rr) (KN (pt p 0) rr (OW rfl rfl rr) (Ll (us:=[.slice (some ⟨g2,0,none⟩) l.length l.length,iv ((a2:Nat):Int),.bool b2]) M7 rfl rfl rfl rfl rfl ai rfl (Qc rr (L4 rfl MX)) fun lf ji bm=>?_))))
       have jj:=d9.all bm (er.symm ac rfl)
       have jk:=iU.all bm (jf.symm ah rfl)
       have jl:=hg2.all bm bX.symm
       refine KQ ?_
       refine KK (KM (KM (KL (KN (.agg (OP m (Se l ax ay s1) (R2 l ax ay s1) 0 0 ((LV l (Nc l ax ay s1)).1)).toArray) rr (KX LM rfl am jk rr) (Ll (us:=(OP m (Se l ax ay s1) (R2 l ax ay s1) 0 0 ((LV l (Nc l ax ay s1)).1))) LM rfl rfl rfl af rfl jj rfl (MS Li (MS Li (MS Li (MS Li (L4 rfl MX))))) fun jm jn bY=>?_)))))
       have et:=ji.all bY (er p rfl)
       have eu:=jl.all bY jh
       refine Lb (iv 0) LE (KQ ?_)
       have jo:=K4 (iv 0)
       refine KK (Le (Lx (PL ?_)))
       have jp:P2 jm (fun i=>(Lh p) i\/((Lh g2) i)) p l (Nq l k ax ay bx yy st):=(by rw[hT0];first|exact ME hf2 ho1 et eu bX|exact ME hf2 ho2 et eu bX)
       have jq:KS w0 T_r (fun i=>(Lh p) i\/((Lh g2) i)):=fun i h=>h.elim (fun y=>ep i y) (fun y=>jg i y)
       exact Mo ao rfl (M6 (vs:=(OP m (Se l ax ay s1) (R2 l ax ay s1) 0 0 ((LV l (Nc l ax ay s1)).1))) LM rfl af jn) (LF (v:=iv 0) rfl jo) ⟨(fun i=>(Lh p) i\/((Lh g2) i)),(by rw[hR] <;> rfl),((ee.trans bm (KS.ok (S:=T_r) ep (fun _ x=>x))).trans bY (KS.ok (S:=T_r) an KZ)),⟨jp,jq⟩⟩
   ·skip
    refine Lf (KK (KM (KM ?_)))
    first|(rw[S3 (has:=NM m) (by assumption)] at h1;replace h1:=h1.trans (by unfold YT;exact if_pos rfl);(try dsimp only at h1))|(have hv1:QN l ax ay s1=0:=(by first|assumption|(apply Decidable.byContradiction;assumption));replace h1:=h1.trans (by unfold YT;exact if_pos hv1);(try dsimp only at h1);rw[← Rw hv1] at h1)
    refine KL (K2 Lw dk (KQ ?_))
    have jr:=K4 (.bool (Nv m))
    refine KK ?_
    refine K5 jr (fun js=>?_) (fun js=>?_)
    ·skip
     refine KM ?_
     rw[Um (has:=Nv m) (by assumption)] at h1
     refine KL (KN (.agg #[iv bx,iv yy]) rr (KX L0 rfl cM dy rr) (LH (R:=fun v_ w_=>∃ (aN:Nat->Prop),.tuple #[.agg #[iv (Se l bx yy s1),iv (R2 l bx yy s1)],iv (QN l bx yy s1)]=v_/\KR aj aH w_/\(Qq w_ aN ae l (Nc l bx yy s1) ([(p,st)])/\KS aH aj aN)) rfl rfl (LQ rfl rfl rfl (fun _ _=>by kernel_rfl) (K6 _) (Lo ak (Lo rfl L5)) (Wx ae l s1 ([(p,st)]) bx yy aj _  bF ) (fun e_ w_ h_=>by obtain⟨T902_,he_,hr_⟩:=h_;exact⟨_,he_,T902_,rfl,hr_⟩)) ?_))
     rintro _ lg ⟨aN,rfl,bZ,⟨jt,ew⟩⟩
     have ju:=aI.all bZ (aq.symm ac rfl)
     have jv:=aJ.all bZ (aB ah rfl)
     have aW:=ap.trans aC ew
     obtain⟨bn,b7⟩:=WX ew aq aI (aB.symm) aJ
     refine KN (.tuple #[.agg #[iv (Se l bx yy s1),iv (R2 l bx yy s1)],iv (QN l bx yy s1)]) rr (KT rfl rfl rr) (KN (.agg #[iv (Se l bx yy s1),iv (R2 l bx yy s1)]) rr (LY rfl rfl rfl rr) (KN (iv (QN l bx yy s1)) rr (LY rfl rfl rfl rr) (KN (pt ah 3) rr (KU (n:=2) rfl am Tryz.underlying71 rfl (by kernel_rfl) (by decide) rfl rr) (Pp (us:=[iv (Se l bx yy s1),iv (R2 l bx yy s1)]) (ns:=(OP m 0 0 (Se l bx yy s1) (R2 l bx yy s1) (fun _=>(0:Int)))) L0 rfl rfl rfl rfl rfl jv (Nat.le_of_ble_eq_true rfl) (L4 rfl (L4 rfl MX)) rfl fun ex ey b8=>?_))))
     have b9:=ju.all b8 (aw.symm ac rfl)
     have ez:=jt.all b8 b7
     have bo:=(aC.trans bZ (fun i hi x=>((KS.ok (S:=T_r) ap (fun _ x=>x)) i hi x))).trans b8 (KS.ok (S:=T_r) av KZ)
     refine Lb (iv (QN l bx yy s1)) LE (KQ ?_)
     have eA:=K4 (iv (QN l bx yy s1))
     refine KK (KM (KL (K2 Lw eA (KN (.bool (decide ((QN l bx yy s1)≠0))) rr (Mw rfl rfl rfl rfl rr) (KQ ?_)))))
     have jw:=K4 (.bool (decide ((QN l bx yy s1)≠0)))
     refine KK ?_
     refine K5 jw (fun aX=>?_) (fun aX=>?_)
     ·replace aX:=of_decide_eq_true aX
      refine N0 (MB ?_)
      refine Na ⟨_,rfl,?_⟩
      refine KM (Lf (KK (KM ?_)))
      first|have hR:=h1.trans (by unfold YT;exact if_neg (by assumption))|have hR:=h1.trans (by unfold VV;exact if_neg (by assumption))|have hR:=h1.trans (by unfold rd4;exact if_neg (by assumption))|(have hRR:=QI (l:=l) (k:=k) (ax:=ax) (ay:=ay) (bx:=bx) (yy:=yy) hm hs1 (by first|exact Or.inl (by assumption)|exact Or.inr (by assumption));obtain⟨s9,hR⟩:=hRR)
      have hT0:Nq l k ax ay bx yy st=st:=by unfold Nq;rw[hR];exact if_neg (by first|assumption|(intro z;exact absurd (show (120:Int)=0 from z) (by decide)))
      obtain⟨g2,a1,b1,a2,b2,hf2,hT2,ho1,ho2,ai,hq2,hg2,ap1_,ap2_,ap3_⟩:=On ez
      have jx:KS w0 T_r (Lh p):=fun i h=>aW i ((fun i h=>(hT2 i).2 (Or.inl h)) i h)
      have jy:KO (Lh p) (Lh ac):=fun i h=>bn i ((fun i h=>(hT2 i).2 (Or.inl h)) i h)
      have jz:KS w0 T_r (Lh g2):=fun i h=>aW i ((fun i h=>(hT2 i).2 (Or.inr (Or.inr h))) i h)
      have jA:KO (Lh g2) (Lh ac):=fun i h=>bn i ((fun i h=>(hT2 i).2 (Or.inr (Or.inr h))) i h)
      have eB:KO (Lh p) (Lh g2):=ap2_
      refine KL (KN (.agg (OP 0 0 0 0 0 (fun _=>(0:Int))).toArray) rr (Ma (l':=[]) (cells:=(OP 0 0 0 0 0 (fun _=>(0:Int))).toArray) rfl Rj (by kernel_rfl) rfl rr) (K2 Lw eA (Ll (us:=(OP 0 0 0 0 0 (fun _=>(0:Int)))) LM rfl rfl rfl af rfl b9 rfl (MS Li (MS Li (MS Li (MS Li (L4 rfl MX))))) fun jB jC cd=>?_)))
      have eC:=ai.all cd (jy p rfl)
      have eD:=hg2.all cd jA
      refine Lb (iv (QN l bx yy s1)) LE (KQ ?_)
      have jD:=K4 (iv (QN l bx yy s1))
      refine KK (Le (Nu ?_))
      have jE:P2 jB (fun i=>(Lh p) i\/((Lh g2) i)) p l (Nq l k ax ay bx yy st):=(by rw[hT0];first|exact ME hf2 ho1 eC eD eB|exact ME hf2 ho2 eC eD eB)
      have jF:KS w0 T_r (fun i=>(Lh p) i\/((Lh g2) i)):=fun i h=>h.elim (fun y=>jx i y) (fun y=>jz i y)
      exact Mo ao rfl (M6 (vs:=(OP 0 0 0 0 0 (fun _=>(0:Int)))) LM rfl af jC) (LF (v:=iv (QN l bx yy s1)) rfl jD) ⟨(fun i=>(Lh p) i\/((Lh g2) i)),(by rw[hR] <;> rfl),(bo.trans cd (KS.ok (S:=T_r) an KZ)),⟨jE,jF⟩⟩
     ·replace aX:=of_decide_eq_false aX
      refine Lf (KK (KM (KM ?_)))
      first|(rw[S3 (has:=Nv m) (by assumption)] at h1;replace h1:=h1.trans (by unfold VV;exact if_pos rfl);(try dsimp only at h1))|(have hv2:QN l bx yy (Nc l ax ay s1)=0:=(by first|assumption|(apply Decidable.byContradiction;assumption));replace h1:=h1.trans (by unfold VV;exact if_pos hv2);(try dsimp only at h1);rw[← Rw hv2] at h1)|(have hv2:QN l bx yy s1=0:=(by first|assumption|(apply Decidable.byContradiction;assumption));replace h1:=h1.trans (by unfold VV;exact if_pos hv2);(try dsimp only at h1);rw[← Rw hv2] at h1)
      refine KL (LH (R:=fun v_ w_=>∃ (ce:Nat->Prop),.tuple #[LW ((LV l (Nc l bx yy s1)).1),iv ((LV l (Nc l bx yy s1)).2.1)]=v_/\KR aN ex w_/\(Qq w_ ce ae l (YQ l (Nc l bx yy s1)) ([(p,st)])/\KS ex aN ce)) rfl rfl (LQ rfl rfl rfl (fun _ _=>by kernel_rfl) (K6 _) (Lo ak L5) (R7 ae l (Nc l bx yy s1) ([(p,st)]) aN _ (hO.but bo (ovO hG)) (ovO (VX aW hG hA)) ez ) (fun e_ w_ h_=>by obtain⟨T1007_,he_,hr_⟩:=h_;exact⟨_,he_,T1007_,rfl,hr_⟩)) ?_)
      rintro _ lh ⟨ce,rfl,cf,⟨jG,eE⟩⟩
      have jH:=b9.all cf (bn.symm ac rfl)
      have jI:=ey.all cf (b7.symm ah rfl)
      have bp:=aW.trans bo eE
      obtain⟨bq,eF⟩:=WX eE bn b9 b7 ey
      refine KN (.tuple #[LW ((LV l (Nc l bx yy s1)).1),iv ((LV l (Nc l bx yy s1)).2.1)]) rr (KT rfl rfl rr) (KN (LW ((LV l (Nc l bx yy s1)).1)) rr (LY rfl rfl rfl rr) (KN (iv ((LV l (Nc l bx yy s1)).2.1)) rr (LY rfl rfl rfl rr) (KN (pt ah 5) rr (KU (n:=16) rfl am Tryz.underlying71 rfl (by kernel_rfl) (by decide) rfl rr) (Pp (us:=Mp 16 ((LV l (Nc l bx yy s1)).1)) (ns:=(OP m 0 0 (Se l bx yy s1) (R2 l bx yy s1) ((LV l (Nc l bx yy s1)).1))) Q3 rfl rfl rfl rfl rfl jI (Nat.le_of_ble_eq_true rfl) (Tb _ _) rfl fun lj jJ cg=>?_))))
      have eG:=jH.all cg (aw.symm ac rfl)
      have eH:=jG.all cg eF
      have eI:=(bo.trans cf (fun i hi x=>((KS.ok (S:=T_r) aW (fun _ x=>x)) i hi x))).trans cg (KS.ok (S:=T_r) av KZ)
      refine Lb (iv ((LV l (Nc l bx yy s1)).2.1)) LE (KQ ?_)
      have eJ:=K4 (iv ((LV l (Nc l bx yy s1)).2.1))
      refine KK (KM (KL (K2 Lw eJ (KN (.bool (decide (((LV l (Nc l bx yy s1)).2.1)≠0))) rr (Mw rfl rfl rfl rfl rr) (KQ ?_)))))
      have jK:=K4 (.bool (decide (((LV l (Nc l bx yy s1)).2.1)≠0)))
      refine KK ?_
      refine K5 jK (fun aY=>?_) (fun aY=>?_)
      ·replace aY:=of_decide_eq_true aY
       refine N0 (MB ?_)
       refine Na ⟨_,rfl,?_⟩
       refine KM (Lf (KK (KM ?_)))
       first|have hR:=h1.trans (by unfold YT;exact if_neg (by assumption))|have hR:=h1.trans (by unfold VV;exact if_neg (by assumption))|have hR:=h1.trans (by unfold rd4;exact if_neg (by assumption))|(have hRR:=QI (l:=l) (k:=k) (ax:=ax) (ay:=ay) (bx:=bx) (yy:=yy) hm hs1 (by first|exact Or.inl (by assumption)|exact Or.inr (by assumption));obtain⟨s9,hR⟩:=hRR)
       have hT0:Nq l k ax ay bx yy st=st:=by unfold Nq;rw[hR];exact if_neg (by first|assumption|(intro z;exact absurd (show (120:Int)=0 from z) (by decide)))
       obtain⟨g2,a1,b1,a2,b2,hf2,hT2,ho1,ho2,ai,hq2,hg2,ap1_,ap2_,ap3_⟩:=On eH
       have jL:KS w0 T_r (Lh p):=fun i h=>bp i ((fun i h=>(hT2 i).2 (Or.inl h)) i h)
       have jM:KO (Lh p) (Lh ac):=fun i h=>bq i ((fun i h=>(hT2 i).2 (Or.inl h)) i h)
       have jN:KS w0 T_r (Lh g2):=fun i h=>bp i ((fun i h=>(hT2 i).2 (Or.inr (Or.inr h))) i h)
       have jO:KO (Lh g2) (Lh ac):=fun i h=>bq i ((fun i h=>(hT2 i).2 (Or.inr (Or.inr h))) i h)
       have eK:KO (Lh p) (Lh g2):=ap2_
       refine KL (KN (.agg (OP 0 0 0 0 0 (fun _=>(0:Int))).toArray) rr (Ma (l':=[]) (cells:=(OP 0 0 0 0 0 (fun _=>(0:Int))).toArray) rfl Rj (by kernel_rfl) rfl rr) (K2 Lw eJ (Ll (us:=(OP 0 0 0 0 0 (fun _=>(0:Int)))) LM rfl rfl rfl af rfl eG rfl (MS Li (MS Li (MS Li (MS Li (L4 rfl MX))))) fun jP jQ ci=>?_)))
       have eL:=ai.all ci (jM p rfl)
       have eM:=hg2.all ci jO
       refine Lb (iv ((LV l (Nc l bx yy s1)).2.1)) LE (KQ ?_)
       have jR:=K4 (iv ((LV l (Nc l bx yy s1)).2.1))
       refine KK (Le (Nu ?_))
       have jS:P2 jP (fun i=>(Lh p) i\/((Lh g2) i)) p l (Nq l k ax ay bx yy st):=(by rw[hT0];first|exact ME hf2 ho1 eL eM eK|exact ME hf2 ho2 eL eM eK)
       have jT:KS w0 T_r (fun i=>(Lh p) i\/((Lh g2) i)):=fun i h=>h.elim (fun y=>jL i y) (fun y=>jN i y)
       exact Mo ao rfl (M6 (vs:=(OP 0 0 0 0 0 (fun _=>(0:Int)))) LM rfl af jQ) (LF (v:=iv ((LV l (Nc l bx yy s1)).2.1)) rfl jR) ⟨(fun i=>(Lh p) i\/((Lh g2) i)),(by rw[hR] <;> rfl),(eI.trans ci (KS.ok (S:=T_r) an KZ)),⟨jS,jT⟩⟩
      ·replace aY:=of_decide_eq_false aY
       refine Lf (KK (KM ?_))
       have hR:=h1.trans (by unfold rd4;exact if_pos (by first|assumption|(apply Decidable.byContradiction;assumption)))
       have hT0:=(show Nq l k ax ay bx yy st=(Sz l k ax ay bx yy st).2.2 from if_pos (by rw[hR]))
       rw[hR] at hT0
       dsimp only at hT0
       rw[← VQ (by first|assumption|(apply Decidable.byContradiction;assumption))] at hT0
       obtain⟨g2,a1,b1,a2,b2,hf2,hT2,ho1,ho2,ai,hq2,hg2,ap1_,ap2_,ap3_⟩:=On eH
       have eN:KS w0 T_r (Lh p):=fun i h=>bp i ((fun i h=>(hT2 i).2 (Or.inl h)) i h)
       have eO:KO (Lh p) (Lh ac):=fun i h=>bq i ((fun i h=>(hT2 i).2 (Or.inl h)) i h)
       have jU:KO (Lh p) (Lh ah):=fun i h=>eF i ((fun i h=>(hT2 i).2 (Or.inl h)) i h)
       have jV:KS w0 T_r (Lh g2):=fun i h=>bp i ((fun i h=>(hT2 i).2 (Or.inr (Or.inr h))) i h)
       have jW:KO (Lh g2) (Lh ac):=fun i h=>bq i ((fun i h=>(hT2 i).2 (Or.inr (Or.inr h))) i h)
       have cj:KO (Lh p) (Lh g2):=ap2_
       refine KL (K2 Lw aE (KN (.agg #[.slice (some ⟨g2,0,none⟩) l.length l.length,iv ((a2:Nat):Int),.bool b2]) rr (KX M7 rfl ak hq2 rr) (KN (pt p 0) rr (OW rfl rfl rr) (Ll (us:=[.slice (some ⟨g2,0,none⟩) l.length l.length,iv ((a2:Nat):Int),.bool b2]) M7 rfl rfl rfl rfl rfl ai rfl (Qc rr (L4 rfl MX)) fun lk jX bt=>?_))))
       have jY:=eG.all bt (eO.symm ac rfl)
       have jZ:=jJ.all bt (jU.symm ah rfl)
       have j0:=hg2.all bt cj.symm
       refine KQ ?_
       refine KK (KM (KM (KL (KN (.agg (OP m 0 0 (Se l bx yy s1) (R2 l bx yy s1) ((LV l (Nc l bx yy s1)).1)).toArray) rr (KX LM rfl am jZ rr) (Ll (us:=(OP m 0 0 (Se l bx yy s1) (R2 l bx yy s1) ((LV l (Nc l bx yy s1)).1))) LM rfl rfl rfl af rfl jY rfl (MS Li (MS Li (MS Li (MS Li (L4 rfl MX))))) fun j1 j2 cm=>?_)))))
       have eP:=jX.all cm (eO p rfl)
       have eQ:=j0.all cm jW
       refine Lb (iv 0) LE (KQ ?_)
       have j3:=K4 (iv 0)
       refine KK (Le (Lx (PL ?_)))
       have j4:P2 j1 (fun i=>(Lh p) i\/((Lh g2) i)) p l (Nq l k ax ay bx yy st):=(by rw[hT0];first|exact ME hf2 ho1 eP eQ cj|exact ME hf2 ho2 eP eQ cj)
       have j5:KS w0 T_r (fun i=>(Lh p) i\/((Lh g2) i)):=fun i h=>h.elim (fun y=>eN i y) (fun y=>jV i y)
       exact Mo ao rfl (M6 (vs:=(OP m 0 0 (Se l bx yy s1) (R2 l bx yy s1) ((LV l (Nc l bx yy s1)).1))) LM rfl af j2) (LF (v:=iv 0) rfl j3) ⟨(fun i=>(Lh p) i\/((Lh g2) i)),(by rw[hR] <;> rfl),((eI.trans bt (KS.ok (S:=T_r) eN (fun _ x=>x))).trans cm (KS.ok (S:=T_r) an KZ)),⟨j4,j5⟩⟩
    ·skip
     refine Lf (KK (KM (KM ?_)))
     first|(rw[S3 (has:=Nv m) (by assumption)] at h1;replace h1:=h1.trans (by unfold VV;exact if_pos rfl);(try dsimp only at h1))|(have hv2:QN l bx yy (Nc l ax ay s1)=0:=(by first|assumption|(apply Decidable.byContradiction;assumption));replace h1:=h1.trans (by unfold VV;exact if_pos hv2);(try dsimp only at h1);rw[← Rw hv2] at h1)|(have hv2:QN l bx yy s1=0:=(by first|assumption|(apply Decidable.byContradiction;assumption));replace h1:=h1.trans (by unfold VV;exact if_pos hv2);(try dsimp only at h1);rw[← Rw hv2] at h1)
     refine KL (LH (R:=fun v_ w_=>∃ (cn:Nat->Prop),.tuple #[LW ((LV l s1).1),iv ((LV l s1).2.1)]=v_/\KR aj aH w_/\(Qq w_ cn ae l (YQ l s1) ([(p,st)])/\KS aH aj cn)) rfl rfl (LQ rfl rfl rfl (fun _ _=>by kernel_rfl) (K6 _) (Lo ak L5) (R7 ae l s1 ([(p,st)]) aj _ (hO.but aC (ovO hG)) (ovO (VX ap hG hA)) bF ) (fun e_ w_ h_=>by obtain⟨T1169_,he_,hr_⟩:=h_;exact⟨_,he_,T1169_,rfl,hr_⟩)) ?_)
     rintro _ ll ⟨cn,rfl,co,⟨j6,eR⟩⟩
     have j7:=aI.all co (aq.symm ac rfl)
     have j8:=aJ.all co (aB ah rfl)
     have bu:=ap.trans aC eR
     obtain⟨bv,eS⟩:=WX eR aq aI (aB.symm) aJ
     refine KN (.tuple #[LW ((LV l s1).1),iv ((LV l s1).2.1)]) rr (KT rfl rfl rr) (KN (LW ((LV l s1).1)) rr (LY rfl rfl rfl rr) (KN (iv ((LV l s1).2.1)) rr (LY rfl rfl rfl rr) (KN (pt ah 5) rr (KU (n:=16) rfl am Tryz.underlying71 rfl (by kernel_rfl) (by decide) rfl rr) (Pp (us:=Mp 16 ((LV l s1).1)) (ns:=(OP m 0 0 0 0 ((LV l s1).1))) Q3 rfl rfl rfl rfl rfl j8 (Nat.le_of_ble_eq_true rfl) (Tb _ _) rfl fun lm j9 cq=>?_))))
     have eT:=j7.all cq (aw.symm ac rfl)
     have eU:=j6.all cq eS
     have eV:=(aC.trans co (fun i hi x=>((KS.ok (S:=T_r) ap (fun _ x=>x)) i hi x))).trans cq (KS.ok (S:=T_r) av KZ)
     refine Lb (iv ((LV l s1).2.1)) LE (KQ ?_)
     have eW:=K4 (iv ((LV l s1).2.1))
     refine KK (KM (KL (K2 Lw eW (KN (.bool (decide (((LV l s1).2.1)≠0))) rr (Mw rfl rfl rfl rfl rr) (KQ ?_)))))
     have ka:=K4 (.bool (decide (((LV l s1).2.1)≠0)))
     refine KK ?_
     refine K5 ka (fun aZ=>?_) (fun aZ=>?_)
     ·replace aZ:=of_decide_eq_true aZ
      refine N0 (MB ?_)
      refine Na ⟨_,rfl,?_⟩
      refine KM (Lf (KK (KM ?_)))
      first|have hR:=h1.trans (by unfold YT;exact if_neg (by assumption))|have hR:=h1.trans (by unfold VV;exact if_neg (by assumption))|have hR:=h1.trans (by unfold rd4;exact if_neg (by assumption))|(have hRR:=QI (l:=l) (k:=k) (ax:=ax) (ay:=ay) (bx:=bx) (yy:=yy) hm hs1 (by first|exact Or.inl (by assumption)|exact Or.inr (by assumption));obtain⟨s9,hR⟩:=hRR)
      have hT0:Nq l k ax ay bx yy st=st:=by unfold Nq;rw[hR];exact if_neg (by first|assumption|(intro z;exact absurd (show (120:Int)=0 from z) (by decide)))
      obtain⟨g2,a1,b1,a2,b2,hf2,hT2,ho1,ho2,ai,hq2,hg2,ap1_,ap2_,ap3_⟩:=On eU
      have kb:KS w0 T_r (Lh p):=fun i h=>bu i ((fun i h=>(hT2 i).2 (Or.inl h)) i h)
      have kd:KO (Lh p) (Lh ac):=fun i h=>bv i ((fun i h=>(hT2 i).2 (Or.inl h)) i h)
      have ke:KS w0 T_r (Lh g2):=fun i h=>bu i ((fun i h=>(hT2 i).2 (Or.inr (Or.inr h))) i h)
      have kf:KO (Lh g2) (Lh ac):=fun i h=>bv i ((fun i h=>(hT2 i).2 (Or.inr (Or.inr h))) i h)
      have eX:KO (Lh p) (Lh g2):=ap2_
      refine KL (KN (.agg (OP 0 0 0 0 0 (fun _=>(0:Int))).toArray) rr (Ma (l':=[]) (cells:=(OP 0 0 0 0 0 (fun _=>(0:Int))).toArray) rfl Rj (by kernel_rfl) rfl rr) (K2 Lw eW (Ll (us:=(OP 0 0 0 0 0 (fun _=>(0:Int)))) LM rfl rfl rfl af rfl eT rfl (MS Li (MS Li (MS Li (MS Li (L4 rfl MX))))) fun kg ki cr=>?_)))
      have eY:=ai.all cr (kd p rfl)
      have eZ:=hg2.all cr kf
      refine Lb (iv ((LV l s1).2.1)) LE (KQ ?_)
      have kj:=K4 (iv ((LV l s1).2.1))
      refine KK (Le (Nu ?_))
      have kn:P2 kg (fun i=>(Lh p) i\/((Lh g2) i)) p l (Nq l k ax ay bx yy st):=(by rw[hT0];first|exact ME hf2 ho1 eY eZ eX|exact ME hf2 ho2 eY eZ eX)
      have ko:KS w0 T_r (fun i=>(Lh p) i\/((Lh g2) i)):=fun i h=>h.elim (fun y=>kb i y) (fun y=>ke i y)
      exact Mo ao rfl (M6 (vs:=(OP 0 0 0 0 0 (fun _=>(0:Int)))) LM rfl af ki) (LF (v:=iv ((LV l s1).2.1)) rfl kj) ⟨(fun i=>(Lh p) i\/((Lh g2) i)),(by rw[hR] <;> rfl),(eV.trans cr (KS.ok (S:=T_r) an KZ)),⟨kn,ko⟩⟩
     ·replace aZ:=of_decide_eq_false aZ
      refine Lf (KK (KM ?_))
      have hR:=h1.trans (by unfold rd4;exact if_pos (by first|assumption|(apply Decidable.byContradiction;assumption)))
      have hT0:=(show Nq l k ax ay bx yy st=(Sz l k ax ay bx yy st).2.2 from if_pos (by rw[hR]))
      rw[hR] at hT0
      dsimp only at hT0
      rw[← VQ (by first|assumption|(apply Decidable.byContradiction;assumption))] at hT0
      obtain⟨g2,a1,b1,a2,b2,hf2,hT2,ho1,ho2,ai,hq2,hg2,ap1_,ap2_,ap3_⟩:=On eU
      have e6:KS w0 T_r (Lh p):=fun i h=>bu i ((fun i h=>(hT2 i).2 (Or.inl h)) i h)
      have e7:KO (Lh p) (Lh ac):=fun i h=>bv i ((fun i h=>(hT2 i).2 (Or.inl h)) i h)
      have kp:KO (Lh p) (Lh ah):=fun i h=>eS i ((fun i h=>(hT2 i).2 (Or.inl h)) i h)
      have kq:KS w0 T_r (Lh g2):=fun i h=>bu i ((fun i h=>(hT2 i).2 (Or.inr (Or.inr h))) i h)
      have kr:KO (Lh g2) (Lh ac):=fun i h=>bv i ((fun i h=>(hT2 i).2 (Or.inr (Or.inr h))) i h)
      have ct:KO (Lh p) (Lh g2):=ap2_
      refine KL (K2 Lw aE (KN (.agg #[.slice (some ⟨g2,0,none⟩) l.length l.length,iv ((a2:Nat):Int),.bool b2]) rr (KX M7 rfl ak hq2 rr) (KN (pt p 0) rr (OW rfl rfl rr) (Ll (us:=[.slice (some ⟨g2,0,none⟩) l.length l.length,iv ((a2:Nat):Int),.bool b2]) M7 rfl rfl rfl rfl rfl ai rfl (Qc rr (L4 rfl MX)) fun ln ks bz=>?_))))
      have kt:=eT.all bz (e7.symm ac rfl)
      have ku:=j9.all bz (kp.symm ah rfl)
      have kv:=hg2.all bz ct.symm
      refine KQ ?_
      refine KK (KM (KM (KL (KN (.agg (OP m 0 0 0 0 ((LV l s1).1)).toArray) rr (KX LM rfl am ku rr) (Ll (us:=(OP m 0 0 0 0 ((LV l s1).1))) LM rfl rfl rfl af rfl kt rfl (MS Li (MS Li (MS Li (MS Li (L4 rfl MX))))) fun kw kx cu=>?_)))))
      have e8:=ks.all cu (e7 p rfl)
      have e9:=kv.all cu kr
      refine Lb (iv 0) LE (KQ ?_)
      have ky:=K4 (iv 0)
      refine KK (Le (Lx (PL ?_)))
      have kz:P2 kw (fun i=>(Lh p) i\/((Lh g2) i)) p l (Nq l k ax ay bx yy st):=(by rw[hT0];first|exact ME hf2 ho1 e8 e9 ct|exact ME hf2 ho2 e8 e9 ct)
      have kA:KS w0 T_r (fun i=>(Lh p) i\/((Lh g2) i)):=fun i h=>h.elim (fun y=>e6 i y) (fun y=>kq i y)
      exact Mo ao rfl (M6 (vs:=(OP m 0 0 0 0 ((LV l s1).1))) LM rfl af kx) (LF (v:=iv 0) rfl ky) ⟨(fun i=>(Lh p) i\/((Lh g2) i)),(by rw[hR] <;> rfl),((eV.trans bz (KS.ok (S:=T_r) e6 (fun _ x=>x))).trans cu (KS.ok (S:=T_r) an KZ)),⟨kz,kA⟩⟩
  ·skip
   refine KL (LH (R:=fun v_ w_=>v_ = .bool false/\KR (fun _=>False) bB w_) rfl rfl (LQ rfl rfl rfl (fun _ _=>by kernel_rfl) (K6 _) (Lo ak L5) (Sg ae l s1 ([(p,st)]) aj _  aG ) (fun e_ w_ h_=>⟨_,h_.1,(congrArg Value.bool a9),h_.2⟩)) ?_)
   rintro _ kB ⟨rfl,fa⟩
   obtain⟨kC,kD,kE⟩:=Od fa bC aG dj
   have fb:=bD.tr fa
   refine KN (.bool false) rr (KT rfl rfl rr) (Lj (iv k) 1 false 30 Li (KT rfl cL rr) (Lj (pt ah 0) 1 false 30 Li (KU (n:=1) rfl am Tryz.underlying71 rfl (by kernel_rfl) (by decide) rfl rr) (Lj (iv m) 1 false 30 Li (KY rfl rfl Tryz.underlying3 kE rfl rfl rr) (LZ (R:=fun v_ w_=>v_ = .bool false/\KR (fun _=>False) kB w_) 1 false 30 rfl rfl rfl rfl rfl (LQ rfl rfl rfl (fun _ _=>by kernel_rfl) (K6 _) (Lo rfl (Lo rfl L5)) (aBQ k m  _ (hA.but fb hG)  ) (fun e_ w_ h_=>⟨_,h_.1,(congrArg Value.bool (decide_eq_false dr)),h_.2⟩)) ?_))))
   rintro _ lp ⟨rfl,fc⟩
   obtain⟨kF,kG⟩:=Oe fc kC kD
   refine Lj (.bool true) 1 false 30 Li (Mq rfl rfl rfl rr) (KN (.bool true) rr (Lt rfl rfl rfl rr) (KQ ?_))
   have kH:=K4 (.bool true)
   refine KK ?_
   refine K5 (t:=true) kH (fun _=>?_) (fun e=>by cases e)
   refine N0 (MB ?_)
   refine Na ⟨_,rfl,?_⟩
   refine KM (Lf (KK (KM ?_)))
   first|have hR:=h1.trans (by unfold YT;exact if_neg (by assumption))|have hR:=h1.trans (by unfold VV;exact if_neg (by assumption))|have hR:=h1.trans (by unfold rd4;exact if_neg (by assumption))|(have hRR:=QI (l:=l) (k:=k) (ax:=ax) (ay:=ay) (bx:=bx) (yy:=yy) hm hs1 (by first|exact Or.inl (by assumption)|exact Or.inr (by assumption));obtain⟨s9,hR⟩:=hRR)
   have hT0:Nq l k ax ay bx yy st=st:=by unfold Nq;rw[hR];exact if_neg (by first|assumption|(intro z;exact absurd (show (120:Int)=0 from z) (by decide)))
   obtain⟨g2,a1,b1,a2,b2,hf2,hT2,ho1,ho2,ai,hq2,hg2,ap1_,ap2_,ap3_⟩:=On kG
   have kI:KS w0 T_r (Lh p):=fun i h=>ap i ((fun i h=>(hT2 i).2 (Or.inl h)) i h)
   have kJ:KO (Lh p) (Lh ac):=fun i h=>aq i ((fun i h=>(hT2 i).2 (Or.inl h)) i h)
   have kK:KS w0 T_r (Lh g2):=fun i h=>ap i ((fun i h=>(hT2 i).2 (Or.inr (Or.inr h))) i h)
   have kL:KO (Lh g2) (Lh ac):=fun i h=>aq i ((fun i h=>(hT2 i).2 (Or.inr (Or.inr h))) i h)
   have fd:KO (Lh p) (Lh g2):=ap2_
   refine KL (KN (.agg (OP 0 0 0 0 0 (fun _=>(0:Int))).toArray) rr (Ma (l':=[]) (cells:=(OP 0 0 0 0 0 (fun _=>(0:Int))).toArray) rfl Rj (by kernel_rfl) rfl rr) (K2 Lw dl (Ll (us:=(OP 0 0 0 0 0 (fun _=>(0:Int)))) LM rfl rfl rfl af rfl kF rfl (MS Li (MS Li (MS Li (MS Li (L4 rfl MX))))) fun kM kN cv=>?_)))
   have fe:=ai.all cv (kJ p rfl)
   have ff:=hg2.all cv kL
   refine Lb (iv 120) LE (KQ ?_)
   have kO:=K4 (iv 120)
   refine KK (Le (Nu ?_))
   have kP:P2 kM (fun i=>(Lh p) i\/((Lh g2) i)) p l (Nq l k ax ay bx yy st):=(by rw[hT0];first|exact ME hf2 ho1 fe ff fd|exact ME hf2 ho2 fe ff fd)
   have kQ:KS w0 T_r (fun i=>(Lh p) i\/((Lh g2) i)):=fun i h=>h.elim (fun y=>kI i y) (fun y=>kK i y)
   exact Mo ao rfl (M6 (vs:=(OP 0 0 0 0 0 (fun _=>(0:Int)))) LM rfl af kN) (LF (v:=iv 120) rfl kO) ⟨(fun i=>(Lh p) i\/((Lh g2) i)),(by rw[hR] <;> rfl),((fb.tr fc).trans cv (KS.ok (S:=T_r) an KZ)),⟨kP,kQ⟩⟩
open Go.ChangeShapes Go.WideShapes Go.ChangeAt Go.RowKit Go.Deep
def ZD : List (String × DataW Unit) := [("clapboard/quant.steps", Rows.laid_clapboard_quant_steps), ("clapboard/scan.order", Rows.laid_clapboard_scan_order), ("clapboard/wave.waves", Rows.laid_clapboard_wave_waves), ("clapboard/block.acts", Rows.laid_clapboard_block_acts)]
theorem Tryz.gActs : Tryz.prog.globalNamed "clapboard/block.acts" = some 1 := by kernel_rfl
theorem Tryz.tActs:(Tryz.prog.globals[1]?).map (·.type)=some 165:=by kernel_rfl
theorem Tryz.c21a:Tryz.prog.cellsOf 165=21:=by kernel_rfl
theorem Tryz.c3a:Tryz.prog.cellsOf 164=3:=by kernel_rfl
theorem Tryz.c1b:Tryz.prog.cellsOf 4=1:=by kernel_rfl
theorem aBi(os:Os)(args:Array Value):laidMetH Tryz.prog ZD ((World.doorLaid Tryz.prog 400 os).forCall (fun _ _=>0) ⟨#[],args,[]⟩).memory :=
 laidMetH_of_parts3 (fuel:=8) (laidMet_of_run' 8 (by kernel_rfl) (by kernel_rfl)) (by kernel_rfl) (by kernel_rfl)
def aF9{H:Type}(q:Int×Bool×Bool):DataW H:=.agg [.lit (.int .i64 q.1),.lit (.bool q.2.1),.lit (.bool q.2.2)]
def aGq:List (Int×Bool×Bool):=[(0,false,false),(0,false,false),(0,false,false),(0,false,false),(1,true,false),(2,false,true),(2,true,true)]
theorem aBe{W:World}{f:Nat}{l:List (Int×Bool×Bool)}{cs:List Value}{p:List MemPlace}
  (hd:DataW.trod (fun _=>()) Tryz.prog W 0 (fun _=>true) false f 165 cs=some (.agg (l.map aF9),p)):cs.length=21/\∀ u,u<7->∃ q,l[u]? = some q/\cs[u*3]? = some (.int .i64 q.1)/\cs[u*3+1]? = some (.bool q.2.1)/\cs[u*3+2]? = some (.bool q.2.2):=by
 obtain⟨xs,k,rfl,hx,hl,hn,hel⟩:=DataW.trod_array Tryz.underlying165 hd
 rw[Tryz.c21a] at hl
 refine⟨hl,fun u hu=>?_⟩
 simp only[Prod.mk.injEq,DataW.agg.injEq] at hx
 have h1:=hel u hu
 rw[Tryz.c3a,List.getElem?_eq_getElem (by omega)] at h1
 have e1:(xs.map (·.1))[u]? = some xs[u].1:=by rw[List.getElem?_map,List.getElem?_eq_getElem (by omega)];rfl
 rw[← hx.1,List.getElem?_map] at e1
 cases hq:l[u]? with
 | none=>rw[hq] at e1;cases e1
 | some y =>
  rw[hq] at e1
  simp only[Option.map_some,Option.some.injEq] at e1
  obtain⟨y0,y1,y2,n,hagg,hsz,h2,h3,h4⟩:=trod_struct3 Tryz.underlying164 h1
  simp only[Tryz.c1,Tryz.c1b] at h2 h3 h4
  obtain⟨z0,hz0,hd0,_⟩:=DataW.trod_int Tryz.underlying3 h2
  obtain⟨b1,hz1,hd1⟩:=DataW.trod_bool Tryz.underlying4 h3
  obtain⟨b2,hz2,hd2⟩:=DataW.trod_bool Tryz.underlying4 h4
  rw[hagg] at e1
  simp only[aF9,DataW.agg.injEq,List.cons.injEq,and_true] at e1
  rw[hd0,hd1,hd2] at e1
  simp only[DataW.lit.injEq,Lit.int.injEq,Lit.bool.injEq,true_and] at e1
  obtain⟨r0,r1,r2⟩:=e1
  have g0:=congrArg (·[0]?) hz0
  have g1:=congrArg (·[0]?) hz1
  have g2:=congrArg (·[0]?) hz2
  refine⟨y,rfl,?_,?_,?_⟩
  ·rw[r0];simpa [List.getElem?_take,List.getElem?_drop] using g0
  ·rw[r1];simpa [List.getElem?_take,List.getElem?_drop] using g1
  ·rw[r2];simpa [List.getElem?_take,List.getElem?_drop] using g2
theorem aDv{W : World}{f : Nat}{cs : Array Value}{p : List MemPlace}(hv : World.var? Tryz.prog W "clapboard/block.acts" = some cs)
  (hd:DataW.trod (fun _=>()) Tryz.prog W 0 (fun _=>true) false f 165 cs.toList=some (Rows.laid_clapboard_block_acts,p)) (hs:5<=W.heap.size):Og W:=by
 have key:=(aBe (l:=aGq) hd).2
 refine⟨hs,fun i hi=>?_⟩
 rw[World.var?_cell Tryz.gActs hv i,show cs[i]? = cs.toList[i]? by simp]
 obtain⟨q,hq,k0,k1,k2⟩:=key (i/3) (by omega)
 have hc:i/3<7/\(i=i/3*3\/i=i/3*3+1\/i=i/3*3+2):=by omega
 generalize i/3=u at *
 obtain⟨hu,hi3⟩:=hc
 have hu7:u=0\/u=1\/u=2\/u=3\/u=4\/u=5\/u=6:=by omega
 rcases hu7 with rfl|rfl|rfl|rfl|rfl|rfl|rfl <;> obtain rfl:=Option.some.inj hq <;> rcases hi3 with rfl|rfl|rfl <;> first|exact k0.trans rfl|exact k1.trans rfl|exact k2.trans rfl
theorem YR{W:World}(h:laidMetH Tryz.prog ZD W):Ox W/\OX W/\QZ W/\Og W:=by
 rw[MakeChecks.laidMetH_plain _ _ _ (by kernel_rfl)] at h
 obtain⟨ps,⟨g0,t0,cs0,f0,p0,q0,hg0,ht0,hv0,hd0,⟨g1,t1,cs1,f1,p1,q1,hg1,ht1,hv1,hd1,⟨g2,t2,cs2,f2,p2,q2,hg2,ht2,hv2,hd2,⟨g3,t3,cs3,f3,p3,q3,hg3,ht3,hv3,hd3,_,_⟩,_⟩,_⟩,_⟩,_,_⟩:=h
 obtain rfl:=Option.some.inj (Tryz.gSteps.symm.trans hg0)
 obtain rfl:=Option.some.inj (Tryz.tSteps.symm.trans ht0)
 obtain rfl:=Option.some.inj (Tryz.gOrder.symm.trans hg1)
 obtain rfl:=Option.some.inj (Tryz.tOrder.symm.trans ht1)
 obtain rfl:=Option.some.inj (Tryz.gWaves.symm.trans hg2)
 obtain rfl:=Option.some.inj (Tryz.tWaves.symm.trans ht2)
 obtain rfl:=Option.some.inj (Tryz.gActs.symm.trans hg3)
 obtain rfl:=Option.some.inj (Tryz.tActs.symm.trans ht3)
 have h0:=aBy hv0 hd0
 have h1:=aC7 hv1 hd1
 have h2:=aCr hv2 hd2
 obtain⟨t4,f4,h4⟩:=XQ Tryz.gActs hv3
 have s0:=h0.1
 have s1:=h1.pos
 have s2:=h2.1
 have s3:=M5 h4
 exact⟨h0,h1,h2,aDv hv3 hd3 (by omega)⟩
def NQ(n:Int):Prop:=8<=n/\n<=64/\n%8=0
instance (n:Int):Decidable (NQ n):=by unfold NQ;infer_instance
def PU(W H R B:Int):Prop:=NQ W/\NQ H/\1<=R/\R<=16777216/\R<=B/\B<=1073741824
instance (W H R B:Int):Decidable (PU W H R B):=by unfold PU;infer_instance
def OM(K Q D F:Int):Prop:=0<=K/\K<=2/\0<=Q/\Q<=20/\0<=D/\D<16777216/\0<=F/\F<=1073741824
instance (K Q D F:Int):Decidable (OM K Q D F):=by unfold OM;infer_instance
def PB(W H R B:Int):Int:=if PU W H R B then 0 else 110
def Qy(K Q D F:Int):Int:=if OM K Q D F then 0 else 110
def nm(a b c d:Nat):Int:=(a:Int)*16777216+(b:Int)*65536+(c:Int)*256+(d:Int)
def aFR(l:List Nat)(i:Nat):Int:=nm (l.getD i 0) (l.getD (i+1) 0) (l.getD (i+2) 0) (l.getD (i+3) 0)
def nm0(l:List Nat):Int:=(l.getD 0 0:Nat)
def nm1(l:List Nat):Int:=(l.getD 1 0:Nat)
def nm2(l:List Nat):Int:=aFR l 2
def nm3(l:List Nat):Int:=aFR l 6
def aFY(l:List Nat):Prop:=l.length=10/\PU (nm0 l) (nm1 l) (nm2 l) (nm3 l)
instance (l:List Nat):Decidable (aFY l):=by unfold aFY;infer_instance
def aEw(l:List Nat):Prop:=10<=l.length/\OM (nm0 l) (nm1 l) (nm2 l) (nm3 l)
instance (l:List Nat):Decidable (aEw l):=by unfold aEw;infer_instance
abbrev W3:Ch:=⟨0,0,0,0,0,fun _=>0⟩
def pX(w i:Nat):Int:=((i%w:Nat):Int)
def pY(w i:Nat):Int:=((i/w:Nat):Int)
structure ZG where
  a:VF
  b:VF
  s:Option Nat
def Mt(l:List Nat)(k:Int)(w i:Nat)(t:ZG):Ch×Int×Option Nat:=Sz l k (gX t.a (pX w i) (pY w i)) (gY t.a (pX w i) (pY w i)) (gX t.b (pX w i) (pY w i)) (gY t.b (pX w i) (pY w i)) t.s
def azc(l:List Nat)(k:Int)(w i:Nat)(t:ZG):ZG:=⟨RA t.a (pX w i) (pY w i) (Mt l k w i t).1.px (Mt l k w i t).1.py,RA t.b (pX w i) (pY w i) (Mt l k w i t).1.nx (Mt l k w i t).1.ny,(Mt l k w i t).2.2⟩
def To(l:List Nat)(k:Int)(w:Nat):Nat->Nat->ZG->List Ch->List Ch×Int×Option Nat
 | 0,_,t,o=>(o,0,t.s)
 | m+1,i,t,o=>if (Mt l k w i t).2.1=0 then To l k w m (i+1) (azc l k w i t) (o ++ [(Mt l k w i t).1]) else ([],(Mt l k w i t).2.1,t.s)
theorem Uu{l:List Nat}{k:Int}{w m i:Nat}{t:ZG}{o:List Ch}(h:(Mt l k w i t).2.1=0):To l k w (m+1) i t o=To l k w m (i+1) (azc l k w i t) (o ++ [(Mt l k w i t).1]):=if_pos h
theorem Yu{l:List Nat}{k:Int}{w m i:Nat}{t:ZG}{o:List Ch}(h:(Mt l k w i t).2.1≠0):To l k w (m+1) i t o=([],(Mt l k w i t).2.1,t.s):=if_neg h
def Lk(W:Int)(p:Nat):Nat:=if p=0 then (W/4).toNat else (W/8).toNat
def Wh(l:List Nat)(k W H:Int)(p:Nat)(s:Option Nat)(o:List Ch):List Ch×Int×Option Nat :=
 To l k (Lk W p) (Lk W p*Lk H p) 0 ⟨Qo (Lk W p) (Lk H p),Qo (Lk W p) (Lk H p),s⟩ o
def Oi(l:List Nat)(k W H:Int):Nat->List Ch×Int×Option Nat
 | 0=>([],0,some 0)
 | p+1=>if (Oi l k W H p).2.1=0 then Wh l k W H p (Oi l k W H p).2.2 (Oi l k W H p).1 else Oi l k W H p
theorem UB{l:List Nat}{k W H:Int}{p:Nat}(h:(Oi l k W H p).2.1=0):Oi l k W H (p+1)=Wh l k W H p (Oi l k W H p).2.2 (Oi l k W H p).1:=if_pos h
theorem V2{l:List Nat}{k W H:Int}{p:Nat}(h:(Oi l k W H p).2.1≠0):Oi l k W H (p+1)=Oi l k W H p:=if_neg h
def Qm(l:List Nat)(k W H:Int):List Ch×Int :=
 if (Oi l k W H 3).2.1=0 then (if Pb l (Oi l k W H 3).2.2=0 then ((Oi l k W H 3).1,0) else ([],130)) else ([],(Oi l k W H 3).2.1)
def RU(W H R B K Q D F:Int):Prop:=PU W H R B/\OM K Q D F
instance (W H R B K Q D F:Int):Decidable (RU W H R B K Q D F):=by unfold RU;infer_instance
def O2(l:List Nat)(W H R B K Q D F:Int):List Ch×Int:=if RU W H R B K Q D F then Qm l K W H else ([],110)
theorem aDB{l:List Nat}{W H R B K Q D F:Int}(h:¬ RU W H R B K Q D F):O2 l W H R B K Q D F=([],110):=if_neg h
theorem Ql{l:List Nat}{W H R B K Q D F:Int}(h:RU W H R B K Q D F):O2 l W H R B K Q D F=Qm l K W H:=if_pos h
theorem Zc{l:List Nat}{k W H:Int}{p:Nat}(hp:p<=3)(h:(Oi l k W H p).2.1≠0):Qm l k W H=([],(Oi l k W H p).2.1):=by
 have e:∀ q,(Oi l k W H p).2.1=(Oi l k W H (p+q)).2.1:=by
  intro q
  induction q with
  | zero=>rfl
  | succ q ih=>rw[← Nat.add_assoc,V2 (by rw[← ih];exact h)];exact ih
 have e3:=e (3-p)
 rw[show p+(3-p)=3 by omega] at e3
 unfold Qm;rw[if_neg (by rw[← e3];exact h),← e3]
theorem aAs{l:List Nat}{k W H:Int}(h:(Oi l k W H 3).2.1=0)(h2:Pb l (Oi l k W H 3).2.2≠0):Qm l k W H=([],130):=by unfold Qm;rw[if_pos h,if_neg h2]
theorem azZ{l:List Nat}{k W H:Int}(h:(Oi l k W H 3).2.1=0)(h2:Pb l (Oi l k W H 3).2.2=0):Qm l k W H=((Oi l k W H 3).1,0):=by unfold Qm;rw[if_pos h,if_pos h2]
def Nl(W H R B:Int)(f:FD):Prop:=PU W H R B/\PD f/\W=f.W/\H=f.H
instance (W H R B:Int) (f:FD):Decidable (Nl W H R B f):=by unfold Nl;infer_instance
def aDf(g h:FD)(q p:Int)(w i:Nat)(c:Ch)(F:FD):FD:=Qd F p (4*pX w i) (4*pY w i) (buB (VM F g h p (4*pX w i) (4*pY w i) c) c.b q)
def SU(g h:FD)(q p:Int)(w:Nat)(L:List Ch)(a:Nat)(F:FD):Nat->FD
 | 0=>F
 | i+1=>aDf g h q p w i (L.getD (a+i) W3) (SU g h q p w L a F i)
def MY(W H:Int):Nat->Nat
 | 0=>0
 | p+1=>MY W H p+Lk W p*Lk H p
def VK(g h:FD)(q W H:Int)(L:List Ch):Nat->FD
 | 0=>LR W H 0
 | p+1=>SU g h q p (Lk W p) L (MY W H p) (VK g h q W H L p) (Lk W p*Lk H p)
def N5(l:List Nat)(W H R B K Q D F:Int)(g h:FD):Int:=if RU W H R B K Q D F then (if (K≠0/\¬ Nl W H R B g)\/(K=2/\¬ Nl W H R B h) then 130 else (Qm l K W H).2) else 110
def MF(l:List Nat)(W H R B K Q D F:Int)(g h:FD):FD:=if N5 l W H R B K Q D F g h=0 then VK g h Q W H (Qm l K W H).1 3 else FD.none
theorem aBZ{l:List Nat}{W H R B K Q D F:Int}{g h:FD}(hn:¬ RU W H R B K Q D F):N5 l W H R B K Q D F g h=110:=if_neg hn
theorem aBw{l:List Nat}{W H R B K Q D F:Int}{g h:FD}(hm:RU W H R B K Q D F)(hn:(K≠0/\¬ Nl W H R B g)\/(K=2/\¬ Nl W H R B h)):N5 l W H R B K Q D F g h=130:=by unfold N5;rw[if_pos hm,if_pos hn]
theorem ZW{l:List Nat}{W H R B K Q D F:Int}{g h:FD}(hm:RU W H R B K Q D F)(hn:¬ ((K≠0/\¬ Nl W H R B g)\/(K=2/\¬ Nl W H R B h))):N5 l W H R B K Q D F g h=(Qm l K W H).2:=by unfold N5;rw[if_pos hm,if_neg hn]
theorem Yv{l:List Nat}{W H R B K Q D F:Int}{g h:FD}(hn:N5 l W H R B K Q D F g h≠0):MF l W H R B K Q D F g h=FD.none:=if_neg hn
theorem Z9{l:List Nat}{W H R B K Q D F:Int}{g h:FD}(hn:N5 l W H R B K Q D F g h=0):MF l W H R B K Q D F g h=VK g h Q W H (Qm l K W H).1 3:=if_pos hn
theorem aCD{l:List Nat}{k:Int}{w:Nat}:∀ (m i:Nat) (t:ZG) (o:List Ch),(To l k w m i t o).2.1=0->(To l k w m i t o).1.length=o.length+m:=by
 intro m
 induction m with
 | zero=>intro i t o _;rfl
 | succ m ih =>
  intro i t o h
  by_cases hc:(Mt l k w i t).2.1=0
  ·rw[Uu hc] at h ⊢
   rw[ih _ _ _ h,List.length_append];simp;omega
  ·rw[Yu hc] at h;exact absurd h hc
theorem W7{l:List Nat}{k W H:Int}:∀ p,(Oi l k W H p).2.1=0->(Oi l k W H p).1.length=MY W H p:=by
 intro p
 induction p with
 | zero=>intro _;rfl
 | succ p ih =>
  intro h
  by_cases hc:(Oi l k W H p).2.1=0
  ·rw[UB hc] at h ⊢
   unfold Wh at h ⊢
   rw[aCD _ _ _ _ h,ih hc];rfl
  ·rw[V2 hc] at h;exact absurd h hc
theorem aBE{W:Int}(h:NQ W):((Lk W 0:Nat):Int)=W/4/\((Lk W 1:Nat):Int)=W/8/\((Lk W 2:Nat):Int)=W/8/\2<=Lk W 0/\Lk W 0<=16/\1<=Lk W 1/\Lk W 1<=8/\Lk W 2=Lk W 1/\Lk W 0=2*Lk W 1:=by
 unfold NQ at h
 have e0:Lk W 0=(W/4).toNat:=rfl
 have e1:Lk W 1=(W/8).toNat:=rfl
 have e2:Lk W 2=(W/8).toNat:=rfl
 rw[e0,e1,e2];omega
theorem aE7{w q r a b:Nat}(hr:r<w)(_ha:a<4)(hb:b<4):((4*q+a)*(4*w)+(4*r+b))/(4*w)=4*q+a/\((4*q+a)*(4*w)+(4*r+b))%(4*w)=4*r+b:=by
 have hc:4*r+b<4*w:=by omega
 constructor
 ·rw[Nat.add_comm,Nat.add_mul_div_right _ _ (by omega),Nat.div_eq_of_lt hc,Nat.zero_add]
 ·rw[Nat.add_comm,Nat.add_mul_mod_self_right,Nat.mod_eq_of_lt hc]
def Uv(w j:Nat):Nat:=j/(4*w)/4*w+j%(4*w)/4
theorem aDi{w i a b:Nat}(hw:0<w)(ha:a<4)(hb:b<4):Uv w ((4*(i/w)+a)*(4*w)+(4*(i%w)+b))=i:=by
 have h:=aE7 (w:=w) (q:=i/w) (r:=i%w) (Nat.mod_lt _ hw) ha hb
 unfold Uv
 rw[h.1,h.2,show (4*(i/w)+a)/4=i/w by omega,show (4*(i%w)+b)/4=i%w by omega]
 rw[Nat.mul_comm];exact Nat.div_add_mod i w
theorem ayP{w i j:Nat}(hw:0<w)(h:Uv w j=i):∃ k,k<16/\(4*(i/w)+k/4)*(4*w)+(4*(i%w)+k%4)=j:=by
 have hc:j%(4*w)<4*w:=Nat.mod_lt _ (by omega)
 have hr:j%(4*w)/4<w:=by omega
 have h1:i/w=j/(4*w)/4:=by
  rw[← h];unfold Uv;rw[Nat.add_comm,Nat.add_mul_div_right _ _ hw,Nat.div_eq_of_lt hr,Nat.zero_add]
 have h2:i%w=j%(4*w)/4:=by
  rw[← h];unfold Uv;rw[Nat.add_comm,Nat.add_mul_mod_self_right,Nat.mod_eq_of_lt hr]
 refine⟨4*(j/(4*w)%4)+j%(4*w)%4,by omega,?_⟩
 rw[h1,h2]
 rw[show (4*(j/(4*w)%4)+j%(4*w)%4)/4=j/(4*w)%4 by omega,show (4*(j/(4*w)%4)+j%(4*w)%4)%4=j%(4*w)%4 by omega,
  show 4*(j/(4*w)/4)+j/(4*w)%4=j/(4*w) by omega,show 4*(j%(4*w)/4)+j%(4*w)%4=j%(4*w) by omega]
 rw[Nat.mul_comm];exact Nat.div_add_mod j (4*w)
theorem aBM{w n j:Nat}(hw:0<w)(h:j<4*w*(4*n)):Uv w j<w*n:=by
 have hc:j%(4*w)<4*w:=Nat.mod_lt _ (by omega)
 have hq:j/(4*w)<4*n:=by rw[Nat.div_lt_iff_lt_mul (by omega),Nat.mul_comm];exact h
 unfold Uv
 have h1:j/(4*w)/4+1<=n:=by omega
 have h2:(j/(4*w)/4+1)*w<=n*w:=Nat.mul_le_mul_right w h1
 rw[Nat.add_mul,Nat.one_mul] at h2
 rw[Nat.mul_comm w n]
 omega
theorem VR{f:FD}(h:PD f){p:Nat}(hp:p<3):Lc f (p:Int)=(((4*Lk f.W p:Nat):Int),((4*Lk f.H p:Nat):Int)):=by
 have hW:=(MK _).1 h.1
 have hH:=(MK _).1 h.2.1
 by_cases h0:p=0
 ·subst h0
  rw[Vp h (by rfl)]
  have e1:Lk f.W 0=(f.W/4).toNat:=rfl
  have e2:Lk f.H 0=(f.H/4).toNat:=rfl
  rw[e1,e2];exact Prod.ext (by simp only;omega) (by simp only;omega)
 ·rw[Vq h (by omega) (by omega) (by omega),PH (by omega),PH (by omega)]
  have e1:Lk f.W p=(f.W/8).toNat:=if_neg h0
  have e2:Lk f.H p=(f.H/8).toNat:=if_neg h0
  rw[e1,e2];exact Prod.ext (by simp only;omega) (by simp only;omega)
theorem aFJ{f:FD}(hB:PY f)(p:Int):∀ z∈f.pl p,z<256:=by
 unfold FD.pl
 split
 ·exact hB.b0
 ·split
  ·exact hB.b1
  ·exact hB.b2
def agr(F f:FD)(p:Int)(w i:Nat):Prop:=∀ j,j<(f.pl p).length->Uv w j<i->(F.pl p).getD j 0=(f.pl p).getD j 0
theorem X5{F:FD}(hF:PD F){p w n i:Nat}(hp:p<3)(hw:0<w)(hs:Lc F (p:Int)=(((4*w:Nat):Int),((4*n:Nat):Int)))(hi:i<w*n):Sn F (p:Int) (4*pX w i) (4*pY w i):=by
 have h1:i%w<w:=Nat.mod_lt _ hw
 have h2:i/w<n:=by rw[Nat.div_lt_iff_lt_mul hw,Nat.mul_comm];exact hi
 refine⟨hF,by omega,by omega,?_,?_,?_,?_⟩
 ·unfold pX;omega
 ·rw[hs];simp only;unfold pX;omega
 ·exact Int.mul_nonneg (by decide) (Int.natCast_nonneg _)
 ·rw[hs];simp only;unfold pY;omega
theorem Yw{F:FD}{p w n i k:Nat}(hs:Lc F (p:Int)=(((4*w:Nat):Int),((4*n:Nat):Int))):jAt F (p:Int) (4*pX w i) (4*pY w i) k=(4*(i/w)+k/4)*(4*w)+(4*(i%w)+k%4):=by
 unfold jAt pX pY
 rw[hs]
 simp only
 have e:(4*((i/w:Nat):Int)+((k/4:Nat):Int))*((4*w:Nat):Int)+(4*((i%w:Nat):Int)+((k%4:Nat):Int))=(((4*(i/w)+k/4)*(4*w)+(4*(i%w)+k%4):Nat):Int):=by
  rw[Int.natCast_add,Int.natCast_mul,Int.natCast_add,Int.natCast_mul,Int.natCast_add,Int.natCast_mul];rfl
 rw[e,Int.toNat_natCast]
theorem aAq{F f:FD}{p w n i:Nat}(hF:PD F)(hf:PD f)(hB:PY f)(hW:F.W=f.W)(hH:F.H=f.H)(hp:p<3)(hs:Lc f (p:Int)=(((4*w:Nat):Int),((4*n:Nat):Int)))(hw:0<w)(hi:i<w*n)(b:Nat->Int)
  (hb:∀ k,k<16->b k=VG f (p:Int) (4*pX w i) (4*pY w i) k) (ha:agr F f (p:Int) w i):agr (Qd F (p:Int) (4*pX w i) (4*pY w i) b) f (p:Int) w (i+1):=by
 have hsF:Lc F (p:Int)=(((4*w:Nat):Int),((4*n:Nat):Int)):=by rw[← hs];exact Ym hf hF hW hH _
 have hI:=X5 hF hp hw hsF hi
 have hJ:=X5 hf hp hw hs hi
 have hlen:(F.pl (p:Int)).length=(f.pl (p:Int)).length:=by
  have a1:=(NW (f:=F) (p:=p) ⟨hF,hI.k0,hI.k2⟩).2.2
  have a2:=(NW (f:=f) (p:=p) ⟨hf,hI.k0,hI.k2⟩).2.2
  rw[hsF] at a1;rw[hs] at a2;omega
 intro j hj hlt
 rw[show Qd F (p:Int) (4*pX w i) (4*pY w i) b=MU F (p:Int) (4*pX w i) (4*pY w i) b 16 from rfl,(aDm hI b 16 (Nat.le_refl _)).1]
 by_cases hji:Uv w j=i
 ·obtain⟨k,hk,e⟩:=ayP hw hji
  have ek:jAt F (p:Int) (4*pX w i) (4*pY w i) k=j:=(Yw hsF).trans e
  have efk:jAt f (p:Int) (4*pX w i) (4*pY w i) k=j:=(Yw hs).trans e
  have h1:=aAw (F.pl (p:Int)) (jAt F (p:Int) (4*pX w i) (4*pY w i)) (fun i=>L6 (b i)) 16 (fun a a' ha ha'=>hI.inj a a' ha ha') k hk (by rw[ek,hlen];exact hj)
  rw[ek] at h1
  rw[h1,hb k hk,aEO hJ k hk,efk]
  have:=Rk (aFJ hB (p:Int)) j
  unfold L6;omega
 ·rw[X9 _ _ _ _ 16 (fun k hk e=>hji (by rw[← e,Yw hsF];exact aDi hw (by omega) (by omega)))]
  exact ha j hj (by omega)
theorem aDW{F f:FD}{p w n:Nat}(hF:PD F)(hf:PD f)(hW:F.W=f.W)(hH:F.H=f.H)(hp:p<3)(hs:Lc f (p:Int)=(((4*w:Nat):Int),((4*n:Nat):Int)))(hw:0<w)(ha:agr F f (p:Int) w (w*n)):F.pl (p:Int)=f.pl (p:Int):=by
 have hsF:Lc F (p:Int)=(((4*w:Nat):Int),((4*n:Nat):Int)):=by rw[← hs];exact Ym hf hF hW hH _
 have a1:=(NW (f:=F) (p:=p) ⟨hF,by omega,by omega⟩).2.2
 have a2:=(NW (f:=f) (p:=p) ⟨hf,by omega,by omega⟩).2.2
 rw[hsF] at a1;rw[hs] at a2
 have hl:(f.pl (p:Int)).length=4*w*(4*n):=by simp only at a2;rw[← Int.natCast_mul] at a2;exact(Int.ofNat.inj a2).symm
 apply List.ext_getElem (by omega)
 intro j h1 h2
 have e:∀ (m:List Nat) (h:j<m.length),m[j]=m.getD j 0:=fun m h=>by simp[List.getD,h]
 rw[e _ h1,e _ h2]
 exact ha j h2 (aBM hw (by omega))
theorem ayR{g h f F:FD}{q:Int}{p w n a:Nat}{L:List Ch}(hF:PD F)(hf:PD f)(hB:PY f)(hW:F.W=f.W)(hH:F.H=f.H)(hp:p<3)(hs:Lc f (p:Int)=(((4*w:Nat):Int),((4*n:Nat):Int)))(hw:0<w)
  (hL:∀ i,i<w*n->∀ G:FD,∀ k,k<16->buB (VM G g h (p:Int) (4*pX w i) (4*pY w i) (L.getD (a+i) W3)) (L.getD (a+i) W3).b q k=VG f (p:Int) (4*pX w i) (4*pY w i) k) :
  ∀ i,i<=w*n->PD (SU g h q (p:Int) w L a F i)/\(SU g h q (p:Int) w L a F i).W=f.W/\(SU g h q (p:Int) w L a F i).H=f.H/\agr (SU g h q (p:Int) w L a F i) f (p:Int) w i/\∀ r:Int,0<=r->r<=2->r≠(p:Int)->(SU g h q (p:Int) w L a F i).pl r=F.pl r:=by
 intro i
 induction i with
 | zero=>intro _;exact⟨hF,hW,hH,fun j _ hlt=>absurd hlt (by omega),fun _ _ _ _=>rfl⟩
 | succ i ih =>
  intro hi
  obtain⟨i1,i2,i3,i4,i5⟩:=ih (by omega)
  have hsF:Lc (SU g h q (p:Int) w L a F i) (p:Int)=(((4*w:Nat):Int),((4*n:Nat):Int)):=by rw[← hs];exact Ym hf i1 i2 i3 _
  have hI:=X5 (n:=n) i1 hp hw hsF (show i<w*n by omega)
  have hsd:=RH (SU g h q (p:Int) w L a F i) (p:Int) (4*pX w i) (4*pY w i) (buB (VM (SU g h q (p:Int) w L a F i) g h (p:Int) (4*pX w i) (4*pY w i) (L.getD (a+i) W3)) (L.getD (a+i) W3).b q) 16
  rw[NL i1] at hsd
  refine⟨aB8 i1 _ _ _ _ 16,hsd.1.trans i2,hsd.2.1.trans i3,aAq i1 hf hB i2 i3 hp hs hw (by omega) _ (hL i (by omega) _) i4,fun r r0 r2 rn=>?_⟩
  exact((aDm hI _ 16 (Nat.le_refl _)).2 r r0 r2 rn).trans (i5 r r0 r2 rn)
theorem XS{g h f:FD}{q:Int}{L:List Ch}(hf:PD f)(hB:PY f)
  (hL:∀ p,p<3->∀ i,i<Lk f.W p*Lk f.H p->∀ G:FD,∀ k,k<16->buB (VM G g h (p:Int) (4*pX (Lk f.W p) i) (4*pY (Lk f.W p) i) (L.getD (MY f.W f.H p+i) W3)) (L.getD (MY f.W f.H p+i) W3).b q k=VG f (p:Int) (4*pX (Lk f.W p) i) (4*pY (Lk f.W p) i) k) :
  VK g h q f.W f.H L 3=f:=by
 have hw:∀ p,p<3->0<Lk f.W p:=fun p hp=>by
  have h4:=aBE (W:=f.W) (by have:=(MK _).1 hf.1;exact this)
  rcases (show p=0\/p=1\/p=2 by omega) with rfl|rfl|rfl <;> omega
 have key:∀ p,p<=3->PD (VK g h q f.W f.H L p)/\(VK g h q f.W f.H L p).W=f.W/\(VK g h q f.W f.H L p).H=f.H/\∀ r,r<p->(VK g h q f.W f.H L p).pl (r:Int)=f.pl (r:Int):=by
  intro p
  induction p with
  | zero =>
   intro _
   have e:VK g h q f.W f.H L 0=LR f.W f.H 0:=rfl
   rw[e]
   refine⟨YE 0 hf.1 hf.2.1,?_,?_,fun r hr=>absurd hr (by omega)⟩
   ·rw[Qe 0 hf.1 hf.2.1]
   ·rw[Qe 0 hf.1 hf.2.1]
  | succ p ih =>
   intro hp
   obtain⟨i1,i2,i3,i4⟩:=ih (by omega)
   obtain⟨d1,d2,d3,d4,d5⟩:=ayR (g:=g) (h:=h) (q:=q) (a:=MY f.W f.H p) (L:=L) i1 hf hB i2 i3 (by omega) (VR hf (by omega)) (hw p (by omega)) (hL p (by omega)) (Lk f.W p*Lk f.H p) (Nat.le_refl _)
   refine⟨d1,d2,d3,fun r hr=>?_⟩
   by_cases e:r=p
   ·subst e
    exact aDW d1 hf d2 d3 (by omega) (VR hf (by omega)) (hw r (by omega)) d4
   ·exact(d5 (r:Int) (by omega) (by omega) (by omega)).trans (i4 r (by omega))
 obtain⟨k1,k2,k3,k4⟩:=key 3 (Nat.le_refl _)
 exact FD.eq k2 k3 (k4 0 (by omega)) (k4 1 (by omega)) (k4 2 (by omega))
theorem aB7{W H R B:Int}{f:FD}:Nl W H R B f↔PB W H R B=0/\NU f=0/\W=f.W/\H=f.H:=by
 unfold Nl PB
 rw[MP]
 by_cases h:PU W H R B
 ·rw[if_pos h];simp[h]
 ·rw[if_neg h];simp[h]
theorem Qb{n:Int}(h:NQ n):Mz n=true:=(MK _).2 h
def Pa:List Nat:=Mi (List.replicate 12 true++Ln 12)
set_option maxRecDepth 1000000 in
theorem aCf:(Qm Pa 0 8 8).2=0/\(Qm Pa 0 8 8).1.length=6:=by decide +kernel
set_option maxRecDepth 1000000 in
theorem aEP:N5 Pa 8 8 100 1000 0 0 0 0 FD.none FD.none=0:=by decide +kernel
set_option maxRecDepth 1000000 in
theorem aBW:N5 Pa 8 8 100 1000 1 0 0 0 FD.none FD.none=130/\(Qm (Pa ++ [0]) 0 8 8).2=130:=by decide +kernel
set_option maxRecDepth 1000000 in
theorem aFX:Q6 (MF Pa 8 8 100 1000 0 0 0 0 FD.none FD.none) (LR 8 8 128)=true:=by decide +kernel
abbrev Nh(m:Int):Ch:=⟨m,0,0,0,0,fun _=>0⟩
def Vt(m:Int)(c:Ch):Prop:=c.m=m/\c.px=0/\c.py=0/\c.nx=0/\c.ny=0/\∀ i,i<16->c.b i=0
theorem aDl{m:Int}{d:Ch}(h:X2 d (Nh m)=true):Vt m d:=by
 unfold X2 at h
 simp only[Bool.and_eq_true] at h
 obtain⟨h1,h2,h3,h4⟩:=h
 have e2:=ZO h2
 have e3:=ZO h3
 simp only[List.cons.injEq,and_true] at e2 e3
 exact⟨of_decide_eq_true h1,e2.1,e2.2,e3.1,e3.2,Vg.1 h4⟩
theorem aBd:chE 1 (Nh 4)=0:=aEH ⟨by decide,by decide,by decide,fun i _=>by simp,by decide,by decide⟩
theorem aA7:chE 2 (Nh 6)=0:=aEH ⟨by decide,by decide,by decide,fun i _=>by simp,by decide,by decide⟩
theorem Z3:Nz (Nh 4) 0 0 0 0=LT 4 ++ [true,true,true]:=by decide +kernel
theorem ZU:Nz (Nh 6) 0 0 0 0=LT 6 ++ [true,true,true,true,true]:=by decide +kernel
def XN(f:VF):Prop:=∀ x y,f.X x y=0/\f.Y x y=0
theorem aBY(w h:Int):XN (Qo w h):=fun _ _=>⟨rfl,rfl⟩
theorem aDa{f:VF}(h:XN f)(x y:Int):XN (RA f x y 0 0):=by
 unfold RA;split
 ·intro a b
  show (if a=x/\b=y then (0:Int) else f.X a b)=0/\(if a=x/\b=y then (0:Int) else f.Y a b)=0
  rw[(h a b).1,(h a b).2]
  constructor <;> split <;> rfl
 ·exact h
theorem aFM{f:VF}(h:XN f)(x y:Int):gX f x y=0/\gY f x y=0:=by
 unfold gX gY;simp only[(h _ _).1,(h _ _).2];exact⟨XC 0,XC 0⟩
def LG(b:List Bool):Nat->List Bool
 | 0=>[]
 | n+1=>LG b n++b
theorem Re(b:List Bool)(n:Nat):(LG b n).length=b.length*n:=by
 induction n with
 | zero=>rfl
 | succ n ih=>show (LG b n++b).length=_;rw[List.length_append,ih,Nat.mul_succ]
theorem aD6{l:List Nat}{b:List Bool}:∀ n,Nn l 0 (LG b n)->∀ i,i<n->Nn l (b.length*i) b:=by
 intro n
 induction n with
 | zero=>intro _ i hi;omega
 | succ n ih =>
  intro h i hi
  have h':Nn l 0 (LG b n++b):=h
  by_cases e:i=n
  ·subst e
   have:=h'.right
   rw[Nat.zero_add,Re] at this;exact this
  ·exact ih h'.left i (by omega)
theorem aBf{l:List Nat}{k m:Int}{w N:Nat}(hk:chE k (Nh m)=0)(hb:∀ i,i<N->Nn l ((Nz (Nh m) 0 0 0 0).length*i) (Nz (Nh m) 0 0 0 0)) :
  ∀ (M i j:Nat) (t:ZG) (o:List Ch),XN t.a->XN t.b->t.s=some ((Nz (Nh m) 0 0 0 0).length*j)->j+M<=N->(∀ c∈o,Vt m c) →
   (To l k w M i t o).2.1=0/\(To l k w M i t o).2.2=some ((Nz (Nh m) 0 0 0 0).length*(j+M))/\∀ c∈(To l k w M i t o).1,Vt m c:=by
 intro M
 induction M with
 | zero=>intro i j t o _ _ hs _ ho;exact⟨rfl,hs,ho⟩
 | succ M ih =>
  intro i j t o ha hb' hs hj ho
  have hg:=aFM ha (pX w i) (pY w i)
  have hg':=aFM hb' (pX w i) (pY w i)
  obtain⟨d,e1,e2⟩:=aD2 (l:=l) (a:=(Nz (Nh m) 0 0 0 0).length*j) (k:=k) (c:=Nh m) (ax:=0) (ay:=0) (bx:=0) (yy:=0) hk (hb j (by omega))
  have hc:Mt l k w i t=(d,0,some ((Nz (Nh m) 0 0 0 0).length*j+(Nz (Nh m) 0 0 0 0).length)):=by
   unfold Mt;rw[hg.1,hg.2,hg'.1,hg'.2,hs,e1]
  have hd:=aDl e2
  rw[Uu (by rw[hc])]
  have ht:azc l k w i t=⟨RA t.a (pX w i) (pY w i) 0 0,RA t.b (pX w i) (pY w i) 0 0,some ((Nz (Nh m) 0 0 0 0).length*(j+1))⟩:=by
   unfold azc;rw[hc]
   show ZG.mk (RA t.a (pX w i) (pY w i) d.px d.py) (RA t.b (pX w i) (pY w i) d.nx d.ny) _=_
   rw[hd.2.1,hd.2.2.1,hd.2.2.2.1,hd.2.2.2.2.1,Nat.mul_succ]
  rw[ht,hc]
  have:=ih (i+1) (j+1) ⟨RA t.a (pX w i) (pY w i) 0 0,RA t.b (pX w i) (pY w i) 0 0,some ((Nz (Nh m) 0 0 0 0).length*(j+1))⟩ (o ++ [d]) (aDa ha _ _) (aDa hb' _ _) rfl (by omega) (fun c hc=>by
   rcases List.mem_append.1 hc with h|h
   ·exact ho c h
   ·rw[List.mem_singleton.1 h];exact hd)
  rw[show j+(M+1)=j+1+M by omega]
  exact this
theorem ayQ{l:List Nat}{k m W H:Int}{N:Nat}(hk:chE k (Nh m)=0)(hb:∀ i,i<N->Nn l ((Nz (Nh m) 0 0 0 0).length*i) (Nz (Nh m) 0 0 0 0)) :
  ∀ p,MY W H p<=N->(Oi l k W H p).2.1=0/\(Oi l k W H p).2.2=some ((Nz (Nh m) 0 0 0 0).length*MY W H p)/\∀ c∈(Oi l k W H p).1,Vt m c:=by
 intro p
 induction p with
 | zero=>intro _;exact⟨rfl,rfl,fun c hc=>absurd hc (by simp[Oi])⟩
 | succ p ih =>
  intro hp
  have hp':MY W H p+Lk W p*Lk H p<=N:=hp
  obtain⟨i1,i2,i3⟩:=ih (by omega)
  rw[UB i1]
  unfold Wh
  exact aBf (k:=k) hk hb _ 0 (MY W H p) ⟨Qo (Lk W p) (Lk H p),Qo (Lk W p) (Lk H p),(Oi l k W H p).2.2⟩ _ (aBY _ _) (aBY _ _) i2 hp' i3
theorem ayS{k m W H:Int}(hk:chE k (Nh m)=0)(P:List Nat)(hP:P=Mi (LG (Nz (Nh m) 0 0 0 0) (MY W H 3)++Ln (LG (Nz (Nh m) 0 0 0 0) (MY W H 3)).length))(hs:(LG (Nz (Nh m) 0 0 0 0) (MY W H 3)).length+8<1099511627776) :
  (Qm P k W H).2=0/\(Qm P k W H).1.length=MY W H 3/\∀ i,i<MY W H 3->Vt m ((Qm P k W H).1.getD i W3):=by
 have hb:Nn P 0 (LG (Nz (Nh m) 0 0 0 0) (MY W H 3)):=by rw[hP];exact YK _ _
 obtain⟨h1,h2,h3⟩:=ayQ (l:=P) (k:=k) (m:=m) (W:=W) (H:=H) (N:=MY W H 3) hk (aD6 _ hb) 3 (Nat.le_refl _)
 have hd:Pb P (Oi P k W H 3).2.2=0:=by rw[h2,← Re,hP];exact aBO _ hs
 rw[azZ h1 hd]
 refine⟨rfl,W7 3 h1,fun i hi=>?_⟩
 have hl:=W7 3 h1
 show Vt m ((Oi P k W H 3).1.getD i W3)
 rw[List.getD_eq_getElem?_getD,List.getElem?_eq_getElem (by omega)]
 exact h3 _ (List.getElem_mem _)
theorem Zt{b l:Nat->Int}{k:Nat}(hk:k<21)(hl:∀ i,i<16->l i=0){j:Nat}(hb:0<=b j/\b j<=255):buB b l k j=b j:=by
 rw[aDn (az5 hk)]
 have hu:∀ i,i<16->SC 1048576 (TC l (k:Int)) i=(fun _=>(0:Int)) i:=fun i hi=>by
  show cl 1048576 (TC l (k:Int) i)=0
  rw[aF5 (az5 hk),hl i hi,show cl 1048576 0=0 by decide,Int.zero_mul];decide
 have e:Ov (TC l (k:Int)) j=0:=by unfold Ov;rw[XZ hu,ZV];exact(by decide:rnd 0=0)
 show min (max (SC 1048576 b j+cl 1048576 (Ov (TC l (k:Int)) j)) 0) 255=b j
 rw[e,show SC 1048576 b j=b j from azD _ _ (by omega) (by omega),show cl 1048576 0=0 by decide];omega
theorem YV{f:FD}{p x y:Int}(hp:Ni f p x y){j:Nat}(hj:j<16):PC f p x y 0 0=0/\U2 f p x y 0 0 j=VG f p x y j:=by
 have h:=O9 (X:=0) (Y:=0) hp (by decide)
 refine⟨h.1,?_⟩
 rw[h.2]
 have:=aEj (f:=f) (k:=p) (u:=x) (t:=y) (a:=0) (c:=0) ⟨hp.2.2.2.1,hp.2.2.2.2.1⟩ ⟨hp.2.2.2.2.2.1,hp.2.2.2.2.2.2⟩ (by omega) (by omega) j hj
 rw[Int.add_zero,Int.add_zero] at this
 exact this
theorem UU{f:FD}(h:PD f){p i:Nat}(hp:p<3)(hi:i<Lk f.W p*Lk f.H p)(hw:0<Lk f.W p):Ni f (p:Int) (4*pX (Lk f.W p) i) (4*pY (Lk f.W p) i):=by
 have hI:=X5 (n:=Lk f.H p) h hp hw (VR h hp) hi
 have hs:=VR h hp
 have hW:=(MK _).1 h.1
 have hH:=(MK _).1 h.2.1
 have h4:=aBE (W:=f.W) hW
 have h4':=aBE (W:=f.H) hH
 have x1:=hI.x1
 have y1:=hI.y1
 rw[hs] at x1 y1
 simp only at x1 y1
 have bw:Lk f.W p<=16/\Lk f.H p<=16:=by
  rcases (show p=0\/p=1\/p=2 by omega) with rfl|rfl|rfl <;> omega
 exact⟨h,by omega,by omega,hI.x0,by omega,hI.y0,by omega⟩
theorem ay6{W H:Int}{p i:Nat}(hp:p<3)(hi:i<Lk W p*Lk H p):MY W H p+i<MY W H 3:=by
 have e3:MY W H 3=MY W H 2+Lk W 2*Lk H 2:=rfl
 have e2:MY W H 2=MY W H 1+Lk W 1*Lk H 1:=rfl
 have e1:MY W H 1=MY W H 0+Lk W 0*Lk H 0:=rfl
 rcases (show p=0\/p=1\/p=2 by omega) with rfl|rfl|rfl <;> omega
theorem aAB{h f:FD}{q:Nat}{L:List Ch}(hf:PD f)(hB:PY f)(hq:q<21)(hL:∀ i,i<MY f.W f.H 3->Vt 4 (L.getD i W3)):VK f h q f.W f.H L 3=f:=by
 refine XS hf hB fun p hp i hi G k hk=>?_
 have hw:0<Lk f.W p:=Nat.pos_of_ne_zero fun e=>by rw[e,Nat.zero_mul] at hi;omega
 have hpl:=UU hf hp hi hw
 have hc:=hL (MY f.W f.H p+i) (ay6 hp hi)
 have hm:=YV hpl hk
 have e:VM G f h (p:Int) (4*pX (Lk f.W p) i) (4*pY (Lk f.W p) i) (L.getD (MY f.W f.H p+i) W3) k=VG f (p:Int) (4*pX (Lk f.W p) i) (4*pY (Lk f.W p) i) k:=by
  rw[(Ua hc.1).1,hc.2.1,hc.2.2.1];exact hm.2
 rw[Zt hq hc.2.2.2.2.2 (by rw[e];exact azF hB _ _ _ _),e]
theorem aAI{f:FD}{q:Nat}{L:List Ch}(hf:PD f)(hB:PY f)(hq:q<21)(hL:∀ i,i<MY f.W f.H 3->Vt 6 (L.getD i W3)):VK f f q f.W f.H L 3=f:=by
 refine XS hf hB fun p hp i hi G k hk=>?_
 have hw:0<Lk f.W p:=Nat.pos_of_ne_zero fun e=>by rw[e,Nat.zero_mul] at hi;omega
 have hpl:=UU hf hp hi hw
 have hc:=hL (MY f.W f.H p+i) (ay6 hp hi)
 have hm:=YV hpl hk
 have hle:=azF hB (p:Int) (4*pX (Lk f.W p) i) (4*pY (Lk f.W p) i) k
 have e:VM G f f (p:Int) (4*pX (Lk f.W p) i) (4*pY (Lk f.W p) i) (L.getD (MY f.W f.H p+i) W3) k=VG f (p:Int) (4*pX (Lk f.W p) i) (4*pY (Lk f.W p) i) k:=by
  have h2:=X4 (f:=G) (p:=f) (n:=f) (k:=(p:Int)) (x:=4*pX (Lk f.W p) i) (y:=4*pY (Lk f.W p) i) (c:=L.getD (MY f.W f.H p+i) W3) hc.1 (by rw[hc.2.1,hc.2.2.1];exact hm.1) (by rw[hc.2.2.2.1,hc.2.2.2.2.1];exact hm.1)
  rw[h2.1,hc.2.1,hc.2.2.1,hc.2.2.2.1,hc.2.2.2.2.1,aBj _ _ (by rw[hm.2];exact hle)];exact hm.2
 rw[Zt hq hc.2.2.2.2.2 (by rw[e];exact hle),e]
open Go.RowKit
section
variable {P:Program} {ρ:Operand->Value} {o:Oper} {w:World} {R:Value->World->Prop}
theorem YG{t:TypeId}(ho:o.op = .alloc t)(hz:∀ w,(zeroValue t).run P w = .ok (.agg (Mp 16 (fun _=>0)).toArray) w)(h:R (.pointer (some ⟨w.heap.size,0,none⟩)) (w.alloc (.cells (Mp 16 (fun _=>0)).toArray t))):Lg P ρ o w R :=
 OJ (v:=.pointer (some ⟨w.heap.size,0,none⟩)) (w':=w.alloc (.cells (Mp 16 (fun _=>0)).toArray t)) (by simp[execOp,ho,hz,go_sem]) h
end
open Go.RowKit
structure Thm where
  B:Value->(Nat->Prop)->World->Prop
  st:∀ (v:Value) (w w':World) (S T:Nat->Prop),B v T w->KR S w w'->KO T S->B v T w'
  li:∀ (v:Value) (w:World) (T:Nat->Prop),B v T w->PI w T
inductive Pm where
  | eq (v:Value)
  | new (t:Thm)
structure Eld where
  A:World->Prop
  T:Nat->Prop
  st:∀ (w w':World) (S:Nat->Prop),A w->KR S w w'->KO T S->A w'
  li:∀ w,A w->PI w T
open Go.RowKit
theorem MR:Rf Tryz.prog 23 4:=⟨_,Tryz.underlying23,rfl,by kernel_rfl⟩
theorem Tl:Rf Tryz.prog 25 4:=⟨_,Tryz.underlying25,rfl,by kernel_rfl⟩
theorem aF2{n:Int}(h:8<=n):Int.tmod n 8=n%8:=Int.tmod_eq_emod_of_nonneg (by omega)
open Go.RowKit
def VD:Uj Ch:={ t:=32,e:=71,k:=21,by_:=168,enc:=chV,d:=⟨0,0,0,0,0,fun _=>0⟩,z:=.agg (chV ⟨0,0,0,0,0,fun _=>0⟩).toArray }
instance rCh_ok:Uj.Ok VD:=⟨Tryz.underlying32,by kernel_rfl,rfl,by decide,fun _=>rfl,fun c=>aE0 c,by decide⟩
open Go.RowKit
theorem aE9{W H R B:Int}(h:PB W H R B=0):PU W H R B:=Decidable.byContradiction fun hn=>by unfold PB at h;rw[if_neg hn] at h;cases h
theorem SJ{W H R B:Int}(h:PU W H R B):8<=W/\W<=64/\W%8=0/\8<=H/\H<=64/\H%8=0:=by
 obtain⟨h1,h2,_⟩:=h;unfold NQ at h1 h2;omega
theorem aED{W:Int}{p:Nat}(h0:0<=W)(hp:p=0):Int.tdiv W 4=((Lk W p:Nat):Int):=by
 rw[Int.tdiv_eq_ediv_of_nonneg h0];unfold Lk;rw[if_pos hp];omega
theorem Pe{W:Int}{p:Nat}(h:W<=64):Lk W p<=16:=by unfold Lk;split <;> omega
theorem aBq{w i:Nat}(hw:0<w)(h16:w<=16)(hi:i<=256):0<=pX w i/\pX w i<=16/\0<=pY w i/\pY w i<=256:=by
 have h1:=Nat.mod_lt i hw
 have h2:=Nat.div_le_self i w
 refine⟨Int.natCast_nonneg _,Int.ofNat_le.2 (show i%w<=16 by omega),Int.natCast_nonneg _,Int.ofNat_le.2 (show i/w<=256 by omega)⟩
theorem Uq{W H R B:Int}{f:FD}{b:Bool}(h:b=true↔PB W H R B=0/\NU f=0/\W=f.W/\H=f.H):b=decide (Nl W H R B f):=by
 rw[Bool.eq_iff_iff,decide_eq_true_iff];exact h.trans aB7.symm
open Go.RowKit
theorem Rn(n:Int):IntKind.u8.wrap (max 0 (min n 255))=((L6 n:Nat):Int):=by rw[show max 0 (min n 255)=min (max n 0) 255 by omega];exact aDx n
theorem Ye(b:Nat->Int)(i:Nat)(w0:World)(hi:i<4) :
  Calls Tryz.prog 79 #[LW (b),.int .i64 (((i:Nat):Int))] w0 fun e w'=>e = .returned (.agg #[.int .u8 (((L6 (b (i*4)):Nat):Int)),.int .u8 (((L6 (b (i*4+1)):Nat):Int)),.int .u8 (((L6 (b (i*4+2)):Nat):Int)),.int .u8 (((L6 (b (i*4+3)):Nat):Int))])/\KR (fun _=>False) w0 w':=by
 refine Ly (args:=[LW b,iv ((i:Nat):Int)]) 22 Tryz.func79 rfl rfl (Nat.le_of_ble_eq_true rfl) ?_
 refine KM (KL (Ny rfl rfl rfl rfl fun p1 w2 e5 B3 k4=>?_))
 have g6:=L7 (Nat.le_of_eq e5.symm)
 clear e5 g6
 have K8:=(KR.refl (fun _=>False) w0).tr k4
 refine LN (n:=4) (vs:=[.int .u8 0,.int .u8 0,.int .u8 0,.int .u8 0]) rfl rfl rfl (by kernel_rfl) fun p9 bL aD aZ aE=>?_
 have aF:=B3.all aE id
 have aG:=K8.tr aE
 refine KQ ?_
 have af:=K4 (iv ((i:Nat):Int))
 have a8:=K4 (undef)
 have ah:=K4 (pt p1 0)
 have aH:=K4 (pt p9 0)
 refine KK (KM (KL (LN (n:=4) (vs:=[.int .u8 0,.int .u8 0,.int .u8 0,.int .u8 0]) rfl rfl rfl (by kernel_rfl) fun aa bM a9 aI aJ=>?_)))
 have ai:=KS.new aG aI
 obtain⟨ak,aj⟩:=UJ aI aF aD
 obtain⟨aK,ba⟩:=Oe aJ aF aD
 refine KQ ?_
 have ae:=K4 (pt aa 0)
 refine KK (KM (KM (KL (KN (iv 0) rr (KT rfl rfl rr) (KQ ?_)))))
 have am:=K4 (iv 0)
 refine KK (Lm (OL 5 (Mh (KM (KL (KN (.bool true) rr (Mc rfl am rfl rfl rr) (KQ ?_)))))))
 have bb:=K4 (.bool true)
 refine KK (KM ?_)
 refine K5 (t:=true) bb (fun _=>?_) (fun e=>by cases e)
 refine Lf (KK (KM (Lm (KM (KL (K2 Lw am (Lb (iv 0) LE (KQ ?_))))))))
 have aL:=K4 (iv 0)
 refine KK (KL (K2 Lw aL (K2 Lw af (KN (iv (((i*4):Nat):Int)) rr (Nb rfl rfl rfl (LX (by omega) (by omega)) rr) (K2 Lw aL (KN (iv (((i*4+0):Nat):Int)) rr (LS rfl rfl rfl (LX (by omega) (by omega)) rr) (KN (.pointer (some ⟨p1,(i*4+0),none⟩)) rr (L3 (i*4+0) (s:=1) rfl ah rfl (by omega) Tryz.underlying69 (by omega) (by kernel_rfl) (by omega) rr) (KN (iv (b (i*4+0))) rr (Pj rfl rfl Tryz.underlying3 (aK.cell (by omega)) rr) (L9 rfl rfl rfl rfl rfl (fun _ _=>by kernel_rfl) (Lo rfl (Lo rfl (Lo rfl L5))) (OA (b (i*4+0)) 0 255  _   ) fun bN aM=>?_)))))))))
 obtain⟨bc,bd,be⟩:=Od aM aK ba a9
 refine KN (.int .u8 ((L6 (b (i*4+0)):Nat):Int)) rr (N1 rfl rfl Tryz.underlying3 Tryz.underlying5 (by first|exact Rn _|exact Rn (b (i*4+0))) rr) (KN (pt aa 0) rr (L3 0 (s:=1) rfl ae rfl (by omega) Tryz.underlying123 (by omega) (by kernel_rfl) (by omega) rr) (Nx rfl rfl rfl rfl rfl be rfl rfl (by kernel_rfl) fun bf an ao=>?_))
 replace an:MJ bf aa 123 [.int .u8 ((L6 (b (i*4+0)):Nat):Int),.int .u8 0,.int .u8 0,.int .u8 0]:=an
 have aN:=bc.all ao (ak.symm p1 rfl)
 have bg:=bd.all ao (aj.symm p9 rfl)
 refine KQ ?_
 refine Lz (KK (KL (KN (iv ((1:Nat):Int)) rr (LS rfl am rfl (LX (by omega) (by omega)) rr) (KN (iv ((1:Nat):Int)) rr (KT rfl rfl rr) (KQ ?_)))))
 have ap:=K4 (iv ((1:Nat):Int))
 refine KK (Mh (KM (KL (KN (.bool true) rr (Mc rfl ap rfl rfl rr) (KQ ?_)))))
 have bh:=K4 (.bool true)
 refine KK (KM ?_)
 refine K5 (t:=true) bh (fun _=>?_) (fun e=>by cases e)
 refine Lf (KK (KM (Lm (KM (KL (K2 Lw ap (Lb (iv ((1:Nat):Int)) LE (KQ ?_))))))))
 have aO:=K4 (iv ((1:Nat):Int))
 refine KK (KL (K2 Lw aO (K2 Lw af (KN (iv (((i*4):Nat):Int)) rr (Nb rfl rfl rfl (LX (by omega) (by omega)) rr) (K2 Lw aO (KN (iv (((i*4+1):Nat):Int)) rr (LS rfl rfl rfl (LX (by omega) (by omega)) rr) (KN (.pointer (some ⟨p1,(i*4+1),none⟩)) rr (L3 (i*4+1) (s:=1) rfl ah rfl (by omega) Tryz.underlying69 (by omega) (by kernel_rfl) (by omega) rr) (KN (iv (b (i*4+1))) rr (Pj rfl rfl Tryz.underlying3 (aN.cell (by omega)) rr) (L9 rfl rfl rfl rfl rfl (fun _ _=>by kernel_rfl) (Lo rfl (Lo rfl (Lo rfl L5))) (OA (b (i*4+1)) 0 255  _   ) fun bO aP=>?_)))))))))
 obtain⟨bi,bj,bl⟩:=Od aP aN bg an
 refine KN (.int .u8 ((L6 (b (i*4+1)):Nat):Int)) rr (N1 rfl rfl Tryz.underlying3 Tryz.underlying5 (by first|exact Rn _|exact Rn (b (i*4+0))) rr) (KN (pt aa 1) rr (L3 1 (s:=1) rfl ae rfl (by omega) Tryz.underlying123 (by omega) (by kernel_rfl) (by omega) rr) (Nx rfl rfl rfl rfl rfl bl rfl rfl (by kernel_rfl) fun bm aq ar=>?_))
 replace aq:MJ bm aa 123 [.int .u8 ((L6 (b (i*4+0)):Nat):Int),.int .u8 ((L6 (b (i*4+1)):Nat):Int),.int .u8 0,.int .u8 0]:=aq
 have aQ:=bi.all ar (ak.symm p1 rfl)
 have bn:=bj.all ar (aj.symm p9 rfl)
 refine KQ ?_
 refine Lz (KK (KL (KN (iv ((2:Nat):Int)) rr (LS rfl ap rfl (LX (by omega) (by omega)) rr) (KN (iv ((2:Nat):Int)) rr (KT rfl rfl rr) (KQ ?_)))))
 have au:=K4 (iv ((2:Nat):Int))
 refine KK (Mh (KM (KL (KN (.bool true) rr (Mc rfl au rfl rfl rr) (KQ ?_)))))
 have bo:=K4 (.bool true)
 refine KK (KM ?_)
 refine K5 (t:=true) bo (fun _=>?_) (fun e=>by cases e)
 refine Lf (KK (KM (Lm (KM (KL (K2 Lw au (Lb (iv ((2:Nat):Int)) LE (KQ ?_))))))))
 have aR:=K4 (iv ((2:Nat):Int))
 refine KK (KL (K2 Lw aR (K2 Lw af (KN (iv (((i*4):Nat):Int)) rr (Nb rfl rfl rfl (LX (by omega) (by omega)) rr) (K2 Lw aR (KN (iv (((i*4+2):Nat):Int)) rr (LS rfl rfl rfl (LX (by omega) (by omega)) rr) (KN (.pointer (some ⟨p1,(i*4+2),none⟩)) rr (L3 (i*4+2) (s:=1) rfl ah rfl (by omega) Tryz.underlying69 (by omega) (by kernel_rfl) (by omega) rr) (KN (iv (b (i*4+2))) rr (Pj rfl rfl Tryz.underlying3 (aQ.cell (by omega)) rr) (L9 rfl rfl rfl rfl rfl (fun _ _=>by kernel_rfl) (Lo rfl (Lo rfl (Lo rfl L5))) (OA (b (i*4+2)) 0 255  _   ) fun bP aS=>?_)))))))))
 obtain⟨bp,bq,bt⟩:=Od aS aQ bn aq
 refine KN (.int .u8 ((L6 (b (i*4+2)):Nat):Int)) rr (N1 rfl rfl Tryz.underlying3 Tryz.underlying5 (by first|exact Rn _|exact Rn (b (i*4+0))) rr) (KN (pt aa 2) rr (L3 2 (s:=1) rfl ae rfl (by omega) Tryz.underlying123 (by omega) (by kernel_rfl) (by omega) rr) (Nx rfl rfl rfl rfl rfl bt rfl rfl (by kernel_rfl) fun bu av aw=>?_))
 replace av:MJ bu aa 123 [.int .u8 ((L6 (b (i*4+0)):Nat):Int),.int .u8 ((L6 (b (i*4+1)):Nat):Int),.int .u8 ((L6 (b (i*4+2)):Nat):Int),.int .u8 0]:=av
 have bv:=bp.all aw (ak.symm p1 rfl)
 have bz:=bq.all aw (aj.symm p9 rfl)
 refine KQ ?_
 refine Lz (KK (KL (KN (iv ((3:Nat):Int)) rr (LS rfl au rfl (LX (by omega) (by omega)) rr) (KN (iv ((3:Nat):Int)) rr (KT rfl rfl rr) (KQ ?_)))))
 have az:=K4 (iv ((3:Nat):Int))
 refine KK (Mh (KM (KL (KN (.bool true) rr (Mc rfl az rfl rfl rr) (KQ ?_)))))
 have bA:=K4 (.bool true)
 refine KK (KM ?_)
 refine K5 (t:=true) bA (fun _=>?_) (fun e=>by cases e)
 refine Lf (KK (KM (Lm (KM (KL (K2 Lw az (Lb (iv ((3:Nat):Int)) LE (KQ ?_))))))))
 have aT:=K4 (iv ((3:Nat):Int))
 refine KK (KL (K2 Lw aT (K2 Lw af (KN (iv (((i*4):Nat):Int)) rr (Nb rfl rfl rfl (LX (by omega) (by omega)) rr) (K2 Lw aT (KN (iv (((i*4+3):Nat):Int)) rr (LS rfl rfl rfl (LX (by omega) (by omega)) rr) (KN (.pointer (some ⟨p1,(i*4+3),none⟩)) rr (L3 (i*4+3) (s:=1) rfl ah rfl (by omega) Tryz.underlying69 (by omega) (by kernel_rfl) (by omega) rr) (KN (iv (b (i*4+3))) rr (Pj rfl rfl Tryz.underlying3 (bv.cell (by omega)) rr) (L9 rfl rfl rfl rfl rfl (fun _ _=>by kernel_rfl) (Lo rfl (Lo rfl (Lo rfl L5))) (OA (b (i*4+3)) 0 255  _   ) fun bQ aU=>?_)))))))))
 obtain⟨bB,bC⟩:=Oe aU bz av
 have bD:=(((((((aG.tr aJ).tr aM).trans ao (KS.ok (S:=fun _=>False) ai KZ)).tr aP).trans ar (KS.ok (S:=fun _=>False) ai KZ)).tr aS).trans aw (KS.ok (S:=fun _=>False) ai KZ)).tr aU
 refine KN (.int .u8 ((L6 (b (i*4+3)):Nat):Int)) rr (N1 rfl rfl Tryz.underlying3 Tryz.underlying5 (by first|exact Rn _|exact Rn (b (i*4+0))) rr) (KN (pt aa 3) rr (L3 3 (s:=1) rfl ae rfl (by omega) Tryz.underlying123 (by omega) (by kernel_rfl) (by omega) rr) (Nx rfl rfl rfl rfl rfl bC rfl rfl (by kernel_rfl) fun bE aA aV=>?_))
 replace aA:MJ bE aa 123 [.int .u8 ((L6 (b (i*4+0)):Nat):Int),.int .u8 ((L6 (b (i*4+1)):Nat):Int),.int .u8 ((L6 (b (i*4+2)):Nat):Int),.int .u8 ((L6 (b (i*4+3)):Nat):Int)]:=aA
 have bF:=bB.all aV (aj.symm p9 rfl)
 refine KQ ?_
 refine Lz (KK (KL (KN (iv ((4:Nat):Int)) rr (LS rfl az rfl (LX (by omega) (by omega)) rr) (KN (iv ((4:Nat):Int)) rr (KT rfl rfl rr) (KQ ?_)))))
 have bG:=K4 (iv ((4:Nat):Int))
 refine KK (Mh (KM (KL (KN (.bool false) rr (Mc rfl bG rfl rfl rr) (KQ ?_)))))
 have bH:=K4 (.bool false)
 refine KK (KM ?_)
 refine K5 (t:=false) bH (fun e=>by cases e) (fun _=>?_)
 refine Mm (Lp (Lp (Mk (KK (KM (KL (KN (.agg #[.int .u8 ((L6 (b (i*4+0)):Nat):Int),.int .u8 ((L6 (b (i*4+1)):Nat):Int),.int .u8 ((L6 (b (i*4+2)):Nat):Int),.int .u8 ((L6 (b (i*4+3)):Nat):Int)]) rr (KX Wp rfl ae aA rr) (Ll (us:=[.int .u8 ((L6 (b (i*4+0)):Nat):Int),.int .u8 ((L6 (b (i*4+1)):Nat):Int),.int .u8 ((L6 (b (i*4+2)):Nat):Int),.int .u8 ((L6 (b (i*4+3)):Nat):Int)]) Wp rfl rfl rfl aH rfl bF rfl (aEt Lw (L4 rfl MX)) fun bR bI bJ=>?_))))))))
 refine KQ ?_
 refine KK (Le ?_)
 exact Po (vs:=[.int .u8 ((L6 (b (i*4+0)):Nat):Int),.int .u8 ((L6 (b (i*4+1)):Nat):Int),.int .u8 ((L6 (b (i*4+2)):Nat):Int),.int .u8 ((L6 (b (i*4+3)):Nat):Int)]) Wp a8 rfl rfl aH bI ⟨rfl,((bD.trans aV (KS.ok (S:=fun _=>False) ai KZ)).trans bJ (KS.ok (S:=fun _=>False) (KS.new K8 aZ) KZ))⟩
def ayZ(l:List Nat)(i j:Nat)(x:Int)(c:List Nat):List Nat :=
 l.take (i+(max 0 (min x ((j-i:Nat):Int))).toNat)++((c.drop (max 0 (min (-x) 4)).toNat).take ((j-i)-(max 0 (min x ((j-i:Nat):Int))).toNat)++l.drop (i+(max 0 (min x ((j-i:Nat):Int))).toNat+min ((j-i)-(max 0 (min x ((j-i:Nat):Int))).toNat) (c.drop (max 0 (min (-x) 4)).toNat).length))
theorem ayU(v:Value)(l:List Nat)(i j:Nat)(x:Int)(a b c d:Nat)(T_s:Nat->Prop)(w0:World)(hij:i<=j)(hj:j<=l.length)(hx : -64<=x/\x<=128)(ha:a<256)(hb:b<256)(hc:c<256)(hd:d<256)(h_s:Md w0 T_s v (l)) :
  Calls Tryz.prog 78 #[MO (v) (i) (j) (j),.int .i64 (x),.agg #[.int .u8 (((a:Nat):Int)),.int .u8 (((b:Nat):Int)),.int .u8 (((c:Nat):Int)),.int .u8 (((d:Nat):Int))]] w0 fun e w'=>∃ (T_s':Nat->Prop),e = .returned (.tuple #[])/\KR (T_s) w0 w'/\(Md w' T_s' v (ayZ l i j x [a,b,c,d])/\KS w0 T_s T_s'):=by
 refine Ly (args:=[MO v i j j,iv x,.agg #[.int .u8 ((a:Nat):Int),.int .u8 ((b:Nat):Int),.int .u8 ((c:Nat):Int),.int .u8 ((d:Nat):Int)]]) 17 Tryz.func78 rfl rfl (Nat.le_of_ble_eq_true rfl) ?_
 have g_s:=KS.refl w0 T_s
 refine KM (KL (LJ (vs:=[.int .u8 ((a:Nat):Int),.int .u8 ((b:Nat):Int),.int .u8 ((c:Nat):Int),.int .u8 ((d:Nat):Int)]) rfl rfl rfl rfl fun p1 w2 B4 g5 k3=>?_))
 have B8:=h_s.all k3 KO.none
 refine KQ ?_
 have ah:=K4 (MO v i j j)
 have ai:=K4 (iv x)
 have ao:=K4 (undef)
 have ap:=K4 (pt p1 0)
 refine KK ?_
 refine NJ 10 [some 6,some 7,some 8,some 9,some 10,some 11,some 12,some 13,some 14,some 15] [Pd.eq (MO v i j j),Pd.eq (iv x),Pd.eq (MO v i j j),Pd.eq (iv ((j-i:Nat):Int)),Pd.eq (iv (max 0 (min x ((j-i:Nat):Int)))),Pd.eq (MO (MO v i j j) ((max 0 (min x ((j-i:Nat):Int))).toNat) (j-i) (j-i)),Pd.eq (iv x),Pd.eq (iv (-x)),Pd.eq (iv (max 0 (min (-x) 4))),Pd.eq (azp p1 ((max 0 (min (-x) 4)).toNat))] (by kernel_rfl) (by kernel_rfl) (by kernel_rfl) ?_ ?_
 ·refine KP ?_ ?_
  ·refine Ld.one rfl fun F_ w_ hR hout hD=>?_
   exact(KT rfl ((hout 0 rfl (by decide)).trans ah) ⟨rfl,KR.refl _ _⟩)
  refine KP ?_ ?_
  ·refine Ld.one rfl fun F_ w_ hR hout hD=>?_
   exact(KT rfl ((hout 1 rfl (by decide)).trans ai) ⟨rfl,KR.refl _ _⟩)
  refine KP ?_ ?_
  ·refine Ld.one rfl fun F_ w_ hR hout hD=>?_
   exact(KT rfl ((hout 0 rfl (by decide)).trans ah) ⟨rfl,KR.refl _ _⟩)
  refine KP ?_ ?_
  ·refine Ld.one rfl fun F_ w_ hR hout hD=>?_
   have g8:F_ 8=MO v i j j:=(hD.get 0 rfl rfl rfl)
   exact(aEK rfl rfl g8 (B8.all hR KO.none).byt ⟨rfl,KR.refl _ _⟩)
  refine KP ?_ ?_
  ·refine Ld.one rfl fun F_ w_ hR hout hD=>?_
   have g7:F_ 7=iv x:=(hD.get 0 rfl rfl rfl)
   have g9:F_ 9=iv ((j-i:Nat):Int):=(hD.get 1 rfl rfl rfl)
   exact(LQ rfl rfl rfl (fun _ _=>by kernel_rfl) (K6 _) (Lo g7 (Lo rfl (Lo g9 L5))) (OA x 0 ((j-i:Nat):Int)  _   ) (fun e_ w_ h_=>⟨_,h_.1,rfl,h_.2⟩))
  refine KP ?_ ?_
  ·refine Ld.one rfl fun F_ w_ hR hout hD=>?_
   have g6:F_ 6=MO v i j j:=(hD.get 0 rfl rfl rfl)
   have aw:F_ 10=iv (max 0 (min x ((j-i:Nat):Int))):=(hD.get 1 rfl rfl rfl)
   exact(Yp ((max 0 (min x ((j-i:Nat):Int))).toNat) rfl g6 aw (by omega) (B8.all hR KO.none).byt (by omega) ⟨rfl,KR.refl _ _⟩)
  refine KP ?_ ?_
  ·refine Ld.one rfl fun F_ w_ hR hout hD=>?_
   exact(KT rfl ((hout 1 rfl (by decide)).trans ai) ⟨rfl,KR.refl _ _⟩)
  refine KP ?_ ?_
  ·refine Ld.one rfl fun F_ w_ hR hout hD=>?_
   have az:F_ 12=iv x:=(hD.get 0 rfl rfl rfl)
   exact(aF3 rfl az (Mn rfl (by omega)) ⟨rfl,KR.refl _ _⟩)
  refine KP ?_ ?_
  ·refine Ld.one rfl fun F_ w_ hR hout hD=>?_
   have aA:F_ 13=iv (-x):=(hD.get 0 rfl rfl rfl)
   exact(LQ rfl rfl rfl (fun _ _=>by kernel_rfl) (K6 _) (Lo aA (Lo rfl (Lo rfl L5))) (OA (-x) 0 4  _   ) (fun e_ w_ h_=>⟨_,h_.1,rfl,h_.2⟩))
  refine KP ?_ ?_
  ·refine Ld.one rfl fun F_ w_ hR hout hD=>?_
   have aB:F_ 14=iv (max 0 (min (-x) 4)):=(hD.get 0 rfl rfl rfl)
   exact(aFa ((max 0 (min (-x) 4)).toNat) rfl ((hout 5 rfl (by decide)).trans ap) aB (by omega) (by omega) ⟨rfl,KR.refl _ _⟩)
  exact Mj
 intro aK aj aL ak ae aa
 obtain⟨am,aC⟩:=Oe ak B8 B4
 have aD:=(aa 17).trans ao
 have aE:aj 11=MO (MO v i j j) ((max 0 (min x ((j-i:Nat):Int))).toNat) (j-i) (j-i):=(aa 11).trans (ae 5 (by decide))
 have aF:aj 15=azp p1 ((max 0 (min (-x) 4)).toNat):=(aa 15).trans (ae 9 (by decide))
 clear ae aa
 refine Ta rfl rfl rfl rfl aE (XY (r:=i+((max 0 (min x ((j-i:Nat):Int))).toNat)) am.byt (by omega) (by omega) rfl) aF am (aC.bytes (by omega) (by omega) (by omega) (by omega) (k:=(max 0 (min (-x) 4)).toNat) (by omega)) (by omega) fun aM aG aH=>?_
 refine KQ ?_
 exact ZC aD rfl ⟨T_s,rfl,((((KR.refl T_s w0).tr k3).tr ak).trans aH (KS.ok (S:=T_s) g_s (fun _ x=>x))),⟨aG,g_s⟩⟩
open Go.RowKit
def Tc(l:List Nat)(n w:Nat)(u:Int)(c:Nat):List Nat:=if 0<=u/\u<(w:Int) then l.set (n+u.toNat) c else l
theorem PJ(l:List Nat)(n w:Nat)(u:Int)(c:Nat):(Tc l n w u c).length=l.length:=by unfold Tc;split <;> simp
theorem aBz(l:List Nat)(n w:Nat)(u:Int)(c q:Nat):(Tc l n w u c).getD q 0=if 0<=u/\u<(w:Int)/\n+u.toNat=q/\q<l.length then c else l.getD q 0:=by
 unfold Tc
 by_cases h:0<=u/\u<(w:Int)
 ·rw[if_pos h,V7]
  by_cases h2:n+u.toNat=q/\q<l.length
  ·rw[if_pos h2,if_pos ⟨h.1,h.2,h2.1,h2.2⟩]
  ·rw[if_neg h2,if_neg (fun k=>h2 ⟨k.2.2.1,k.2.2.2⟩)]
 ·rw[if_neg h,if_neg (fun k=>h ⟨k.1,k.2.1⟩)]
theorem aBs{l m:List Nat}(hl:l.length=m.length)(h:∀ q,q<l.length->l.getD q 0=m.getD q 0):l=m:=by
 apply List.ext_getElem hl
 intro i h1 h2
 have:=h i h1
 simpa [List.getD,h1,h2] using this
theorem aE2(l m:List Nat)(off n q:Nat)(h:off+min n m.length<=l.length):(l.take off++(m.take n++l.drop (off+min n m.length))).getD q 0=if q<off then l.getD q 0 else if q<off+min n m.length then m.getD (q-off) 0 else l.getD q 0:=by
 have h1:(l.take off).length=off:=by rw[List.length_take];omega
 have h2:(m.take n).length=min n m.length:=List.length_take ..
 simp only[List.getD_eq_getElem?_getD]
 by_cases hq:q<off
 ·rw[if_pos hq,List.getElem?_append_left (by omega),List.getElem?_take,if_pos hq]
 ·rw[if_neg hq,List.getElem?_append_right (by omega),h1]
  by_cases hr:q<off+min n m.length
  ·rw[if_pos hr,List.getElem?_append_left (by omega),List.getElem?_take,if_pos (by omega)]
  ·rw[if_neg hr,List.getElem?_append_right (by omega),h2,List.getElem?_drop]
   congr 2;omega
theorem aBl(l:List Nat)(n w:Nat)(x:Int)(a b c d:Nat)(h:n+w<=l.length):ayZ l n (n+w) x [a,b,c,d]=Tc (Tc (Tc (Tc l n w x a) n w (x+1) b) n w (x+2) c) n w (x+3) d:=by
 unfold ayZ
 rw[show n+w-n=w by omega]
 obtain⟨cx,hcx⟩:∃ k,k=(max 0 (min x (w:Int))).toNat:=⟨_,rfl⟩
 obtain⟨dx,hdx⟩:∃ k,k=(max 0 (min (-x) 4)).toNat:=⟨_,rfl⟩
 rw[← hcx,← hdx]
 have hd4:([a,b,c,d].drop dx).length=4-dx:=by simp
 apply aBs
 ·rw[PJ,PJ,PJ,PJ]
  simp;omega
 ·intro q hq
  have hql:q<l.length:=by
   have:(l.take (n+cx)++(([a,b,c,d].drop dx).take (w-cx)++l.drop (n+cx+min (w-cx) ([a,b,c,d].drop dx).length))).length=l.length:=by simp;omega
   omega
  rw[aE2 _ _ _ _ _ (by rw[hd4];omega),hd4]
  simp only[aBz,PJ]
  have hg:∀ t,([a,b,c,d].drop dx).getD t 0=[a,b,c,d].getD (dx+t) 0:=fun t=>by simp[List.getD_eq_getElem?_getD,List.getElem?_drop]
  rw[hg]
  by_cases h3:0<=x+3/\x+3<(w:Int)/\n+(x+3).toNat=q/\q<l.length
  ·rw[if_pos h3,if_neg (by omega),if_pos (by omega),show dx+(q-(n+cx))=3 by omega];rfl
  ·rw[if_neg h3]
   by_cases h2:0<=x+2/\x+2<(w:Int)/\n+(x+2).toNat=q/\q<l.length
   ·rw[if_pos h2,if_neg (by omega),if_pos (by omega),show dx+(q-(n+cx))=2 by omega];rfl
   ·rw[if_neg h2]
    by_cases h1:0<=x+1/\x+1<(w:Int)/\n+(x+1).toNat=q/\q<l.length
    ·rw[if_pos h1,if_neg (by omega),if_pos (by omega),show dx+(q-(n+cx))=1 by omega];rfl
    ·rw[if_neg h1]
     by_cases h0:0<=x/\x<(w:Int)/\n+x.toNat=q/\q<l.length
     ·rw[if_pos h0,if_neg (by omega),if_pos (by omega),show dx+(q-(n+cx))=0 by omega];rfl
     ·rw[if_neg h0]
      by_cases hA:q<n+cx
      ·rw[if_pos hA]
      ·rw[if_neg hA,if_neg (by omega)]
theorem Ui{f:FD}{p:Int}(x y:Int)(b:Nat->Int)(k:Nat)(hp:0<=p)(hp2:p<=2)(hy:0<=LU y+((k/4:Nat):Int)/\LU y+((k/4:Nat):Int)<(Lc f p).2) :
  (MU f p x y b (k+1)).pl p=Tc ((MU f p x y b k).pl p) ((LU y+((k/4:Nat):Int))*(Lc f p).1).toNat (Lc f p).1.toNat (LU x+((k%4:Nat):Int)) (L6 (b k))/\∀ q,0<=q->q<=2->q≠p->(MU f p x y b (k+1)).pl q=(MU f p x y b k).pl q:=by
 have hb:=NF f p
 by_cases h:within (Lc f p).1 (Lc f p).2 (LU x+((k%4:Nat):Int)) (LU y+((k/4:Nat):Int))
 ·have hc:=Ow h
  rw[aBH h]
  have hs:=azO (MU f p x y b k) p ((LU y+((k/4:Nat):Int))*(Lc f p).1+(LU x+((k%4:Nat):Int))).toNat (L6 (b k)) hp hp2
  refine⟨?_,hs.2⟩
  rw[hs.1]
  unfold Tc
  unfold within at h
  rw[if_pos ⟨h.1,by omega⟩,Int.toNat_add (by omega) (by omega)]
 ·rw[UL h]
  refine⟨?_,fun _ _ _ _=>rfl⟩
  unfold Tc
  unfold within at h
  rw[if_neg (by omega)]
theorem Wy{f:FD}{p:Int}(x y:Int)(b:Nat->Int)(i:Nat)(hp:0<=p)(hp2:p<=2)(hsz:(Lc f p).1≠0)(hy:0<=LU y+(i:Int)/\LU y+(i:Int)<(Lc f p).2) :
  (MU f p x y b (4*(i+1))).pl p=ayZ ((MU f p x y b (4*i)).pl p) ((LU y+(i:Int))*(Lc f p).1).toNat ((LU y+(i:Int))*(Lc f p).1+(Lc f p).1).toNat (LU x) [L6 (b (i*4)),L6 (b (i*4+1)),L6 (b (i*4+2)),L6 (b (i*4+3))]/\∀ q,0<=q->q<=2->q≠p->(MU f p x y b (4*(i+1))).pl q=(MU f p x y b (4*i)).pl q:=by
 have hb:=NF f p
 have hin:within (Lc f p).1 (Lc f p).2 0 (LU y+(i:Int)):=⟨by omega,by omega,hy.1,hy.2⟩
 have hin2:within (Lc f p).1 (Lc f p).2 ((Lc f p).1-1) (LU y+(i:Int)):=⟨by omega,by omega,hy.1,hy.2⟩
 have hc:=Ow hin
 have hc2:=Ow hin2
 have q0:4*i/4=i:=by omega
 have q1:(4*i+1)/4=i:=by omega
 have q2:(4*i+2)/4=i:=by omega
 have q3:(4*i+3)/4=i:=by omega
 have r0:4*i%4=0:=by omega
 have r1:(4*i+1)%4=1:=by omega
 have r2:(4*i+2)%4=2:=by omega
 have r3:(4*i+3)%4=3:=by omega
 have s0:=Ui (f:=f) (p:=p) x y b (4*i) hp hp2 (by rw[q0];exact hy)
 have s1:=Ui (f:=f) (p:=p) x y b (4*i+1) hp hp2 (by rw[q1];exact hy)
 have s2:=Ui (f:=f) (p:=p) x y b (4*i+2) hp hp2 (by rw[q2];exact hy)
 have s3:=Ui (f:=f) (p:=p) x y b (4*i+3) hp hp2 (by rw[q3];exact hy)
 rw[q0,r0] at s0
 rw[q1,r1] at s1
 rw[q2,r2] at s2
 rw[q3,r3] at s3
 have hlen:((MU f p x y b (4*i)).pl p).length=(f.pl p).length:=by
  have h:=Up x y b (4*i) hsz
  have:p=0\/p=1\/p=2:=by omega
  rcases this with rfl|rfl|rfl
  ·exact h.1
  ·exact h.2.1
  ·exact h.2.2
 have e:((LU y+(i:Int))*(Lc f p).1+(Lc f p).1).toNat=((LU y+(i:Int))*(Lc f p).1).toNat+(Lc f p).1.toNat:=Int.toNat_add (by omega) (by omega)
 rw[show 4*(i+1)=4*i+3+1 by omega]
 refine⟨?_,fun q h0 h2 hq=>by rw[s3.2 q h0 h2 hq,s2.2 q h0 h2 hq,s1.2 q h0 h2 hq,s0.2 q h0 h2 hq]⟩
 rw[e,aBl _ _ _ _ _ _ _ _ (by rw[hlen];omega),s3.1,s2.1,s1.1,s0.1]
 rw[show i*4=4*i by omega]
 rw[show LU x+((0:Nat):Int)=LU x by omega]
 rfl
theorem XU(f:FD)(p:Int):Lc (Nj f) p=Lc f p:=by
 by_cases h:PD f
 ·rw[NL h]
 ·rw[PP h,Qa (fun k=>h k.1),Qa (fun k=>absurd k.1 (by decide))]
theorem NX{f:FD}{p x y:Int}{b:Nat->Int}{i:Nat}(h:¬ (0<=LU y+(i:Int)/\LU y+(i:Int)<(Lc f p).2)):MU f p x y b (4*(i+1))=MU f p x y b (4*i):=by
 rw[show 4*(i+1)=4*i+3+1 by omega]
 rw[UL (k:=4*i+3) (by unfold within;rw[show (4*i+3)/4=i by omega];omega),UL (k:=4*i+2) (by unfold within;rw[show (4*i+2)/4=i by omega];omega),UL (k:=4*i+1) (by unfold within;rw[show (4*i+1)/4=i by omega];omega),UL (k:=4*i) (by unfold within;rw[show (4*i)/4=i by omega];omega)]
end Go.Proofs.YtknjpdcpmpfklaaGreatDoor
