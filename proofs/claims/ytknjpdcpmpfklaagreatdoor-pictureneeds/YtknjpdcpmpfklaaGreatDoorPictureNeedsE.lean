/- What PictureNeeds reaches of my texts, part 5. -/
import Derived.Test.YtknjpdcpmpfklaaGreatDoorPictureNeedsD
set_option maxRecDepth 100000
set_option maxHeartbeats 4000000
set_option maxRecDepth 100000
namespace Go.Proofs.YtknjpdcpmpfklaaGreatDoor
open Go.RowKit
def PN(m:Int):Int:=if m<4 then 0 else if m=4 then 1 else 2
def aDI:List Value:=[.int .i64 0,.bool false,.bool false,.int .i64 0,.bool false,.bool false,.int .i64 0,.bool false,.bool false,.int .i64 0,.bool false,.bool false,.int .i64 1,.bool true,.bool false,.int .i64 2,.bool false,.bool true,.int .i64 2,.bool true,.bool true]
def NM(w:World):Prop:=5<=w.heap.size/\∀ i,i<21->w.cell? ⟨1,i,none⟩=aDI[i]?
theorem NM.but{w w':World}{T:Nat->Prop}(h:NM w)(k:KM T w w')(ha:∀ i,T i->5<=i):NM w' :=
 ⟨Nat.le_trans h.1 k.size,fun i hi=>(k.cell0 (Nat.lt_of_lt_of_le (by decide) h.1) (fun x=>absurd (ha _ x) (by decide))).trans (h.2 i hi)⟩
theorem NM.all{w w':World}(h:NM w)(k:KM (fun _=>False) w w'):NM w':=h.but k (fun _ x=>x.elim)
theorem R9{w0:World}{T:Nat->Prop}(g:KP w0 L8 T)(h:NM w0):∀ i,T i->5<=i:=fun i hi=>by
 have:=h.1
 rcases g i hi with h1|h1
 ·exact h1.elim
 ·omega
theorem UM{w0:World}{B T:Nat->Prop}(g:KP w0 B T)(hB:∀ i,B i->5<=i)(h:NM w0):∀ i,T i->5<=i:=fun i hi=>by
 have:=h.1
 rcases g i hi with h1|h1
 ·exact hB i h1
 ·omega
theorem ovO{T:Nat->Prop}(h:∀ i,T i->5<=i):∀ i,T i->2<i:=fun i hi=>Nat.lt_of_lt_of_le (by decide) (h i hi)
theorem S2{w:World}(h:NM w){m:Int}(hm:0<=m/\m<7):w.cell? ⟨1,0+(m).toNat*3,none⟩=some (.int .i64 (PN m))/\w.cell? ⟨1,0+(m).toNat*3+1,none⟩=some (.bool (NE m))/\w.cell? ⟨1,0+(m).toNat*3+2,none⟩=some (.bool (Ni m)):=by
 have hc:m=0\/m=1\/m=2\/m=3\/m=4\/m=5\/m=6:=by omega
 rcases hc with rfl|rfl|rfl|rfl|rfl|rfl|rfl <;> exact⟨(h.2 _ (by decide)).trans rfl,(h.2 _ (by decide)).trans rfl,(h.2 _ (by decide)).trans rfl⟩
theorem aBC(k m:Int):0<=m/\m<7->(PN m<=k/\k<=2↔m<=NR k):=by
 rintro ⟨h1,h2⟩
 have ha:PN m=0/\m<4\/PN m=1/\m=4\/PN m=2/\4<m:=by
  unfold PN
  by_cases h3:m<4
  ·rw[if_pos h3];omega
  ·rw[if_neg h3]
   by_cases h4:m=4
   ·rw[if_pos h4];omega
   ·rw[if_neg h4];omega
 have hk:k=0/\NR k=3\/k=1/\NR k=4\/k=2/\NR k=6\/(k<0\/2<k)/\NR k = -1:=by
  unfold NR
  by_cases h3:k=0
  ·rw[if_pos h3];omega
  ·rw[if_neg h3]
   by_cases h4:k=1
   ·rw[if_pos h4];omega
   ·rw[if_neg h4]
    by_cases h5:k=2
    ·rw[if_pos h5];omega
    ·rw[if_neg h5];omega
 omega
theorem Qb(m:Int)(w0:World) :
  Calls Tryz.prog 109 #[.int .i64 (m)] w0 fun e w'=>e = .returned (.bool (decide (0<=m/\m<7)))/\KM (fun _=>False) w0 w':=by
 refine Lp (args:=[iv m]) 9 Tryz.func109 rfl rfl (Nat.le_of_ble_eq_true rfl) ?_
 have K0:=KM.refl (fun _=>False) w0
 refine KH (KF (KG (.bool false) rfl rfl (KT rfl rfl rr) (KL ?_)))
 have s3:=K4 (iv m)
 have s4:=K4 (undef)
 refine KE (KH ?_)
 by_cases d5:0<=m
 ·skip
  refine KF (KS rfl rfl rfl s3 (KG (.bool true) rfl rfl (Nh rfl rfl rfl (decide_eq_true d5) rr) (KG (.bool true) rfl rfl (KN rfl rfl rr) (KO (iv m) 2 true 5 rfl rfl rfl rfl rfl (KN rfl s3 rr) (KO (.bool (decide (m<7))) 2 true 5 rfl rfl rfl rfl rfl (L2 rfl rfl rfl rfl rr) (KG (.bool (decide (m<7))) rfl rfl (Ld rfl rfl rfl rr) (KG (.bool (decide (m<7))) rfl rfl (KT rfl rfl rr) (KL ?_))))))))
  have s9:=K4 (.bool (decide (m<7)))
  refine KE (La ?_)
  exact Lq (v:=.bool (decide (m<7))) s4 rfl rfl s9 ⟨(O8 (by first|exact(decide_eq_true (by omega)).symm|exact(decide_eq_false (by omega)).symm|exact decide_eq_decide.2 (by omega))),K0⟩
 ·skip
  refine KF (KS rfl rfl rfl s3 (KG (.bool false) rfl rfl (Nh rfl rfl rfl (decide_eq_false d5) rr) (KG (.bool false) rfl rfl (KN rfl rfl rr) (KI 2 true 5 rfl rfl rfl (Or.inl rfl) rfl (KI 2 true 5 rfl rfl rfl (Or.inl rfl) rfl (KG (.bool false) rfl rfl (K6 rfl rfl rfl rr) (KG (.bool false) rfl rfl (KT rfl rfl rr) (KL ?_))))))))
  have ah:=K4 (.bool false)
  refine KE (La ?_)
  exact Lq (v:=.bool false) s4 rfl rfl ah ⟨(O8 (by first|exact(decide_eq_true (by omega)).symm|exact(decide_eq_false (by omega)).symm|exact decide_eq_decide.2 (by omega))),K0⟩
theorem azH(k m:Int)(w0:World)(hA:NM w0) :
  Calls Tryz.prog 99 #[.int .i64 (k),.int .i64 (m)] w0 fun e w'=>e = .returned (.bool (decide (0<=m/\m<=NR k)))/\KM (fun _=>False) w0 w':=by
 refine Lp (args:=[iv k,iv m]) 19 Tryz.func99 rfl rfl (Nat.le_of_ble_eq_true rfl) ?_
 have K0:=KM.refl (fun _=>False) w0
 have hk6:=VA k
 have hif:=aBC k m
 refine KH (KF (KG (.bool false) rfl rfl (KT rfl rfl rr) (KL ?_)))
 have s3:=K4 (iv k)
 have s4:=K4 (iv m)
 have s5:=K4 (undef)
 refine KE (KH ?_)
 by_cases d6:0<=m/\m<7
 ·skip
  by_cases d7:(PN m)<=k
  ·skip
   refine KF (KS rfl rfl rfl s4 (Lw (R:=fun v_ w_=>v_ = .bool true/\KM (fun _=>False) w0 w_) rfl rfl (LE rfl rfl rfl (fun _ _=>by kernel_rfl) (K2 _) (Lj rfl LP) (Qb m  _   ) (fun e_ w_ h_=>⟨_,h_.1,(congrArg Value.bool (decide_eq_true d6)),h_.2⟩)) ?_))
   rintro _ w8 ⟨rfl,k9⟩
   have ai:=K0.tr k9
   refine KG (.bool true) rfl rfl (KN rfl rfl rr) (KO (iv k) 2 true 7 rfl rfl rfl rfl rfl (KN rfl s3 rr) (KO (iv m) 2 true 7 rfl rfl rfl rfl rfl (KN rfl s4 rr) (KO (.pointer (some ⟨1,0+(m.toNat)*3,none⟩)) 2 true 7 rfl rfl rfl rfl rfl (LQ (m.toNat) (s:=3) rfl rfl rfl (by omega) Tryz.underlying165 (by omega) (by kernel_rfl) (by omega) rr) (KO (.pointer (some ⟨1,0+(m.toNat)*3,none⟩)) 2 true 7 rfl rfl rfl rfl rfl (KQ (n:=1) rfl rfl Tryz.underlying164 rfl (by kernel_rfl) (by decide) rfl rr) (KO (iv (PN m)) 2 true 7 rfl rfl rfl rfl rfl (OE rfl rfl Tryz.underlying3 ((S2 (hA.all ai) (by assumption)).1) rr) (KO (.bool true) 2 true 7 rfl rfl rfl rfl rfl (Nh rfl rfl rfl (decide_eq_true d7) rr) (KG (.bool true) rfl rfl (Ld rfl rfl rfl rr) (KG (.bool true) rfl rfl (KN rfl rfl rr) (KO (iv k) 10 true 15 rfl rfl rfl rfl rfl (KN rfl s3 rr) (KO (.bool (decide (k<=2))) 10 true 15 rfl rfl rfl rfl rfl (Nc rfl rfl rfl rfl rr) (KG (.bool (decide (k<=2))) rfl rfl (Ld rfl rfl rfl rr) ?_)))))))))))
   refine KG (.bool (decide (k<=2))) rfl rfl (KT rfl rfl rr) (KL ?_)
   have am:=K4 (.bool (decide (k<=2)))
   refine KE (La ?_)
   exact Lq (v:=.bool (decide (k<=2))) s5 rfl rfl am ⟨(O8 (by first|exact(decide_eq_true (by omega)).symm|exact(decide_eq_false (by omega)).symm|exact decide_eq_decide.2 (by omega))),ai⟩
  ·skip
   refine KF (KS rfl rfl rfl s4 (Lw (R:=fun v_ w_=>v_ = .bool true/\KM (fun _=>False) w0 w_) rfl rfl (LE rfl rfl rfl (fun _ _=>by kernel_rfl) (K2 _) (Lj rfl LP) (Qb m  _   ) (fun e_ w_ h_=>⟨_,h_.1,(congrArg Value.bool (decide_eq_true d6)),h_.2⟩)) ?_))
   rintro _ au ⟨rfl,an⟩
   have aj:=K0.tr an
   refine KG (.bool true) rfl rfl (KN rfl rfl rr) (KO (iv k) 2 true 7 rfl rfl rfl rfl rfl (KN rfl s3 rr) (KO (iv m) 2 true 7 rfl rfl rfl rfl rfl (KN rfl s4 rr) (KO (.pointer (some ⟨1,0+(m.toNat)*3,none⟩)) 2 true 7 rfl rfl rfl rfl rfl (LQ (m.toNat) (s:=3) rfl rfl rfl (by omega) Tryz.underlying165 (by omega) (by kernel_rfl) (by omega) rr) (KO (.pointer (some ⟨1,0+(m.toNat)*3,none⟩)) 2 true 7 rfl rfl rfl rfl rfl (KQ (n:=1) rfl rfl Tryz.underlying164 rfl (by kernel_rfl) (by decide) rfl rr) (KO (iv (PN m)) 2 true 7 rfl rfl rfl rfl rfl (OE rfl rfl Tryz.underlying3 ((S2 (hA.all aj) (by assumption)).1) rr) (KO (.bool false) 2 true 7 rfl rfl rfl rfl rfl (Nh rfl rfl rfl (decide_eq_false d7) rr) (KG (.bool false) rfl rfl (Ld rfl rfl rfl rr) (KG (.bool false) rfl rfl (KN rfl rfl rr) (KI 10 true 15 rfl rfl rfl (Or.inl rfl) rfl (KI 10 true 15 rfl rfl rfl (Or.inl rfl) rfl (KG (.bool false) rfl rfl (K6 rfl rfl rfl rr) ?_)))))))))))
   refine KG (.bool false) rfl rfl (KT rfl rfl rr) (KL ?_)
   have ao:=K4 (.bool false)
   refine KE (La ?_)
   exact Lq (v:=.bool false) s5 rfl rfl ao ⟨(O8 (by first|exact(decide_eq_true (by omega)).symm|exact(decide_eq_false (by omega)).symm|exact decide_eq_decide.2 (by omega))),aj⟩
 ·skip
  refine KF (KS rfl rfl rfl s4 (Lw (R:=fun v_ w_=>v_ = .bool false/\KM (fun _=>False) w0 w_) rfl rfl (LE rfl rfl rfl (fun _ _=>by kernel_rfl) (K2 _) (Lj rfl LP) (Qb m  _   ) (fun e_ w_ h_=>⟨_,h_.1,(congrArg Value.bool (decide_eq_false d6)),h_.2⟩)) ?_))
  rintro _ av ⟨rfl,ap⟩
  refine KG (.bool false) rfl rfl (KN rfl rfl rr) (KI 2 true 7 rfl rfl rfl (Or.inl rfl) rfl (KI 2 true 7 rfl rfl rfl (Or.inl rfl) rfl (KI 2 true 7 rfl rfl rfl (Or.inl rfl) rfl (KI 2 true 7 rfl rfl rfl (Or.inl rfl) rfl (KI 2 true 7 rfl rfl rfl (Or.inl rfl) rfl (KI 2 true 7 rfl rfl rfl (Or.inl rfl) rfl (KG (.bool false) rfl rfl (K6 rfl rfl rfl rr) (KG (.bool false) rfl rfl (KN rfl rfl rr) (KI 10 true 15 rfl rfl rfl (Or.inl rfl) rfl (KI 10 true 15 rfl rfl rfl (Or.inl rfl) rfl (KG (.bool false) rfl rfl (K6 rfl rfl rfl rr) ?_)))))))))))
  refine KG (.bool false) rfl rfl (KT rfl rfl rr) (KL ?_)
  have aq:=K4 (.bool false)
  refine KE (La ?_)
  exact Lq (v:=.bool false) s5 rfl rfl aq ⟨(O8 (by first|exact(decide_eq_true (by omega)).symm|exact(decide_eq_false (by omega)).symm|exact decide_eq_decide.2 (by omega))),(K0.tr ap)⟩
theorem aAz{m:Int}(h:¬ (0<=m/\m<7)):NE m=false/\Ni m=false:=by
 unfold NE Ni;rw[decide_eq_false (by omega:¬ m=4),decide_eq_false (by omega:¬ m=5),decide_eq_false (by omega:¬ m=6)];exact⟨rfl,rfl⟩
theorem Vd(m:Int)(w0:World)(hA:NM w0) :
  Calls Tryz.prog 97 #[.int .i64 (m)] w0 fun e w'=>e = .returned (.tuple #[.bool (NE m),.bool (Ni m)])/\KM (fun _=>False) w0 w':=by
 refine Lp (args:=[iv m]) 15 Tryz.func97 rfl rfl (Nat.le_of_ble_eq_true rfl) ?_
 have K0:=KM.refl (fun _=>False) w0
 refine KH (KF (KG (.bool false) rfl rfl (KT rfl rfl rr) (KG (.bool false) rfl rfl (KT rfl rfl rr) (KL ?_))))
 have s3:=K4 (iv m)
 have s4:=K4 (undef)
 refine KE (KH (KH ?_))
 by_cases d5:0<=m/\m<7
 ·skip
  refine KF (KS rfl rfl rfl s3 (Lw (R:=fun v_ w_=>v_ = .bool true/\KM (fun _=>False) w0 w_) rfl rfl (LE rfl rfl rfl (fun _ _=>by kernel_rfl) (K2 _) (Lj rfl LP) (Qb m  _   ) (fun e_ w_ h_=>⟨_,h_.1,(congrArg Value.bool (decide_eq_true d5)),h_.2⟩)) ?_))
  rintro _ w6 ⟨rfl,k7⟩
  have K8:=K0.tr k7
  refine KG (.bool false) rfl rfl (LT rfl rfl rfl rr) (KL ?_)
  have am:=K4 (.bool false)
  refine KE ?_
  refine K5 (t:=false) am (fun e=>by cases e) (fun _=>?_)
  refine Lf (KE (KH ?_))
  have hm7:0<=m/\m<7:=by first|assumption|(apply Decidable.byContradiction;assumption)
  refine Ri [some 7,some 8,some 9,some 10,some 11,some 12,some 13,some 14,some 2,some 3] [Pd.eq (iv m),Pd.eq (.pointer (some ⟨1,0+(m.toNat)*3,none⟩)),Pd.eq (.pointer (some ⟨1,0+(m.toNat)*3+1,none⟩)),Pd.eq (.bool (NE m)),Pd.eq (iv m),Pd.eq (.pointer (some ⟨1,0+(m.toNat)*3,none⟩)),Pd.eq (.pointer (some ⟨1,0+(m.toNat)*3+2,none⟩)),Pd.eq (.bool (Ni m)),Pd.eq (.bool (NE m)),Pd.eq (.bool (Ni m))] (by kernel_rfl) (by kernel_rfl) ?_ ?_
  ·refine KK ?_ ?_
   ·refine Lb.one rfl fun F_ w_ hR hout hD=>?_
    exact(KN rfl ((hout 0 rfl (by decide)).trans s3) ⟨rfl,KM.refl _ _⟩)
   refine KK ?_ ?_
   ·refine Lb.one rfl fun F_ w_ hR hout hD=>?_
    have g7:F_ 7=iv m:=(hD.get 0 rfl rfl rfl)
    exact(LQ (m.toNat) (s:=3) rfl rfl g7 (by omega) Tryz.underlying165 (by omega) (by kernel_rfl) (by omega) ⟨rfl,KM.refl _ _⟩)
   refine KK ?_ ?_
   ·refine Lb.one rfl fun F_ w_ hR hout hD=>?_
    have g8:F_ 8 = .pointer (some ⟨1,0+(m.toNat)*3,none⟩):=(hD.get 0 rfl rfl rfl)
    exact(KQ (n:=1) rfl g8 Tryz.underlying164 rfl (by kernel_rfl) (by decide) rfl ⟨rfl,KM.refl _ _⟩)
   refine KK ?_ ?_
   ·refine Lb.one rfl fun F_ w_ hR hout hD=>?_
    have g9:F_ 9 = .pointer (some ⟨1,0+(m.toNat)*3+1,none⟩):=(hD.get 0 rfl rfl rfl)
    exact(Yc rfl g9 Tryz.underlying4 rfl ((S2 (hA.all (K8.trans hR (fun _ _ x=>x.elim))) hm7).2.1) ⟨rfl,KM.refl _ _⟩)
   refine KK ?_ ?_
   ·refine Lb.one rfl fun F_ w_ hR hout hD=>?_
    exact(KN rfl ((hout 0 rfl (by decide)).trans s3) ⟨rfl,KM.refl _ _⟩)
   refine KK ?_ ?_
   ·refine Lb.one rfl fun F_ w_ hR hout hD=>?_
    have aq:F_ 11=iv m:=(hD.get 0 rfl rfl rfl)
    exact(LQ (m.toNat) (s:=3) rfl rfl aq (by omega) Tryz.underlying165 (by omega) (by kernel_rfl) (by omega) ⟨rfl,KM.refl _ _⟩)
   refine KK ?_ ?_
   ·refine Lb.one rfl fun F_ w_ hR hout hD=>?_
    have ar:F_ 12 = .pointer (some ⟨1,0+(m.toNat)*3,none⟩):=(hD.get 0 rfl rfl rfl)
    exact(KQ (n:=1) rfl ar Tryz.underlying164 rfl (by kernel_rfl) (by decide) rfl ⟨rfl,KM.refl _ _⟩)
   refine KK ?_ ?_
   ·refine Lb.one rfl fun F_ w_ hR hout hD=>?_
    have au:F_ 13 = .pointer (some ⟨1,0+(m.toNat)*3+2,none⟩):=(hD.get 0 rfl rfl rfl)
    exact(Yc rfl au Tryz.underlying4 rfl ((S2 (hA.all (K8.trans hR (fun _ _ x=>x.elim))) hm7).2.2) ⟨rfl,KM.refl _ _⟩)
   refine KK ?_ ?_
   ·refine Lb.one rfl fun F_ w_ hR hout hD=>?_
    have av:F_ 10 = .bool (NE m):=(hD.get 0 rfl rfl rfl)
    exact(KT rfl av ⟨rfl,KM.refl _ _⟩)
   refine KK ?_ ?_
   ·refine Lb.one rfl fun F_ w_ hR hout hD=>?_
    have aw:F_ 14 = .bool (Ni m):=(hD.get 0 rfl rfl rfl)
    exact(KT rfl aw ⟨rfl,KM.refl _ _⟩)
   exact L0
  intro aI aj aJ az ae ab
  have aA:=(ab 15).trans s4
  have aB:aj 2 = .bool (NE m):=(ab 2).trans (ae 8 (by decide))
  have aC:aj 3 = .bool (Ni m):=(ab 3).trans (ae 9 (by decide))
  clear ae ab
  refine KE (La ?_)
  exact L4 aA rfl (Lu (v:=.bool (NE m)) rfl aB) (Lu (v:=.bool (Ni m)) rfl aC) ⟨(by first|rfl|rw[hpo.1,hpo.2]),(K8.tr az)⟩
 ·skip
  refine KF (KS rfl rfl rfl s3 (Lw (R:=fun v_ w_=>v_ = .bool false/\KM (fun _=>False) w0 w_) rfl rfl (LE rfl rfl rfl (fun _ _=>by kernel_rfl) (K2 _) (Lj rfl LP) (Qb m  _   ) (fun e_ w_ h_=>⟨_,h_.1,(congrArg Value.bool (decide_eq_false d5)),h_.2⟩)) ?_))
  rintro _ aK ⟨rfl,aD⟩
  refine KG (.bool true) rfl rfl (LT rfl rfl rfl rr) (KL ?_)
  have aE:=K4 (.bool true)
  refine KE ?_
  refine K5 (t:=true) aE (fun _=>?_) (fun e=>by cases e)
  refine KH ?_
  have hpo:=aAz (m:=m) (by assumption)
  refine KF (KG (.bool false) rfl rfl (KT rfl rfl rr) (KG (.bool false) rfl rfl (KT rfl rfl rr) (KL ?_)))
  have aF:=K4 (.bool false)
  have aG:=K4 (.bool false)
  refine KE (La (Ln ?_))
  exact L4 s4 rfl (Lu (v:=.bool false) rfl aF) (Lu (v:=.bool false) rfl aG) ⟨(by first|rfl|rw[hpo.1,hpo.2]),(K0.tr aD)⟩
theorem ay8(b:Nat->Int)(c:Ch)(q:Int)(w0:World)(hs:NU w0)(hw:Qr w0) :
  Calls Tryz.prog 76 #[LH (b),.agg (OZ (c)).toArray,.int .i64 (q)] w0 fun e w'=>e = .returned (.tuple #[LH (buB b c.b q),.int .i64 (Qv q)])/\KM (fun _=>False) w0 w':=by
 refine Lp (args:=[LH b,.agg (OZ c).toArray,iv q]) 39 Tryz.func76 rfl rfl (Nat.le_of_ble_eq_true rfl) ?_
 have K0:=KM.refl (fun _=>False) w0
 refine KH (KF (M4 rfl rfl rfl rfl fun p1 w2 e5 B3 k4=>?_))
 have g6:=LS (Nat.le_of_eq e5.symm)
 have aD:=KP.new K0 g6
 clear e5 g6
 refine Lt (vs:=(OZ c)) rfl rfl rfl rfl fun p9 cr bj bl aE=>?_
 have aF:=KJ.new bl (LR B3.lt)
 have aG:=B3.all aE id
 have aH:=(K0.tr k4).tr aE
 refine LY rfl rfl rfl KW.2.2 fun ac ct aI bm aJ=>?_
 have ae:=LS (Nat.le_of_eq aI.symm)
 have aK:=KP.new aH ae
 have aL:=KJ.new ae (LR aG.lt)
 clear aI ae
 obtain⟨bn,aM⟩:=NL aJ aG bj
 have aN:=aH.tr aJ
 refine KG (iv 0) rfl rfl (KT rfl rfl rr) (KL ?_)
 have bo:=K4 (iv q)
 have aO:=K4 (undef)
 have aP:=K4 (pt p1 0)
 have bp:=K4 (pt p9 0)
 have ao:=K4 (pt ac 0)
 refine KE (KH (KF (KG (pt p9 5) rfl rfl (KQ (n:=16) rfl bp Tryz.underlying71 rfl (by kernel_rfl) (by decide) rfl rr) (KG (LH (c.b)) rfl rfl (O5 (n:=16) (us:=L6 16 (c.b)) P9 rfl rfl aM (Nat.le_of_ble_eq_true rfl) rfl rr) (KS rfl rfl rfl bo (LV rfl rfl rfl rfl rfl (fun _ _=>by kernel_rfl) (Lj rfl (Lj rfl LP)) (aCF (c.b) q  _ (hs.all aN)  ) fun cu aQ=>?_))))))
 obtain⟨aR,aS,aT⟩:=Nx aQ bn aM bm
 have aU:=aN.tr aQ
 refine KG (.tuple #[LH (Uj (c.b) q),iv (Qv q)]) rfl rfl (KN rfl rfl rr) (KG (LH (Uj (c.b) q)) rfl rfl (LI rfl rfl rfl rr) (KG (iv (Qv q)) rfl rfl (LI rfl rfl rfl rr) (LY rfl rfl rfl KW.2.2 fun ai cv aV bq aW=>?_)))
 have aX:=LS (Nat.le_of_eq aV.symm)
 obtain⟨ap,bt,bu⟩:=SW aX aR aS aT
 clear aV
 obtain⟨bv,bz,bA⟩:=Nx aW aR aS aT
 refine Lm KW rfl rfl rfl rfl rfl bq fun cw aY aj=>?_
 have aZ:=bv.all aj (ap.symm p1 rfl)
 have bB:=bz.all aj (bt.symm p9 rfl)
 have a8:=bA.all aj (bu.symm ac rfl)
 have aq:=(aU.tr aW).trans aj (KP.ok (S:=fun _=>False) (KP.new aU aX) K3)
 refine KG (iv (Qv q)) rfl rfl (KT rfl rfl rr) (KL ?_)
 have bC:=K4 (pt ai 0)
 have a9:=K4 (iv (Qv q))
 refine KE (KH (KH (KF (KS rfl rfl rfl a9 (KG (.bool (decide ((Qv q)≠0))) rfl rfl (L9 rfl rfl rfl rfl rr) (KL ?_))))))
 have bD:=K4 (.bool (decide ((Qv q)≠0)))
 refine KE ?_
 refine K5 bD (fun af=>?_) (fun af=>?_)
 ·replace af:=of_decide_eq_true af
  refine KH ?_
  have hR:=aDh (b:=b) (l:=c.b) (q:=q) (by assumption)
  refine KF (KG (LH (fun _=>0)) rfl rfl (Mt (cells:=(L6 16 (fun _=>0)).toArray) rfl (by kernel_rfl) rfl rr) (KS rfl rfl rfl a9 (Lm KW rfl rfl rfl ao rfl a8 fun cy bE bF=>?_)))
  refine KG (iv (Qv q)) rfl rfl (KT rfl rfl rr) (KL ?_)
  have bG:=K4 (iv (Qv q))
  refine KE (La (Ln ?_))
  exact L4 aO rfl (Mn KW rfl ao bE) (Lu (v:=iv (Qv q)) rfl bG) ⟨(by first|rw[hR,hq0]|rw[hR]),(aq.trans bF (KP.ok (S:=fun _=>False) aK K3))⟩
 ·replace af:=of_decide_eq_false af
  refine Lf (KE (KH ?_))
  have hq0:Qv q=0:=by first|assumption|(apply Decidable.byContradiction;assumption)
  have hR:=aCh (b:=b) (l:=c.b) hq0
  refine Na 4 [some 23,some 24,some 25,some 26] [Pd.eq (LH b),Pd.eq (LH (Uj (c.b) q)),Pd.eq (LH (Od (Uj (c.b) q))),Pd.eq (LH (OM b (Od (Uj (c.b) q))))] (by kernel_rfl) (by kernel_rfl) (by kernel_rfl) ?_ ?_
  ·refine KK ?_ ?_
   ·refine Lb.one rfl fun F_ w_ hR hout hD=>?_
    exact(LX KW rfl ((hout 3 rfl (by decide)).trans aP) (aZ.all hR id) ⟨rfl,KM.refl _ _⟩)
   refine KK ?_ ?_
   ·refine Lb.one rfl fun F_ w_ hR hout hD=>?_
    exact(LX KW rfl ((hout 8 rfl (by decide)).trans bC) (aY.all hR id) ⟨rfl,KM.refl _ _⟩)
   refine KK ?_ ?_
   ·refine Lb.one rfl fun F_ w_ hR hout hD=>?_
    have bH:F_ 24=LH (Uj (c.b) q):=(hD.get 0 rfl rfl rfl)
    exact(LE rfl rfl rfl (fun _ _=>by kernel_rfl) (K2 _) (Lj bH LP) (aAD (Uj (c.b) q)  _ (hw.all (aq.trans hR (fun _ _ x=>x.elim)))  ) (fun e_ w_ h_=>⟨_,h_.1,rfl,h_.2⟩))
   refine KK ?_ ?_
   ·refine Lb.one rfl fun F_ w_ hR hout hD=>?_
    have ae:F_ 23=LH b:=(hD.get 0 rfl rfl rfl)
    have bI:F_ 25=LH (Od (Uj (c.b) q)):=(hD.get 1 rfl rfl rfl)
    exact(LE rfl rfl rfl (fun _ _=>by kernel_rfl) (K2 _) (Lj ae (Lj bI LP)) (ay5 b (Od (Uj (c.b) q))  _   ) (fun e_ w_ h_=>⟨_,h_.1,rfl,h_.2⟩))
   exact L0
  intro cz bJ cA ba bb ar
  obtain⟨bK,bL,bM,bN⟩:=OS ba aZ bB a8 aY
  obtain⟨bO,au,bP⟩:=t3 ar 39 aO 3 aP 6 ao
  have bQ:bJ 26=LH (OM b (Od (Uj (c.b) q))):=(ar 26).trans (bb 3 (by decide))
  clear bb ar
  refine Lm KW rfl rfl rfl au bQ bK fun cC bc ak=>?_
  have bR:=bL.all ak (aF p9 rfl)
  have bS:=bM.all ak (aL ac rfl)
  have bT:=bN.all ak (ap ai rfl)
  refine KL ?_
  refine KE (KH (KH (KF (KG (LH (OM b (Od (Uj (c.b) q)))) rfl rfl (LX KW rfl au bc rr) (KG (iv 0) rfl rfl (KN rfl rfl rr) (KL ?_))))))
  have bU:=K4 (LH (OM b (Od (Uj (c.b) q))))
  have bV:=K4 (iv 0)
  refine KE (Lk (M1 (fun nn FF ww=>∃ (i:Nat),(i<=16)/\nn=16-i/\FF 3=pt p1 0/\FF 6=pt ac 0/\FF 27=LH (OM b (Od (Uj (c.b) q)))/\FF 39=undef/\FF 28=iv ((i:Nat):Int)/\KM (fun _=>False) w0 ww/\NI ww p1 69 (upto i (OM b (Od (Uj c.b q))) (c8M (OM b (Od (Uj c.b q)))))/\Mu ww p9 71 (OZ c)/\NI ww ac 69 (fun _=>0)/\NI ww ai 69 (Uj (c.b) q)) (16-0) ⟨0,by omega,rfl,au,bP,bU,bO,bV,((aq.tr ba).trans ak (KP.ok (S:=fun _=>False) aD K3)),bc.first,bR,bS,bT⟩ ?_))
  rintro cD cE bW ⟨i,i131,hn130,av,aw,bd,be,am,bf,bg,bX,bh,bY⟩
  refine KH (KF (KG (.bool (decide (((i:Nat):Int)<16))) rfl rfl (L2 rfl am rfl rfl rr) (KL ?_)))
  have bZ:=K4 (.bool (decide (((i:Nat):Int)<16)))
  refine KE (KH ?_)
  refine K5 bZ (fun ah=>?_) (fun ah=>?_)
  ·replace ah:=of_decide_eq_true ah
   refine Lf (KE (KH (Lk (KH (KF (KS rfl rfl rfl am (KG (iv ((OM b (Od (Uj (c.b) q))) i)) rfl rfl (azU i KW rfl bd am (by omega) rfl rr) (KG (iv ((i:Nat):Int)) rfl rfl (KT rfl rfl rr) (KG (iv ((OM b (Od (Uj (c.b) q))) i)) rfl rfl (KT rfl rfl rr) (KL ?_))))))))))
   have b7:=K4 (iv ((i:Nat):Int))
   have b8:=K4 (iv ((OM b (Od (Uj (c.b) q))) i))
   refine KE (KF (KS rfl rfl rfl b7 (KS rfl rfl rfl b8 (KG (iv (min ((OM b (Od (Uj (c.b) q))) i) 255)) rfl rfl (QL rfl rfl rfl rfl rr) (KG (iv (c8M (OM b (Od (Uj c.b q))) i)) rfl rfl (Rh rfl rfl rfl (by unfold c8M;omega) rr) (KG (.pointer (some ⟨p1,i,none⟩)) rfl rfl (LQ i (s:=1) rfl av rfl (by omega) Tryz.underlying69 (by omega) (by kernel_rfl) (by omega) rr) (NJ rfl rfl rfl rfl rfl bg (by omega) (by kernel_rfl) fun cF b9 an=>?_)))))))
   have cd:=bX.all an (aF p9 rfl)
   have ce:=bh.all an (aL ac rfl)
   have cf:=bY.all an (ap ai rfl)
   refine KL ?_
   refine LA (KE (KF (KG (iv ((i+1:Nat):Int)) rfl rfl (LN rfl am rfl (L5 (by omega) (by omega)) rr) (KG (iv ((i+1:Nat):Int)) rfl rfl (KN rfl rfl rr) (KL ?_)))))
   have cg:=K4 (iv ((i+1:Nat):Int))
   exact KE ⟨(16-(i+1)),by omega,i+1,by omega,rfl,av,aw,bd,be,cg,(bf.trans an (KP.ok (S:=fun _=>False) aD K3)),(b9.next rfl),cd,ce,cf⟩
  ·replace ah:=of_decide_eq_false ah
   refine Mf (Lr (Lr ?_))
   have ci:16=i:=by omega
   subst ci
   have cj:NI bW p1 69 (c8M (OM b (Od (Uj c.b q)))):=(bg.last)
   refine Me (KE (KH (KF (KG (LH (c8M (OM b (Od (Uj c.b q))))) rfl rfl (LX KW rfl av cj rr) (Lm KW rfl rfl rfl aw rfl bh fun cG cm cn=>?_)))))
   refine KG (iv 0) rfl rfl (KT rfl rfl rr) (KL ?_)
   have co:=K4 (iv 0)
   refine KE (La ?_)
   exact L4 be rfl (Mn KW rfl aw cm) (Lu (v:=iv 0) rfl co) ⟨(by first|rw[hR,hq0]|rw[hR]),(bf.trans cn (KP.ok (S:=fun _=>False) aK K3))⟩
theorem Yl(k x y:Int)(c:Ch)(f:FD)(f0 f1 f2:Value)(g:FD)(g0 g1 g2:Value)(h:FD)(h0 h1 h2:Value)(T_f0:Nat->Prop)(T_f1:Nat->Prop)(T_f2:Nat->Prop)(T_g0:Nat->Prop)(T_g1:Nat->Prop)(T_g2:Nat->Prop)(T_h0:Nat->Prop)(T_h1:Nat->Prop)(T_h2:Nat->Prop)(w0:World)(hA:NM w0)(h_f0:L7 w0 T_f0 f0 ((f).p0))(h_f1:L7 w0 T_f1 f1 ((f).p1))(h_f2:L7 w0 T_f2 f2 ((f).p2))(h_g0:L7 w0 T_g0 g0 ((g).p0))(h_g1:L7 w0 T_g1 g1 ((g).p1))(h_g2:L7 w0 T_g2 g2 ((g).p2))(h_h0:L7 w0 T_h0 h0 ((h).p0))(h_h1:L7 w0 T_h1 h1 ((h).p1))(h_h2:L7 w0 T_h2 h2 ((h).p2)) :
  Calls Tryz.prog 75 #[.agg #[.int .i64 ((f).W),.int .i64 ((f).H),f0,f1,f2],.agg #[.int .i64 ((g).W),.int .i64 ((g).H),g0,g1,g2],.agg #[.int .i64 ((h).W),.int .i64 ((h).H),h0,h1,h2],.int .i64 (k),.int .i64 (x),.int .i64 (y),.agg (OZ (c)).toArray] w0 fun e w'=>e = .returned (.tuple #[LH (Xe f g h k x y c),.int .i64 (Tx f g h k x y c)])/\KM (fun _=>False) w0 w':=by
 refine Lp (args:=[.agg #[iv (f.W),iv (f.H),f0,f1,f2],.agg #[iv (g.W),iv (g.H),g0,g1,g2],.agg #[iv (h.W),iv (h.H),h0,h1,h2],iv k,iv x,iv y,.agg (OZ c).toArray]) 82 Tryz.func75 rfl rfl (Nat.le_of_ble_eq_true rfl) ?_
 have g_f0:=KP.refl w0 T_f0
 have g_f1:=KP.refl w0 T_f1
 have g_f2:=KP.refl w0 T_f2
 have g_g0:=KP.refl w0 T_g0
 have g_g1:=KP.refl w0 T_g1
 have g_g2:=KP.refl w0 T_g2
 have g_h0:=KP.refl w0 T_h0
 have g_h1:=KP.refl w0 T_h1
 have g_h2:=KP.refl w0 T_h2
 refine KH (KF (Lt (vs:=[iv (f.W),iv (f.H),f0,f1,f2]) rfl rfl rfl rfl fun p1 w2 B4 g5 k3=>?_))
 obtain⟨bV,bW,bX,bY,bZ,b7,b8,b9,cd⟩:=YM k3 h_f0 h_f1 h_f2 h_g0 h_g1 h_g2 h_h0 h_h1 h_h2
 refine Lt (vs:=[iv (g.W),iv (g.H),g0,g1,g2]) rfl rfl rfl rfl fun ce fJ cf fK aM=>?_
 obtain⟨cg,ci,cj,cm,cn,co,cq,cr,ct,cu⟩:=RG aM bV bW bX bY bZ b7 b8 b9 cd B4
 refine Lt (vs:=[iv (h.W),iv (h.H),h0,h1,h2]) rfl rfl rfl rfl fun aN fL cv fM aO=>?_
 obtain⟨cw,cy,cz,cA,cB,cC,cD,cE,cF,cG,cH⟩:=N5 aO cg ci cj cm cn co cq cr ct cu cf
 refine Lt (vs:=(OZ c)) rfl rfl rfl rfl fun ab fN cI fO aP=>?_
 obtain⟨cJ,cK,cL,cM,cN,cO,cP,cQ,cR,cS,cT,cU⟩:=azx aP cw cy cz cA cB cC cD cE cF cG cH cv
 have aQ:=((((KM.refl (fun _=>False) w0).tr k3).tr aM).tr aO).tr aP
 refine LY rfl rfl rfl KW.2.2 fun ap fP aR cV aS=>?_
 have aT:=LS (Nat.le_of_eq aR.symm)
 have ac:=KP.new aQ aT
 clear aR aT
 obtain⟨cW,cX,cY,cZ,c5,c6,c7,c9,da,db,dc,dd,aU⟩:=Xx aS cJ cK cL cM cN cO cP cQ cR cS cT cU cI
 have aV:=aQ.tr aS
 refine KG (iv 0) rfl rfl (KT rfl rfl rr) (KL ?_)
 have aq:=K4 (iv k)
 have ar:=K4 (iv x)
 have au:=K4 (iv y)
 have ae:=K4 (undef)
 have de:=K4 (pt p1 0)
 have df:=K4 (pt ce 0)
 have aW:=K4 (pt aN 0)
 have aj:=K4 (pt ab 0)
 have aa:=K4 (pt ap 0)
 refine KE (VM (KH (KF (KG (pt ab 0) rfl rfl (KQ (n:=1) rfl aj Tryz.underlying71 rfl (by kernel_rfl) (by decide) rfl rr) (KG (iv (c.m)) rfl rfl (KR rfl rfl Tryz.underlying3 aU rfl rfl rr) (LV rfl rfl rfl rfl rfl (fun _ _=>by kernel_rfl) (Lj rfl LP) (Vd (c.m)  _ (hA.all aV)  ) fun fQ aX=>?_))))))
 obtain⟨dg,dh,di,dj,dk,dl,aY,aZ,a8,dm,dn,a9,ba,bb⟩:=OW aX cW cX cY cZ c5 c6 c7 c9 da db dc dd aU cV
 have bc:=aV.tr aX
 refine KG (.tuple #[.bool (NE (c.m)),.bool (Ni (c.m))]) rfl rfl (KN rfl rfl rr) (KG (.bool (NE (c.m))) rfl rfl (LI rfl rfl rfl rr) (KG (.bool (Ni (c.m))) rfl rfl (LI rfl rfl rfl rr) (KG (.bool (NE (c.m))) rfl rfl (KT rfl rfl rr) (KG (.bool (Ni (c.m))) rfl rfl (KT rfl rfl rr) (KL ?_)))))
 have af:=K4 (.bool (NE (c.m)))
 have ak:=K4 (.bool (Ni (c.m)))
 refine KE (KH (KF (LY rfl rfl rfl KW.2.2 fun bd fR be bf bg=>?_)))
 have bh:=LS (Nat.le_of_eq be.symm)
 obtain⟨dp,dq,dr,dt,du,dv⟩:=Vk bh aY aZ a8 a9 ba bb
 clear be
 obtain⟨dw,dy,dz,dA,dB,dC,dD,dE,dF,dG,dH,dI,dJ,bi⟩:=OW bg dg dh di dj dk dl aY aZ a8 dm dn a9 ba bb
 have bj:=bc.tr bg
 refine LY rfl rfl rfl KW.2.2 fun bl bm bn dK az=>?_
 have aA:=LS (Nat.le_of_eq bn.symm)
 have bo:=KP.new bj aA
 obtain⟨bp,bq⟩:=TI aA bi bf
 clear bn aA
 obtain⟨dL,dM,dN,dO,dP,dQ,dR,dS,dT,dU,dV,dW,aB,bt⟩:=OW az dw dy dz dA dB dC dD dE dF dG dH dI dJ bi
 have dX:=bf.all az id
 have bu:=bj.tr az
 refine KL ?_
 have aC:=K4 (pt bd 0)
 have av:=K4 (pt bl 0)
 refine KE (KH (KF (KG (iv 120) rfl rfl (KT rfl rfl rr) (KL ?_))))
 have dY:=K4 (iv 120)
 refine KE (KH (KH ?_))
 by_cases bv:0<=(c.m)/\(c.m)<7
 ·skip
  refine KF (KG (pt ab 0) rfl rfl (KQ (n:=1) rfl aj Tryz.underlying71 rfl (by kernel_rfl) (by decide) rfl rr) (KG (iv (c.m)) rfl rfl (KR rfl rfl Tryz.underlying3 aB rfl rfl rr) (Lw (R:=fun v_ w_=>v_ = .bool true/\KM (fun _=>False) bm w_) rfl rfl (LE rfl rfl rfl (fun _ _=>by kernel_rfl) (K2 _) (Lj rfl LP) (Qb (c.m)  _   ) (fun e_ w_ h_=>⟨_,h_.1,(congrArg Value.bool (decide_eq_true bv)),h_.2⟩)) ?_)))
  rintro _ fS ⟨rfl,aD⟩
  obtain⟨dZ,d8,d9,eb,ee,eh,bz,bA,bB,ei,ek,bC,aw,aE⟩:=OW aD dL dM dN dO dP dQ dR dS dT dU dV dW aB bt
  obtain⟨en,bD⟩:=NL aD dX dK
  have aF:=bu.tr aD
  refine KG (.bool false) rfl rfl (LT rfl rfl rfl rr) (KL ?_)
  have eo:=K4 (.bool false)
  refine KE ?_
  refine K5 (t:=false) eo (fun e=>by cases e) (fun _=>?_)
  refine Lf (KE (KH (KH ?_)))
  have hm7:0<=c.m/\c.m<7:=by first|assumption|(apply Decidable.byContradiction;assumption)
  refine KF (KS rfl rfl rfl af (KL ?_))
  have ep:=K4 (.bool (NE (c.m)))
  refine KE ?_
  refine K5 ep (fun ah=>?_) (fun ah=>?_)
  ·skip
   refine KH (KF (KG (.agg #[iv (g.W),iv (g.H),g0,g1,g2]) rfl rfl (KU KZ rfl df ek rr) (KS rfl rfl rfl aq (KS rfl rfl rfl ar (KS rfl rfl rfl au (KG (pt ab 1) rfl rfl (KQ (n:=2) rfl aj Tryz.underlying71 rfl (by kernel_rfl) (by decide) rfl rr) (KG (.agg #[iv (c.px),iv (c.py)]) rfl rfl (O5 (n:=2) LL rfl rfl aw (Nat.le_of_ble_eq_true rfl) rfl rr) (LV rfl rfl rfl rfl rfl (fun _ _=>by kernel_rfl) (Lj rfl (Lj rfl (Lj rfl (Lj rfl (Lj rfl LP))))) (Sx k x y (c.px) (c.py) g g0 g1 g2 T_g0 T_g1 T_g2 _  eb ee eh ) fun fT bE=>?_))))))))
   obtain⟨er,et,eu,ew,ex,ey,ez,eA⟩:=Xz bE bz bA bB bC aw aE en bD
   refine KG (.tuple #[LH (Ud g k x y (c.px) (c.py)),iv (OU g k x y (c.px) (c.py))]) rfl rfl (KN rfl rfl rr) (KG (LH (Ud g k x y (c.px) (c.py))) rfl rfl (LI rfl rfl rfl rr) (KG (iv (OU g k x y (c.px) (c.py))) rfl rfl (LI rfl rfl rfl rr) (Lm KW rfl rfl rfl aC rfl ez fun fU bF ai=>?_)))
   have eB:=er.all ai dp.symm
   have eC:=et.all ai dq.symm
   have eD:=eu.all ai dr.symm
   have eE:=ew.all ai (dt.symm aN rfl)
   have eF:=ex.all ai (du.symm ab rfl)
   have aG:=ey.all ai (dv.symm ap rfl)
   have eG:=eA.all ai (bq bl rfl)
   have aH:=(aF.tr bE).trans ai (KP.ok (S:=fun _=>False) (KP.new bc bh) K3)
   refine KG (iv (OU g k x y (c.px) (c.py))) rfl rfl (KT rfl rfl rr) (KL ?_)
   have bG:=K4 (iv (OU g k x y (c.px) (c.py)))
   refine KE (KH (KF (KS rfl rfl rfl bG (KG (.bool (decide ((OU g k x y (c.px) (c.py))≠0))) rfl rfl (L9 rfl rfl rfl rfl rr) (KL ?_)))))
   have eH:=K4 (.bool (decide ((OU g k x y (c.px) (c.py))≠0)))
   refine KE ?_
   refine K5 eH (fun am=>?_) (fun am=>?_)
   ·replace am:=of_decide_eq_true am
    refine Nr (Mi ?_)
    refine MM ⟨_,rfl,?_⟩
    refine KH (Lf (KE (KH ?_)))
    first|have hR:=WR (f:=f) (p:=g) (n:=h) (k:=k) (x:=x) (y:=y) (c:=c) (by omega)|have hR:=Td (f:=f) (p:=g) (n:=h) (k:=k) (x:=x) (y:=y) (c:=c) (QF (by assumption)) (by assumption)|have hR:=SX (f:=f) (p:=g) (n:=h) (k:=k) (x:=x) (y:=y) (c:=c) (by have a1:=TD (m:=c.m) (by assumption);have a2:=QC (m:=c.m) (by assumption);omega) (by assumption)|have hR:=S4 (f:=f) (p:=g) (n:=h) (k:=k) (x:=x) (y:=y) (c:=c) (by have a1:=QF (m:=c.m) (by assumption);have a2:=QC (m:=c.m) (by assumption);omega) (by first|assumption|(apply Decidable.byContradiction;assumption)) (by assumption)
    refine KF (KG (LH (fun _=>0)) rfl rfl (Mt (cells:=(L6 16 (fun _=>0)).toArray) rfl (by kernel_rfl) rfl rr) (KS rfl rfl rfl bG (Lm KW rfl rfl rfl aa rfl aG fun fV eI eJ=>?_)))
    refine KG (iv (OU g k x y (c.px) (c.py))) rfl rfl (KT rfl rfl rr) (KL ?_)
    have eK:=K4 (iv (OU g k x y (c.px) (c.py)))
    refine KE (La (M2 ?_))
    exact L4 ae rfl (Mn KW rfl aa eI) (Lu (v:=iv (OU g k x y (c.px) (c.py))) rfl eK) ⟨(by first|rw[hR.1,hR.2,he0]|rw[hR.1,hR.2]),(aH.trans eJ (KP.ok (S:=fun _=>False) ac K3))⟩
   ·replace am:=of_decide_eq_false am
    refine Lf (KE (KH (KH (KF (KS rfl rfl rfl ak (KL ?_))))))
    have eL:=K4 (.bool (Ni (c.m)))
    refine KE ?_
    refine K5 eL (fun aI=>?_) (fun aI=>?_)
    ·skip
     refine KH (KF (KG (.agg #[iv (h.W),iv (h.H),h0,h1,h2]) rfl rfl (KU KZ rfl aW eE rr) (KS rfl rfl rfl aq (KS rfl rfl rfl ar (KS rfl rfl rfl au (KG (pt ab 3) rfl rfl (KQ (n:=2) rfl aj Tryz.underlying71 rfl (by kernel_rfl) (by decide) rfl rr) (KG (.agg #[iv (c.nx),iv (c.ny)]) rfl rfl (O5 (n:=2) LL rfl rfl eF (Nat.le_of_ble_eq_true rfl) rfl rr) (LV rfl rfl rfl rfl rfl (fun _ _=>by kernel_rfl) (Lj rfl (Lj rfl (Lj rfl (Lj rfl (Lj rfl LP))))) (Sx k x y (c.nx) (c.ny) h h0 h1 h2 T_h0 T_h1 T_h2 _  eB eC eD ) fun fW bH=>?_))))))))
     obtain⟨eM,eN,eO⟩:=Nx bH aG bF eG
     refine KG (.tuple #[LH (Ud h k x y (c.nx) (c.ny)),iv (OU h k x y (c.nx) (c.ny))]) rfl rfl (KN rfl rfl rr) (KG (LH (Ud h k x y (c.nx) (c.ny))) rfl rfl (LI rfl rfl rfl rr) (KG (iv (OU h k x y (c.nx) (c.ny))) rfl rfl (LI rfl rfl rfl rr) (Lm KW rfl rfl rfl av rfl eO fun fX eP aJ=>?_)))
     have bI:=eM.all aJ (bp.symm ap rfl)
     have eQ:=eN.all aJ (bq.symm bd rfl)
     have bJ:=(aH.tr bH).trans aJ (KP.ok (S:=fun _=>False) bo K3)
     refine KG (iv (OU h k x y (c.nx) (c.ny))) rfl rfl (KT rfl rfl rr) (KL ?_)
     have bK:=K4 (iv (OU h k x y (c.nx) (c.ny)))
     refine KE (KH (KF (KS rfl rfl rfl bK (KG (.bool (decide ((OU h k x y (c.nx) (c.ny))≠0))) rfl rfl (L9 rfl rfl rfl rfl rr) (KL ?_)))))
     have eR:=K4 (.bool (decide ((OU h k x y (c.nx) (c.ny))≠0)))
     refine KE ?_
     refine K5 eR (fun an=>?_) (fun an=>?_)
     ·replace an:=of_decide_eq_true an
      refine Nr (Mi ?_)
      refine MM ⟨_,rfl,?_⟩
      refine KH (Lf (KE (KH ?_)))
      first|have hR:=WR (f:=f) (p:=g) (n:=h) (k:=k) (x:=x) (y:=y) (c:=c) (by omega)|have hR:=Td (f:=f) (p:=g) (n:=h) (k:=k) (x:=x) (y:=y) (c:=c) (QF (by assumption)) (by assumption)|have hR:=SX (f:=f) (p:=g) (n:=h) (k:=k) (x:=x) (y:=y) (c:=c) (by have a1:=TD (m:=c.m) (by assumption);have a2:=QC (m:=c.m) (by assumption);omega) (by assumption)|have hR:=S4 (f:=f) (p:=g) (n:=h) (k:=k) (x:=x) (y:=y) (c:=c) (by have a1:=QF (m:=c.m) (by assumption);have a2:=QC (m:=c.m) (by assumption);omega) (by first|assumption|(apply Decidable.byContradiction;assumption)) (by assumption)
      refine KF (KG (LH (fun _=>0)) rfl rfl (Mt (cells:=(L6 16 (fun _=>0)).toArray) rfl (by kernel_rfl) rfl rr) (KS rfl rfl rfl bK (Lm KW rfl rfl rfl aa rfl bI fun fY eS eT=>?_)))
      refine KG (iv (OU h k x y (c.nx) (c.ny))) rfl rfl (KT rfl rfl rr) (KL ?_)
      have eU:=K4 (iv (OU h k x y (c.nx) (c.ny)))
      refine KE (La (M2 ?_))
      exact L4 ae rfl (Mn KW rfl aa eS) (Lu (v:=iv (OU h k x y (c.nx) (c.ny))) rfl eU) ⟨(by first|rw[hR.1,hR.2,he0]|rw[hR.1,hR.2]),(bJ.trans eT (KP.ok (S:=fun _=>False) ac K3))⟩
     ·replace an:=of_decide_eq_false an
      refine Lf (KE (KH (Lk (KH (KF (KG (.bool true) rfl rfl (KN rfl (Eq.trans af (congrArg Value.bool ah)) rr) (KG (.bool true) rfl rfl (KN rfl rfl rr) (KO (.bool true) 1 true 59 rfl rfl rfl rfl rfl (KN rfl (Eq.trans ak (congrArg Value.bool aI)) rr) (KG (.bool true) rfl rfl (Ld rfl rfl rfl rr) (KG (.bool true) rfl rfl (KT rfl rfl rr) (KL ?_)))))))))))
      have eV:=K4 (.bool true)
      refine KE ?_
      refine K5 (t:=true) eV (fun _=>?_) (fun e=>by cases e)
      refine KH ?_
      have hR:=ZA (f:=f) (p:=g) (n:=h) (k:=k) (x:=x) (y:=y) (c:=c) (by have a1:=QF (m:=c.m) (by assumption);have a2:=QC (m:=c.m) (by assumption);omega) (by first|assumption|(apply Decidable.byContradiction;assumption)) (by first|assumption|(apply Decidable.byContradiction;assumption))
      refine KF (KG (LH (Ud g k x y (c.px) (c.py))) rfl rfl (LX KW rfl aC eQ rr) (KG (LH (Ud h k x y (c.nx) (c.ny))) rfl rfl (LX KW rfl av eP rr) (LV rfl rfl rfl rfl rfl (fun _ _=>by kernel_rfl) (Lj rfl (Lj rfl LP)) (aBc (Ud g k x y (c.px) (c.py)) (Ud h k x y (c.nx) (c.ny))  _   ) fun fZ bL=>?_)))
      have eW:=bI.all bL id
      refine Lm KW rfl rfl rfl aa rfl eW fun f5 eX eY=>?_
      refine KG (iv 0) rfl rfl (KT rfl rfl rr) (KL ?_)
      have eZ:=K4 (iv 0)
      refine KE (La (NT (Ln (O0 ?_))))
      exact L4 ae rfl (Mn KW rfl aa eX) (Lu (v:=iv 0) rfl eZ) ⟨(by first|rw[hR.1,hR.2,he0]|rw[hR.1,hR.2]),((bJ.tr bL).trans eY (KP.ok (S:=fun _=>False) ac K3))⟩
    ·skip
     refine Lf (KE (KH (Lk (KH (KF (KG (.bool true) rfl rfl (KN rfl (Eq.trans af (congrArg Value.bool ah)) rr) (KG (.bool true) rfl rfl (KN rfl rfl rr) (KO (.bool false) 1 true 59 rfl rfl rfl rfl rfl (KN rfl (Eq.trans ak (congrArg Value.bool aI)) rr) (KG (.bool false) rfl rfl (Ld rfl rfl rfl rr) (KG (.bool false) rfl rfl (KT rfl rfl rr) (KL ?_)))))))))))
     have e6:=K4 (.bool false)
     refine KE ?_
     refine K5 (t:=false) e6 (fun e=>by cases e) (fun _=>?_)
     refine KH (KF (KG (.bool true) rfl rfl (KN rfl (Eq.trans af (congrArg Value.bool ah)) rr) (KG (.bool true) rfl rfl (KT rfl rfl rr) (KL ?_))))
     have e7:=K4 (.bool true)
     refine KE ?_
     refine K5 (t:=true) e7 (fun _=>?_) (fun e=>by cases e)
     refine KH ?_
     have hR:=UE (f:=f) (p:=g) (n:=h) (k:=k) (x:=x) (y:=y) (c:=c) (by have a1:=QF (m:=c.m) (by assumption);have a2:=aAE (m:=c.m) (by assumption);omega)
     have he0:=show OU g k x y c.px c.py=0 from (by first|assumption|(apply Decidable.byContradiction;assumption))
     refine KF (KG (LH (Ud g k x y (c.px) (c.py))) rfl rfl (LX KW rfl aC bF rr) (Lm KW rfl rfl rfl aa rfl aG fun f6 e8 e9=>?_))
     refine KG (iv 0) rfl rfl (KT rfl rfl rr) (KL ?_)
     have fa:=K4 (iv 0)
     refine KE (La (NT (Ln (O0 ?_))))
     exact L4 ae rfl (Mn KW rfl aa e8) (Lu (v:=iv 0) rfl fa) ⟨(by first|rw[hR.1,hR.2,he0]|rw[hR.1,hR.2]),(aH.trans e9 (KP.ok (S:=fun _=>False) ac K3))⟩
  ·skip
   refine Lf (KE (KH (KH (KF (KS rfl rfl rfl ak (KL ?_))))))
   have fb:=K4 (.bool (Ni (c.m)))
   refine KE ?_
   refine K5 fb (fun aK=>?_) (fun aK=>?_)
   ·skip
    refine KH (KF (KG (.agg #[iv (h.W),iv (h.H),h0,h1,h2]) rfl rfl (KU KZ rfl aW bC rr) (KS rfl rfl rfl aq (KS rfl rfl rfl ar (KS rfl rfl rfl au (KG (pt ab 3) rfl rfl (KQ (n:=2) rfl aj Tryz.underlying71 rfl (by kernel_rfl) (by decide) rfl rr) (KG (.agg #[iv (c.nx),iv (c.ny)]) rfl rfl (O5 (n:=2) LL rfl rfl aw (Nat.le_of_ble_eq_true rfl) rfl rr) (LV rfl rfl rfl rfl rfl (fun _ _=>by kernel_rfl) (Lj rfl (Lj rfl (Lj rfl (Lj rfl (Lj rfl LP))))) (Sx k x y (c.nx) (c.ny) h h0 h1 h2 T_h0 T_h1 T_h2 _  bz bA bB ) fun f8 bM=>?_))))))))
    obtain⟨fc,fd⟩:=NL bM aE bD
    refine KG (.tuple #[LH (Ud h k x y (c.nx) (c.ny)),iv (OU h k x y (c.nx) (c.ny))]) rfl rfl (KN rfl rfl rr) (KG (LH (Ud h k x y (c.nx) (c.ny))) rfl rfl (LI rfl rfl rfl rr) (KG (iv (OU h k x y (c.nx) (c.ny))) rfl rfl (LI rfl rfl rfl rr) (Lm KW rfl rfl rfl av rfl fd fun f9 fe bN=>?_)))
    have bO:=fc.all bN (bp.symm ap rfl)
    have bP:=(aF.tr bM).trans bN (KP.ok (S:=fun _=>False) bo K3)
    refine KG (iv (OU h k x y (c.nx) (c.ny))) rfl rfl (KT rfl rfl rr) (KL ?_)
    have bQ:=K4 (iv (OU h k x y (c.nx) (c.ny)))
    refine KE (KH (KF (KS rfl rfl rfl bQ (KG (.bool (decide ((OU h k x y (c.nx) (c.ny))≠0))) rfl rfl (L9 rfl rfl rfl rfl rr) (KL ?_)))))
    have ff:=K4 (.bool (decide ((OU h k x y (c.nx) (c.ny))≠0)))
    refine KE ?_
    refine K5 ff (fun ao=>?_) (fun ao=>?_)
    ·replace ao:=of_decide_eq_true ao
     refine Nr (Mi ?_)
     refine MM ⟨_,rfl,?_⟩
     refine KH (Lf (KE (KH ?_)))
     first|have hR:=WR (f:=f) (p:=g) (n:=h) (k:=k) (x:=x) (y:=y) (c:=c) (by omega)|have hR:=Td (f:=f) (p:=g) (n:=h) (k:=k) (x:=x) (y:=y) (c:=c) (QF (by assumption)) (by assumption)|have hR:=SX (f:=f) (p:=g) (n:=h) (k:=k) (x:=x) (y:=y) (c:=c) (by have a1:=TD (m:=c.m) (by assumption);have a2:=QC (m:=c.m) (by assumption);omega) (by assumption)|have hR:=S4 (f:=f) (p:=g) (n:=h) (k:=k) (x:=x) (y:=y) (c:=c) (by have a1:=QF (m:=c.m) (by assumption);have a2:=QC (m:=c.m) (by assumption);omega) (by first|assumption|(apply Decidable.byContradiction;assumption)) (by assumption)
     refine KF (KG (LH (fun _=>0)) rfl rfl (Mt (cells:=(L6 16 (fun _=>0)).toArray) rfl (by kernel_rfl) rfl rr) (KS rfl rfl rfl bQ (Lm KW rfl rfl rfl aa rfl bO fun ga fg fh=>?_)))
     refine KG (iv (OU h k x y (c.nx) (c.ny))) rfl rfl (KT rfl rfl rr) (KL ?_)
     have fi:=K4 (iv (OU h k x y (c.nx) (c.ny)))
     refine KE (La (M2 ?_))
     exact L4 ae rfl (Mn KW rfl aa fg) (Lu (v:=iv (OU h k x y (c.nx) (c.ny))) rfl fi) ⟨(by first|rw[hR.1,hR.2,he0]|rw[hR.1,hR.2]),(bP.trans fh (KP.ok (S:=fun _=>False) ac K3))⟩
    ·replace ao:=of_decide_eq_false ao
     refine Lf (KE (KH (Lk (KH (KF (KG (.bool false) rfl rfl (KN rfl (Eq.trans af (congrArg Value.bool ah)) rr) (KG (.bool false) rfl rfl (KN rfl rfl rr) (KI 1 true 59 rfl rfl rfl (Or.inl rfl) rfl (KG (.bool false) rfl rfl (K6 rfl rfl rfl rr) (KG (.bool false) rfl rfl (KT rfl rfl rr) (KL ?_)))))))))))
     have fj:=K4 (.bool false)
     refine KE ?_
     refine K5 (t:=false) fj (fun e=>by cases e) (fun _=>?_)
     refine KH (KF (KG (.bool false) rfl rfl (KN rfl (Eq.trans af (congrArg Value.bool ah)) rr) (KG (.bool false) rfl rfl (KT rfl rfl rr) (KL ?_))))
     have fk:=K4 (.bool false)
     refine KE ?_
     refine K5 (t:=false) fk (fun e=>by cases e) (fun _=>?_)
     refine KH (KF (KG (.bool true) rfl rfl (KN rfl (Eq.trans ak (congrArg Value.bool aK)) rr) (KG (.bool true) rfl rfl (KT rfl rfl rr) (KL ?_))))
     have fm:=K4 (.bool true)
     refine KE ?_
     refine K5 (t:=true) fm (fun _=>?_) (fun e=>by cases e)
     refine KH ?_
     have hR:=UP (f:=f) (p:=g) (n:=h) (k:=k) (x:=x) (y:=y) (c:=c) (by have a1:=TD (m:=c.m) (by assumption);have a2:=QC (m:=c.m) (by assumption);omega)
     have he0:=show OU h k x y c.nx c.ny=0 from (by first|assumption|(apply Decidable.byContradiction;assumption))
     refine KF (KG (LH (Ud h k x y (c.nx) (c.ny))) rfl rfl (LX KW rfl av fe rr) (Lm KW rfl rfl rfl aa rfl bO fun gb fo fp=>?_))
     refine KG (iv 0) rfl rfl (KT rfl rfl rr) (KL ?_)
     have fq:=K4 (iv 0)
     refine KE (La (NT (Ln (O0 ?_))))
     exact L4 ae rfl (Mn KW rfl aa fo) (Lu (v:=iv 0) rfl fq) ⟨(by first|rw[hR.1,hR.2,he0]|rw[hR.1,hR.2]),(bP.trans fp (KP.ok (S:=fun _=>False) ac K3))⟩
   ·skip
    refine Lf (KE (KH (Lk (KH (KF (KG (.bool false) rfl rfl (KN rfl (Eq.trans af (congrArg Value.bool ah)) rr) (KG (.bool false) rfl rfl (KN rfl rfl rr) (KI 1 true 59 rfl rfl rfl (Or.inl rfl) rfl (KG (.bool false) rfl rfl (K6 rfl rfl rfl rr) (KG (.bool false) rfl rfl (KT rfl rfl rr) (KL ?_)))))))))))
    have ft:=K4 (.bool false)
    refine KE ?_
    refine K5 (t:=false) ft (fun e=>by cases e) (fun _=>?_)
    refine KH (KF (KG (.bool false) rfl rfl (KN rfl (Eq.trans af (congrArg Value.bool ah)) rr) (KG (.bool false) rfl rfl (KT rfl rfl rr) (KL ?_))))
    have fu:=K4 (.bool false)
    refine KE ?_
    refine K5 (t:=false) fu (fun e=>by cases e) (fun _=>?_)
    refine KH (KF (KG (.bool false) rfl rfl (KN rfl (Eq.trans ak (congrArg Value.bool aK)) rr) (KG (.bool false) rfl rfl (KT rfl rfl rr) (KL ?_))))
    have fw:=K4 (.bool false)
    refine KE ?_
    refine K5 (t:=false) fw (fun e=>by cases e) (fun _=>?_)
    refine Lf (LA (KE (KH (KH ?_))))
    have hR:=azp (f:=f) (p:=g) (n:=h) (k:=k) (x:=x) (y:=y) (c:=c) (by have a1:=TD (m:=c.m) (by assumption);have a2:=aAE (m:=c.m) (by assumption);omega)
    refine KF (KG (.agg #[iv (f.W),iv (f.H),f0,f1,f2]) rfl rfl (KU KZ rfl de ei rr) (KS rfl rfl rfl aq (KS rfl rfl rfl ar (KS rfl rfl rfl au (KG (pt ab 0) rfl rfl (KQ (n:=1) rfl aj Tryz.underlying71 rfl (by kernel_rfl) (by decide) rfl rr) (KG (iv (c.m)) rfl rfl (KR rfl rfl Tryz.underlying3 aw rfl rfl rr) (LV rfl rfl rfl rfl rfl (fun _ _=>by kernel_rfl) (Lj rfl (Lj rfl (Lj rfl (Lj rfl (Lj rfl LP))))) (YS k x y (c.m) f f0 f1 f2 T_f0 T_f1 T_f2 _  dZ d8 d9 ) fun gc bR=>?_)))))))
    have fx:=aE.all bR id
    refine KG (LH (Vh f k x y (c.m))) rfl rfl (LI rfl rfl rfl rr) (KG (iv (Ry f k x y (c.m))) rfl rfl (LI rfl rfl rfl rr) (Lm KW rfl rfl rfl aa rfl fx fun gd fy fA=>?_))
    refine KG (iv (Ry f k x y (c.m))) rfl rfl (KT rfl rfl rr) (KL ?_)
    have fB:=K4 (iv (Ry f k x y (c.m)))
    refine KE (La (Ln (O0 ?_)))
    exact L4 ae rfl (Mn KW rfl aa fy) (Lu (v:=iv (Ry f k x y (c.m))) rfl fB) ⟨(by first|rw[hR.1,hR.2,he0]|rw[hR.1,hR.2]),((aF.tr bR).trans fA (KP.ok (S:=fun _=>False) ac K3))⟩
 ·skip
  refine KF (KG (pt ab 0) rfl rfl (KQ (n:=1) rfl aj Tryz.underlying71 rfl (by kernel_rfl) (by decide) rfl rr) (KG (iv (c.m)) rfl rfl (KR rfl rfl Tryz.underlying3 aB rfl rfl rr) (Lw (R:=fun v_ w_=>v_ = .bool false/\KM (fun _=>False) bm w_) rfl rfl (LE rfl rfl rfl (fun _ _=>by kernel_rfl) (K2 _) (Lj rfl LP) (Qb (c.m)  _   ) (fun e_ w_ h_=>⟨_,h_.1,(congrArg Value.bool (decide_eq_false bv)),h_.2⟩)) ?_)))
  rintro _ ge ⟨rfl,bS⟩
  have fC:=bt.all bS id
  refine KG (.bool true) rfl rfl (LT rfl rfl rfl rr) (KL ?_)
  have fD:=K4 (.bool true)
  refine KE ?_
  refine K5 (t:=true) fD (fun _=>?_) (fun e=>by cases e)
  refine Nr (Mi ?_)
  refine MM ⟨_,rfl,?_⟩
  refine KH (Lf (KE (KH ?_)))
  first|have hR:=WR (f:=f) (p:=g) (n:=h) (k:=k) (x:=x) (y:=y) (c:=c) (by omega)|have hR:=Td (f:=f) (p:=g) (n:=h) (k:=k) (x:=x) (y:=y) (c:=c) (QF (by assumption)) (by assumption)|have hR:=SX (f:=f) (p:=g) (n:=h) (k:=k) (x:=x) (y:=y) (c:=c) (by have a1:=TD (m:=c.m) (by assumption);have a2:=QC (m:=c.m) (by assumption);omega) (by assumption)|have hR:=S4 (f:=f) (p:=g) (n:=h) (k:=k) (x:=x) (y:=y) (c:=c) (by have a1:=QF (m:=c.m) (by assumption);have a2:=QC (m:=c.m) (by assumption);omega) (by first|assumption|(apply Decidable.byContradiction;assumption)) (by assumption)
  refine KF (KG (LH (fun _=>0)) rfl rfl (Mt (cells:=(L6 16 (fun _=>0)).toArray) rfl (by kernel_rfl) rfl rr) (KS rfl rfl rfl dY (Lm KW rfl rfl rfl aa rfl fC fun gh fE fF=>?_)))
  refine KG (iv 120) rfl rfl (KT rfl rfl rr) (KL ?_)
  have fG:=K4 (iv 120)
  refine KE (La (M2 ?_))
  exact L4 ae rfl (Mn KW rfl aa fE) (Lu (v:=iv 120) rfl fG) ⟨(by first|rw[hR.1,hR.2,he0]|rw[hR.1,hR.2]),((bu.tr bS).trans fF (KP.ok (S:=fun _=>False) ac K3))⟩
theorem aAN(l:List Nat)(n:Int)(s:Option Nat):0<=(Lo (Lx l n) s).1:=by
 cases s with
 | none=>simp[Lo]
 | some a =>
  cases h:Mx l a with
  | none=>simp[Lo,Lx,h]
  | some p =>
   obtain⟨v,a'⟩:=p
   have hb:=QT l a v a' h
   by_cases hv:n<v
   ·simp[Lo,Lx,h,hv]
   ·simp[Lo,Lx,h,hv];exact hb.1
theorem PR{l:List Nat}{k ax ay bx yy m:Int}{st s1:Option Nat}(hm:m=(Lo (Lx l 6) st).1)(hs:s1=(Lo (Lx l 6) st).2)(h:s1.isNone=true\/¬ (0<=m/\m<=NR k)):∃ s,Sk l k ax ay bx yy st=(ch0,120,s):=by
 have h0:=aAN l 6 st
 have e:=Uc (l:=l) (VA k) st
 rw[if_pos (by rw[← hm,← hs];rw[← hm] at h0;rcases h with h|h;exact .inl h;exact .inr (by omega))] at e
 exact⟨none,by unfold Sk;rw[e];unfold rd1;exact if_pos rfl⟩
theorem aBn{l:List Nat}{k ax ay bx yy m:Int}{st s1:Option Nat}(hm:m=(Lo (Lx l 6) st).1)(hs:s1=(Lo (Lx l 6) st).2)(h1:s1.isNone=false)(h2:0<=m/\m<=NR k):Sk l k ax ay bx yy st=Yh l m bx yy (stV (NE m) l ax ay s1):=by
 have e:=Uc (l:=l) (VA k) st
 rw[if_neg (by rw[← hm,← hs,h1];rintro (h|h);cases h;omega)] at e
 unfold Sk;rw[e];unfold rd1
 rw[if_neg (by rw[← hs,h1];exact Bool.false_ne_true),← hm,← hs]
theorem aBv(p:Nat)(l:List Nat)(st:Option Nat)(k ax ay bx yy:Int)(T_r:Nat->Prop)(w0:World)(hA:NM w0)(hO:Of w0)(hG:∀ i,T_r i->5<=i)(h_r:Pn w0 T_r p (l) (st)) :
  Calls Tryz.prog 62 #[.pointer (some ⟨p,0,none⟩),.int .i64 (k),.agg #[.int .i64 (ax),.int .i64 (ay)],.agg #[.int .i64 (bx),.int .i64 (yy)]] w0 fun e w'=>∃ (T_r':Nat->Prop),e = .returned (.tuple #[.agg (OZ ((Sk l k ax ay bx yy st).1)).toArray,.int .i64 ((Sk l k ax ay bx yy st).2.1)])/\KM (T_r) w0 w'/\(Pn w' T_r' p (l) (MU l k ax ay bx yy st)/\KP w0 T_r T_r'):=by
 refine Lp (args:=[pt p 0,iv k,.agg #[iv ax,iv ay],.agg #[iv bx,iv yy]]) 68 Tryz.func62 rfl rfl (Nat.le_of_ble_eq_true rfl) ?_
 obtain⟨m,hm⟩:∃ m,m=(Lo (Lx l 6) st).1:=⟨_,rfl⟩
 obtain⟨s1,hs1⟩:∃ s,s=(Lo (Lx l 6) st).2:=⟨_,rfl⟩
 have g_r:=KP.refl w0 T_r
 refine KH (KF (Lt (vs:=[iv ax,iv ay]) rfl rfl rfl rfl fun p1 w2 B4 g5 k3=>?_))
 have cy:=KJ.new g5 h_r.live
 have B8:=h_r.all k3 KJ.none
 refine Lt (vs:=[iv bx,iv yy]) rfl rfl rfl rfl fun ar kQ fh fi cA=>?_
 have cB:=KJ.new fi B8.live
 obtain⟨cC,fj⟩:=NL cA B8 B4
 have cD:=((KM.refl T_r w0).tr k3).tr cA
 refine LF (n:=21) (vs:=(Ob 0 0 0 0 0 (fun _=>(0:Int)))) rfl rfl rfl (by kernel_rfl) fun ac kR cE cF cG=>?_
 have an:=KP.new cD cF
 have cH:=KJ.new cF cC.live
 obtain⟨fk,cI,cJ⟩:=Nx cG cC fj fh
 have cK:=cD.tr cG
 refine KG (iv 0) rfl rfl (KT rfl rfl rr) (KL ?_)
 have aE:=K4 (pt p 0)
 have cL:=K4 (iv k)
 have ao:=K4 (undef)
 have fm:=K4 (pt p1 0)
 have cM:=K4 (pt ar 0)
 have af:=K4 (pt ac 0)
 refine KE (VM (KH (KH (KF (KS rfl rfl rfl aE (KG (.bool false) rfl rfl (Rp rfl rfl rfl Tryz.underlying54 rr) (KL ?_)))))))
 have fo:=K4 (.bool false)
 refine KE ?_
 refine K5 (t:=false) fo (fun e=>by cases e) (fun _=>?_)
 refine Lf (KE (KH ?_))
 obtain⟨g,a,b,hf,hT,hok,hp,hg,hap⟩:=azs fk
 have fp:KP w0 T_r (Le p):=fun i h=>g_r i ((fun i h=>(hT i).2 (Or.inl h)) i h)
 have fq:KJ (Le p) (Le p1):=fun i h=>cy.symm i ((fun i h=>(hT i).2 (Or.inl h)) i h)
 have ft:KJ (Le p) (Le ar):=fun i h=>cB.symm i ((fun i h=>(hT i).2 (Or.inl h)) i h)
 have fu:KJ (Le p) (Le ac):=fun i h=>cH.symm i ((fun i h=>(hT i).2 (Or.inl h)) i h)
 have fw:KP w0 T_r (Le g):=fun i h=>g_r i ((fun i h=>(hT i).2 (Or.inr h)) i h)
 have fx:KJ (Le g) (Le p1):=fun i h=>cy.symm i ((fun i h=>(hT i).2 (Or.inr h)) i h)
 have fy:KJ (Le g) (Le ar):=fun i h=>cB.symm i ((fun i h=>(hT i).2 (Or.inr h)) i h)
 have fA:KJ (Le g) (Le ac):=fun i h=>cH.symm i ((fun i h=>(hT i).2 (Or.inr h)) i h)
 have fB:KJ (Le p) (Le g):=hap
 refine KF (KS rfl rfl rfl aE (KG (pt p 0) rfl rfl (Og rfl rfl rr) (KG (.agg #[.slice (some ⟨g,0,none⟩) l.length l.length,iv ((a:Nat):Int),.bool b]) rfl rfl (KU MI rfl rfl hp rr) (LF (n:=3) (vs:=[.slice none 0 0,iv ((0:Nat):Int),.bool false]) rfl rfl rfl (by kernel_rfl) fun ae kS fC cN cO=>?_))))
 have cP:=KP.new cK cN
 obtain⟨cQ,cR,cS,cT,cU⟩:=Z4 cN cI cJ cE hp hg
 obtain⟨fD,fE,fF,fG,fH⟩:=OR cO cI cJ cE hp hg
 refine Lh (us:=[.slice (some ⟨g,0,none⟩) l.length l.length,iv ((a:Nat):Int),.bool b]) MI rfl rfl rfl rfl rfl fC rfl (KX rfl (KX rfl (KX rfl MC))) fun bA fI aF=>?_
 have fJ:=fD.all aF (cQ.symm p1 rfl)
 have cV:=fE.all aF (cR.symm ar rfl)
 have cW:=fF.all aF (cS.symm ac rfl)
 have fK:=fG.all aF (cT.symm p rfl)
 have fL:=fH.all aF cU.symm
 have cX:=(cK.tr cO).trans aF (KP.ok (S:=T_r) cP K3)
 refine KL ?_
 have ak:=K4 (pt ae 0)
 refine KE (KH ?_)
 have fM:PD bA (fun i=>(Le p) i\/((Le ae) i\/((Le g) i))) ae l st ([(p,st)]):=ayZ hf hok fK fI fL cT.symm fB cU
 have cY:KP w0 T_r (fun i=>(Le p) i\/((Le ae) i\/((Le g) i))):=fun i h=>h.elim (fun y=>fp i y) (fun y=>y.elim (fun y=>(KP.weak cP (fun _ z=>z.elim)) i y) (fun y=>fw i y))
 have fN:KJ (fun i=>(Le p) i\/((Le ae) i\/((Le g) i))) (Le p1):=fun i h=>h.elim (fun y=>fq i y) (fun y=>y.elim (fun y=>cQ i y) (fun y=>fx i y))
 have cZ:KJ (fun i=>(Le p) i\/((Le ae) i\/((Le g) i))) (Le ar):=fun i h=>h.elim (fun y=>ft i y) (fun y=>y.elim (fun y=>cR i y) (fun y=>fy i y))
 have c5:KJ (fun i=>(Le p) i\/((Le ae) i\/((Le g) i))) (Le ac):=fun i h=>h.elim (fun y=>fu i y) (fun y=>y.elim (fun y=>cS i y) (fun y=>fA i y))
 refine KF (Lw (R:=fun v_ w_=>∃ (aj:Nat->Prop),iv m=v_/\KM (fun i=>(Le p) i\/((Le ae) i\/((Le g) i))) bA w_/\(PD w_ aj ae l ((Lo (Lx l 6) st).2) ([(p,st)])/\KP bA (fun i=>(Le p) i\/((Le ae) i\/((Le g) i))) aj)) rfl rfl (LE rfl rfl rfl (fun _ _=>by kernel_rfl) (K2 _) (Lj ak (Lj rfl LP)) (TP ae l st ([(p,st)]) 6 (fun i=>(Le p) i\/((Le ae) i\/((Le g) i))) _  fM ) (fun e_ w_ h_=>by obtain⟨T112_,he_,hr_⟩:=h_;exact⟨_,he_,T112_,(congrArg (Value.int .i64) hm.symm).symm,hr_⟩)) ?_)
 rintro _ kT ⟨aj,rfl,a8,⟨c6,c7⟩⟩
 have c9:=fJ.all a8 (fN.symm p1 rfl)
 have da:=cV.all a8 (cZ.symm ar rfl)
 have db:=cW.all a8 (c5.symm ac rfl)
 have dc:=cX.trans a8 (fun i hi x=>((KP.ok (S:=T_r) cY (fun _ x=>x)) i hi x))
 have ap:=cY.trans cX c7
 obtain⟨fO,aq⟩:=VQ c7 cZ cV c5 cW
 refine KG (.agg (Ob m 0 0 0 0 (fun _=>(0:Int))).toArray) rfl rfl (LW (l':=[(0,iv m)]) (cells:=(Ob m 0 0 0 0 (fun _=>(0:Int))).toArray) rfl (ST rfl QZ) (by kernel_rfl) rfl rr) (LF (n:=21) (vs:=(Ob 0 0 0 0 0 (fun _=>(0:Int)))) rfl rfl rfl (by kernel_rfl) fun ah kU fP dd de=>?_)
 have av:=KP.new dc dd
 obtain⟨fQ,df,aw,aB⟩:=V2 dd c9 da db c6
 obtain⟨fR,fS,fT,fU⟩:=OS de c9 da db c6
 refine Lh (us:=(Ob m 0 0 0 0 (fun _=>(0:Int)))) LD rfl rfl rfl rfl rfl fP rfl (KX rfl (KX rfl (KX rfl (KX rfl (KX rfl (KX rfl (KX rfl (KX rfl (KX rfl (KX rfl (KX rfl (KX rfl (KX rfl (KX rfl (KX rfl (KX rfl (KX rfl (KX rfl (KX rfl (KX rfl (KX rfl MC))))))))))))))))))))) fun fV dg aO=>?_
 have fW:=fR.all aO (fQ.symm p1 rfl)
 have fX:=fS.all aO (df.symm ar rfl)
 have fY:=fT.all aO (aw.symm ac rfl)
 have fZ:=fU.all aO aB.symm
 have dh:=(dc.tr de).trans aO (KP.ok (S:=T_r) av K3)
 refine KL ?_
 have am:=K4 (pt ah 0)
 refine KE (KH ?_)
 have f5:PD fV aj ae l s1 ([(p,st)]):=(by rw[hs1];exact fZ)
 refine KF (KG (pt ah 0) rfl rfl (KQ (n:=1) rfl am Tryz.underlying71 rfl (by kernel_rfl) (by decide) rfl rr) (KG (iv m) rfl rfl (KR rfl rfl Tryz.underlying3 dg rfl rfl rr) (LV rfl rfl rfl rfl rfl (fun _ _=>by kernel_rfl) (Lj rfl LP) (Vd m  _ (hA.but dh hG)  ) fun bB di=>?_)))
 obtain⟨f6,f8,bC,aG,dj⟩:=OR di fW fX fY f5 dg
 have bD:=dh.tr di
 refine KG (.tuple #[.bool (NE m),.bool (Ni m)]) rfl rfl (KN rfl rfl rr) (KG (.bool (NE m)) rfl rfl (LI rfl rfl rfl rr) (KG (.bool (Ni m)) rfl rfl (LI rfl rfl rfl rr) (KG (.bool (NE m)) rfl rfl (KT rfl rfl rr) (KG (.bool (Ni m)) rfl rfl (KT rfl rfl rr) (KL ?_)))))
 have f9:=K4 (.bool (NE m))
 have dk:=K4 (.bool (Ni m))
 refine KE (KH (KF (KG (iv 120) rfl rfl (KT rfl rfl rr) (KL ?_))))
 have dl:=K4 (iv 120)
 refine KE (KH (KH ?_))
 rcases Bool.eq_false_or_eq_true (s1.isNone) with a9|a9
 ·skip
  refine KF (Lw (R:=fun v_ w_=>v_ = .bool true/\KM (fun _=>False) bB w_) rfl rfl (LE rfl rfl rfl (fun _ _=>by kernel_rfl) (K2 _) (Lj ak LP) (Q6 ae l s1 ([(p,st)]) aj _  aG ) (fun e_ w_ h_=>⟨_,h_.1,(congrArg Value.bool a9),h_.2⟩)) ?_)
  rintro _ kV ⟨rfl,dm⟩
  obtain⟨ga,gb⟩:=NL dm bC aG
  refine KG (.bool true) rfl rfl (KN rfl rfl rr) (KI 1 false 30 rfl rfl rfl (Or.inl rfl) rfl (KI 1 false 30 rfl rfl rfl (Or.inl rfl) rfl (KI 1 false 30 rfl rfl rfl (Or.inl rfl) rfl (KI 1 false 30 rfl rfl rfl (Or.inl rfl) rfl (KI 1 false 30 rfl rfl rfl (Or.inl rfl) rfl (KG (.bool true) rfl rfl (Ld rfl rfl rfl rr) (KL ?_)))))))
  have gc:=K4 (.bool true)
  refine KE ?_
  refine K5 (t:=true) gc (fun _=>?_) (fun e=>by cases e)
  refine Nr (Mi ?_)
  refine MM ⟨_,rfl,?_⟩
  refine KH (Lf (KE (KH ?_)))
  first|have hR:=h1.trans (by unfold Yh;exact if_neg (by assumption))|have hR:=h1.trans (by unfold Vo;exact if_neg (by assumption))|have hR:=h1.trans (by unfold Yu;exact if_neg (by assumption))|(have hRR:=PR (l:=l) (k:=k) (ax:=ax) (ay:=ay) (bx:=bx) (yy:=yy) hm hs1 (by first|exact Or.inl (by assumption)|exact Or.inr (by assumption));obtain⟨s9,hR⟩:=hRR)
  have hT0:MU l k ax ay bx yy st=st:=by unfold MU;rw[hR];exact if_neg (by first|assumption|(intro z;exact absurd (show (120:Int)=0 from z) (by decide)))
  obtain⟨g2,a1,b1,a2,b2,hf2,hT2,ho1,ho2,ai,hq2,hg2,ap1_,ap2_,ap3_⟩:=NQ gb
  have gd:KP w0 T_r (Le p):=fun i h=>ap i ((fun i h=>(hT2 i).2 (Or.inl h)) i h)
  have ge:KJ (Le p) (Le ac):=fun i h=>aq i ((fun i h=>(hT2 i).2 (Or.inl h)) i h)
  have gh:KP w0 T_r (Le g2):=fun i h=>ap i ((fun i h=>(hT2 i).2 (Or.inr (Or.inr h))) i h)
  have gi:KJ (Le g2) (Le ac):=fun i h=>aq i ((fun i h=>(hT2 i).2 (Or.inr (Or.inr h))) i h)
  have dn:KJ (Le p) (Le g2):=ap2_
  refine KF (KG (.agg (Ob 0 0 0 0 0 (fun _=>(0:Int))).toArray) rfl rfl (LW (l':=[]) (cells:=(Ob 0 0 0 0 0 (fun _=>(0:Int))).toArray) rfl QZ (by kernel_rfl) rfl rr) (KS rfl rfl rfl dl (Lh (us:=(Ob 0 0 0 0 0 (fun _=>(0:Int)))) LD rfl rfl rfl af rfl ga rfl (KX rfl (KX rfl (KX rfl (KX rfl (KX rfl (KX rfl (KX rfl (KX rfl (KX rfl (KX rfl (KX rfl (KX rfl (KX rfl (KX rfl (KX rfl (KX rfl (KX rfl (KX rfl (KX rfl (KX rfl (KX rfl MC))))))))))))))))))))) fun gj gl bE=>?_)))
  have dp:=ai.all bE (ge p rfl)
  have dq:=hg2.all bE gi
  refine KG (iv 120) rfl rfl (KT rfl rfl rr) (KL ?_)
  have gm:=K4 (iv 120)
  refine KE (La (M2 ?_))
  have gn:Pn gj (fun i=>(Le p) i\/((Le g2) i)) p l (MU l k ax ay bx yy st):=(by rw[hT0];first|exact Mm hf2 ho1 dp dq dn|exact Mm hf2 ho2 dp dq dn)
  have go:KP w0 T_r (fun i=>(Le p) i\/((Le g2) i)):=fun i h=>h.elim (fun y=>gd i y) (fun y=>gh i y)
  exact L4 ao rfl (MJ (vs:=(Ob 0 0 0 0 0 (fun _=>(0:Int)))) LD rfl af gl) (Lu (v:=iv 120) rfl gm) ⟨(fun i=>(Le p) i\/((Le g2) i)),(by rw[hR] <;> rfl),((bD.tr dm).trans bE (KP.ok (S:=T_r) an K3)),⟨gn,go⟩⟩
 ·skip
  by_cases dr:0<=m/\m<=NR k
  ·skip
   refine KF (Lw (R:=fun v_ w_=>v_ = .bool false/\KM (fun _=>False) bB w_) rfl rfl (LE rfl rfl rfl (fun _ _=>by kernel_rfl) (K2 _) (Lj ak LP) (Q6 ae l s1 ([(p,st)]) aj _  aG ) (fun e_ w_ h_=>⟨_,h_.1,(congrArg Value.bool a9),h_.2⟩)) ?_)
   rintro _ gp ⟨rfl,dt⟩
   obtain⟨gq,gr,gt,gu,du⟩:=OR dt f6 f8 bC aG dj
   have dv:=bD.tr dt
   refine KG (.bool false) rfl rfl (KN rfl rfl rr) (KO (iv k) 1 false 30 rfl rfl rfl rfl rfl (KN rfl cL rr) (KO (pt ah 0) 1 false 30 rfl rfl rfl rfl rfl (KQ (n:=1) rfl am Tryz.underlying71 rfl (by kernel_rfl) (by decide) rfl rr) (KO (iv m) 1 false 30 rfl rfl rfl rfl rfl (KR rfl rfl Tryz.underlying3 du rfl rfl rr) (Lz (R:=fun v_ w_=>v_ = .bool true/\KM (fun _=>False) gp w_) 1 false 30 rfl rfl rfl rfl rfl (LE rfl rfl rfl (fun _ _=>by kernel_rfl) (K2 _) (Lj rfl (Lj rfl LP)) (azH k m  _ (hA.but dv hG)  ) (fun e_ w_ h_=>⟨_,h_.1,(congrArg Value.bool (decide_eq_true dr)),h_.2⟩)) ?_))))
   rintro _ aH ⟨rfl,dw⟩
   obtain⟨gv,dy,aI,bF,aJ⟩:=OR dw gq gr gt gu du
   have aC:=dv.tr dw
   refine KO (.bool false) 1 false 30 rfl rfl rfl rfl rfl (LT rfl rfl rfl rr) (KG (.bool false) rfl rfl (K6 rfl rfl rfl rr) (KL ?_))
   have gw:=K4 (.bool false)
   refine KE ?_
   refine K5 (t:=false) gw (fun e=>by cases e) (fun _=>?_)
   refine Lf (KE (KH (KH ?_)))
   have h1:=aBn (l:=l) (k:=k) (ax:=ax) (ay:=ay) (bx:=bx) (yy:=yy) hm hs1 (by assumption) (by assumption)
   refine KF (KS rfl rfl rfl f9 (KL ?_))
   have gz:=K4 (.bool (NE m))
   refine KE ?_
   refine K5 gz (fun gA=>?_) (fun gA=>?_)
   ·skip
    refine KH ?_
    rw[UJ (has:=NE m) (by assumption)] at h1
    refine KF (KG (.agg #[iv ax,iv ay]) rfl rfl (KU LL rfl fm gv rr) (Lw (R:=fun v_ w_=>∃ (au:Nat->Prop),.tuple #[.agg #[iv (RA l ax ay s1),iv (Rv l ax ay s1)],iv (Qd l ax ay s1)]=v_/\KM aj aH w_/\(PD w_ au ae l (MP l ax ay s1) ([(p,st)])/\KP aH aj au)) rfl rfl (LE rfl rfl rfl (fun _ _=>by kernel_rfl) (K2 _) (Lj ak (Lj rfl LP)) (Vm ae l s1 ([(p,st)]) ax ay aj _  bF ) (fun e_ w_ h_=>by obtain⟨T325_,he_,hr_⟩:=h_;exact⟨_,he_,T325_,rfl,hr_⟩)) ?_))
    rintro _ kW ⟨au,rfl,ba,⟨gB,dz⟩⟩
    have gC:=dy.all ba (fO.symm ar rfl)
    have gD:=aI.all ba (aq.symm ac rfl)
    have gE:=aJ.all ba (aB ah rfl)
    have aD:=ap.trans aC dz
    obtain⟨aK,aP⟩:=VQ dz aq aI (aB.symm) aJ
    refine KG (.tuple #[.agg #[iv (RA l ax ay s1),iv (Rv l ax ay s1)],iv (Qd l ax ay s1)]) rfl rfl (KN rfl rfl rr) (KG (.agg #[iv (RA l ax ay s1),iv (Rv l ax ay s1)]) rfl rfl (LI rfl rfl rfl rr) (KG (iv (Qd l ax ay s1)) rfl rfl (LI rfl rfl rfl rr) (KG (pt ah 1) rfl rfl (KQ (n:=2) rfl am Tryz.underlying71 rfl (by kernel_rfl) (by decide) rfl rr) (OG (us:=[iv (RA l ax ay s1),iv (Rv l ax ay s1)]) (ns:=(Ob m (RA l ax ay s1) (Rv l ax ay s1) 0 0 (fun _=>(0:Int)))) LL rfl rfl rfl rfl rfl gE (Nat.le_of_ble_eq_true rfl) (KX rfl (KX rfl MC)) rfl fun bb bc bd=>?_))))
    have gF:=gC.all bd (df.symm ar rfl)
    have aQ:=gD.all bd (aw.symm ac rfl)
    have bG:=gB.all bd aP
    have aL:=(aC.trans ba (fun i hi x=>((KP.ok (S:=T_r) ap (fun _ x=>x)) i hi x))).trans bd (KP.ok (S:=T_r) av K3)
    refine KG (iv (Qd l ax ay s1)) rfl rfl (KT rfl rfl rr) (KL ?_)
    have dA:=K4 (iv (Qd l ax ay s1))
    refine KE (KH (KF (KS rfl rfl rfl dA (KG (.bool (decide ((Qd l ax ay s1)≠0))) rfl rfl (L9 rfl rfl rfl rfl rr) (KL ?_)))))
    have gG:=K4 (.bool (decide ((Qd l ax ay s1)≠0)))
    refine KE ?_
    refine K5 gG (fun aR=>?_) (fun aR=>?_)
    ·replace aR:=of_decide_eq_true aR
     refine Nr (Mi ?_)
     refine MM ⟨_,rfl,?_⟩
     refine KH (Lf (KE (KH ?_)))
     first|have hR:=h1.trans (by unfold Yh;exact if_neg (by assumption))|have hR:=h1.trans (by unfold Vo;exact if_neg (by assumption))|have hR:=h1.trans (by unfold Yu;exact if_neg (by assumption))|(have hRR:=PR (l:=l) (k:=k) (ax:=ax) (ay:=ay) (bx:=bx) (yy:=yy) hm hs1 (by first|exact Or.inl (by assumption)|exact Or.inr (by assumption));obtain⟨s9,hR⟩:=hRR)
     have hT0:MU l k ax ay bx yy st=st:=by unfold MU;rw[hR];exact if_neg (by first|assumption|(intro z;exact absurd (show (120:Int)=0 from z) (by decide)))
     obtain⟨g2,a1,b1,a2,b2,hf2,hT2,ho1,ho2,ai,hq2,hg2,ap1_,ap2_,ap3_⟩:=NQ bG
     have gH:KP w0 T_r (Le p):=fun i h=>aD i ((fun i h=>(hT2 i).2 (Or.inl h)) i h)
     have gI:KJ (Le p) (Le ac):=fun i h=>aK i ((fun i h=>(hT2 i).2 (Or.inl h)) i h)
     have gJ:KP w0 T_r (Le g2):=fun i h=>aD i ((fun i h=>(hT2 i).2 (Or.inr (Or.inr h))) i h)
     have gK:KJ (Le g2) (Le ac):=fun i h=>aK i ((fun i h=>(hT2 i).2 (Or.inr (Or.inr h))) i h)
     have dB:KJ (Le p) (Le g2):=ap2_
     refine KF (KG (.agg (Ob 0 0 0 0 0 (fun _=>(0:Int))).toArray) rfl rfl (LW (l':=[]) (cells:=(Ob 0 0 0 0 0 (fun _=>(0:Int))).toArray) rfl QZ (by kernel_rfl) rfl rr) (KS rfl rfl rfl dA (Lh (us:=(Ob 0 0 0 0 0 (fun _=>(0:Int)))) LD rfl rfl rfl af rfl aQ rfl (KX rfl (KX rfl (KX rfl (KX rfl (KX rfl (KX rfl (KX rfl (KX rfl (KX rfl (KX rfl (KX rfl (KX rfl (KX rfl (KX rfl (KX rfl (KX rfl (KX rfl (KX rfl (KX rfl (KX rfl (KX rfl MC))))))))))))))))))))) fun gL gM bH=>?_)))
     have dC:=ai.all bH (gI p rfl)
     have dD:=hg2.all bH gK
     refine KG (iv (Qd l ax ay s1)) rfl rfl (KT rfl rfl rr) (KL ?_)
     have gN:=K4 (iv (Qd l ax ay s1))
     refine KE (La (M2 ?_))
     have gO:Pn gL (fun i=>(Le p) i\/((Le g2) i)) p l (MU l k ax ay bx yy st):=(by rw[hT0];first|exact Mm hf2 ho1 dC dD dB|exact Mm hf2 ho2 dC dD dB)
     have gP:KP w0 T_r (fun i=>(Le p) i\/((Le g2) i)):=fun i h=>h.elim (fun y=>gH i y) (fun y=>gJ i y)
     exact L4 ao rfl (MJ (vs:=(Ob 0 0 0 0 0 (fun _=>(0:Int)))) LD rfl af gM) (Lu (v:=iv (Qd l ax ay s1)) rfl gN) ⟨(fun i=>(Le p) i\/((Le g2) i)),(by rw[hR] <;> rfl),(aL.trans bH (KP.ok (S:=T_r) an K3)),⟨gO,gP⟩⟩
    ·replace aR:=of_decide_eq_false aR
     refine Lf (KE (KH (KH ?_)))
     first|(rw[SM (has:=NE m) (by assumption)] at h1;replace h1:=h1.trans (by unfold Yh;exact if_pos rfl);(try dsimp only at h1))|(have hv1:Qd l ax ay s1=0:=(by first|assumption|(apply Decidable.byContradiction;assumption));replace h1:=h1.trans (by unfold Yh;exact if_pos hv1);(try dsimp only at h1);rw[← QI hv1] at h1)
     refine KF (KS rfl rfl rfl dk (KL ?_))
     have gQ:=K4 (.bool (Ni m))
     refine KE ?_
     refine K5 gQ (fun gR=>?_) (fun gR=>?_)
     ·skip
      refine KH ?_
      rw[UJ (has:=Ni m) (by assumption)] at h1
      refine KF (KG (.agg #[iv bx,iv yy]) rfl rfl (KU LL rfl cM gF rr) (Lw (R:=fun v_ w_=>∃ (aM:Nat->Prop),.tuple #[.agg #[iv (RA l bx yy (MP l ax ay s1)),iv (Rv l bx yy (MP l ax ay s1))],iv (Qd l bx yy (MP l ax ay s1))]=v_/\KM au bb w_/\(PD w_ aM ae l (MP l bx yy (MP l ax ay s1)) ([(p,st)])/\KP bb au aM)) rfl rfl (LE rfl rfl rfl (fun _ _=>by kernel_rfl) (K2 _) (Lj ak (Lj rfl LP)) (Vm ae l (MP l ax ay s1) ([(p,st)]) bx yy au _  bG ) (fun e_ w_ h_=>by obtain⟨T449_,he_,hr_⟩:=h_;exact⟨_,he_,T449_,rfl,hr_⟩)) ?_))
      rintro _ kX ⟨aM,rfl,bI,⟨gS,dE⟩⟩
      have gT:=aQ.all bI (aK.symm ac rfl)
      have gU:=bc.all bI (aP.symm ah rfl)
      have aS:=aD.trans aL dE
      obtain⟨be,bJ⟩:=VQ dE aK aQ aP bc
      refine KG (.tuple #[.agg #[iv (RA l bx yy (MP l ax ay s1)),iv (Rv l bx yy (MP l ax ay s1))],iv (Qd l bx yy (MP l ax ay s1))]) rfl rfl (KN rfl rfl rr) (KG (.agg #[iv (RA l bx yy (MP l ax ay s1)),iv (Rv l bx yy (MP l ax ay s1))]) rfl rfl (LI rfl rfl rfl rr) (KG (iv (Qd l bx yy (MP l ax ay s1))) rfl rfl (LI rfl rfl rfl rr) (KG (pt ah 3) rfl rfl (KQ (n:=2) rfl am Tryz.underlying71 rfl (by kernel_rfl) (by decide) rfl rr) (OG (us:=[iv (RA l bx yy (MP l ax ay s1)),iv (Rv l bx yy (MP l ax ay s1))]) (ns:=(Ob m (RA l ax ay s1) (Rv l ax ay s1) (RA l bx yy (MP l ax ay s1)) (Rv l bx yy (MP l ax ay s1)) (fun _=>(0:Int)))) LL rfl rfl rfl rfl rfl gU (Nat.le_of_ble_eq_true rfl) (KX rfl (KX rfl MC)) rfl fun dF dG bK=>?_))))
      have bL:=gT.all bK (aw.symm ac rfl)
      have dH:=gS.all bK bJ
      have bf:=(aL.trans bI (fun i hi x=>((KP.ok (S:=T_r) aD (fun _ x=>x)) i hi x))).trans bK (KP.ok (S:=T_r) av K3)
      refine KG (iv (Qd l bx yy (MP l ax ay s1))) rfl rfl (KT rfl rfl rr) (KL ?_)
      have dI:=K4 (iv (Qd l bx yy (MP l ax ay s1)))
      refine KE (KH (KF (KS rfl rfl rfl dI (KG (.bool (decide ((Qd l bx yy (MP l ax ay s1))≠0))) rfl rfl (L9 rfl rfl rfl rfl rr) (KL ?_)))))
      have gV:=K4 (.bool (decide ((Qd l bx yy (MP l ax ay s1))≠0)))
      refine KE ?_
      refine K5 gV (fun aT=>?_) (fun aT=>?_)
      ·replace aT:=of_decide_eq_true aT
       refine Nr (Mi ?_)
       refine MM ⟨_,rfl,?_⟩
       refine KH (Lf (KE (KH ?_)))
       first|have hR:=h1.trans (by unfold Yh;exact if_neg (by assumption))|have hR:=h1.trans (by unfold Vo;exact if_neg (by assumption))|have hR:=h1.trans (by unfold Yu;exact if_neg (by assumption))|(have hRR:=PR (l:=l) (k:=k) (ax:=ax) (ay:=ay) (bx:=bx) (yy:=yy) hm hs1 (by first|exact Or.inl (by assumption)|exact Or.inr (by assumption));obtain⟨s9,hR⟩:=hRR)
       have hT0:MU l k ax ay bx yy st=st:=by unfold MU;rw[hR];exact if_neg (by first|assumption|(intro z;exact absurd (show (120:Int)=0 from z) (by decide)))
       obtain⟨g2,a1,b1,a2,b2,hf2,hT2,ho1,ho2,ai,hq2,hg2,ap1_,ap2_,ap3_⟩:=NQ dH
       have gW:KP w0 T_r (Le p):=fun i h=>aS i ((fun i h=>(hT2 i).2 (Or.inl h)) i h)
       have gZ:KJ (Le p) (Le ac):=fun i h=>be i ((fun i h=>(hT2 i).2 (Or.inl h)) i h)
       have hP:KP w0 T_r (Le g2):=fun i h=>aS i ((fun i h=>(hT2 i).2 (Or.inr (Or.inr h))) i h)
       have hQ:KJ (Le g2) (Le ac):=fun i h=>be i ((fun i h=>(hT2 i).2 (Or.inr (Or.inr h))) i h)
       have dJ:KJ (Le p) (Le g2):=ap2_
       refine KF (KG (.agg (Ob 0 0 0 0 0 (fun _=>(0:Int))).toArray) rfl rfl (LW (l':=[]) (cells:=(Ob 0 0 0 0 0 (fun _=>(0:Int))).toArray) rfl QZ (by kernel_rfl) rfl rr) (KS rfl rfl rfl dI (Lh (us:=(Ob 0 0 0 0 0 (fun _=>(0:Int)))) LD rfl rfl rfl af rfl bL rfl (KX rfl (KX rfl (KX rfl (KX rfl (KX rfl (KX rfl (KX rfl (KX rfl (KX rfl (KX rfl (KX rfl (KX rfl (KX rfl (KX rfl (KX rfl (KX rfl (KX rfl (KX rfl (KX rfl (KX rfl (KX rfl MC))))))))))))))))))))) fun hZ ia bM=>?_)))
       have dK:=ai.all bM (gZ p rfl)
       have dL:=hg2.all bM hQ
       refine KG (iv (Qd l bx yy (MP l ax ay s1))) rfl rfl (KT rfl rfl rr) (KL ?_)
       have ib:=K4 (iv (Qd l bx yy (MP l ax ay s1)))
       refine KE (La (M2 ?_))
       have ie:Pn hZ (fun i=>(Le p) i\/((Le g2) i)) p l (MU l k ax ay bx yy st):=(by rw[hT0];first|exact Mm hf2 ho1 dK dL dJ|exact Mm hf2 ho2 dK dL dJ)
       have ig:KP w0 T_r (fun i=>(Le p) i\/((Le g2) i)):=fun i h=>h.elim (fun y=>gW i y) (fun y=>hP i y)
       exact L4 ao rfl (MJ (vs:=(Ob 0 0 0 0 0 (fun _=>(0:Int)))) LD rfl af ia) (Lu (v:=iv (Qd l bx yy (MP l ax ay s1))) rfl ib) ⟨(fun i=>(Le p) i\/((Le g2) i)),(by rw[hR] <;> rfl),(bf.trans bM (KP.ok (S:=T_r) an K3)),⟨ie,ig⟩⟩
      ·replace aT:=of_decide_eq_false aT
       refine Lf (KE (KH (KH ?_)))
       first|(rw[SM (has:=Ni m) (by assumption)] at h1;replace h1:=h1.trans (by unfold Vo;exact if_pos rfl);(try dsimp only at h1))|(have hv2:Qd l bx yy (MP l ax ay s1)=0:=(by first|assumption|(apply Decidable.byContradiction;assumption));replace h1:=h1.trans (by unfold Vo;exact if_pos hv2);(try dsimp only at h1);rw[← QI hv2] at h1)|(have hv2:Qd l bx yy s1=0:=(by first|assumption|(apply Decidable.byContradiction;assumption));replace h1:=h1.trans (by unfold Vo;exact if_pos hv2);(try dsimp only at h1);rw[← QI hv2] at h1)
       refine KF (Lw (R:=fun v_ w_=>∃ (bN:Nat->Prop),.tuple #[LH ((LJ l (MP l bx yy (MP l ax ay s1))).1),iv ((LJ l (MP l bx yy (MP l ax ay s1))).2.1)]=v_/\KM aM dF w_/\(PD w_ bN ae l (WD l (MP l bx yy (MP l ax ay s1))) ([(p,st)])/\KP dF aM bN)) rfl rfl (LE rfl rfl rfl (fun _ _=>by kernel_rfl) (K2 _) (Lj ak LP) (Rt ae l (MP l bx yy (MP l ax ay s1)) ([(p,st)]) aM _ (hO.but bf (ovO hG)) (ovO (UM aS hG hA)) dH ) (fun e_ w_ h_=>by obtain⟨T556_,he_,hr_⟩:=h_;exact⟨_,he_,T556_,rfl,hr_⟩)) ?_)
       rintro _ kY ⟨bN,rfl,bO,⟨ii,dM⟩⟩
       have ij:=bL.all bO (be.symm ac rfl)
       have ik:=dG.all bO (bJ.symm ah rfl)
       have bg:=aS.trans bf dM
       obtain⟨bh,dN⟩:=VQ dM be bL bJ dG
       refine KG (.tuple #[LH ((LJ l (MP l bx yy (MP l ax ay s1))).1),iv ((LJ l (MP l bx yy (MP l ax ay s1))).2.1)]) rfl rfl (KN rfl rfl rr) (KG (LH ((LJ l (MP l bx yy (MP l ax ay s1))).1)) rfl rfl (LI rfl rfl rfl rr) (KG (iv ((LJ l (MP l bx yy (MP l ax ay s1))).2.1)) rfl rfl (LI rfl rfl rfl rr) (KG (pt ah 5) rfl rfl (KQ (n:=16) rfl am Tryz.underlying71 rfl (by kernel_rfl) (by decide) rfl rr) (OG (us:=L6 16 ((LJ l (MP l bx yy (MP l ax ay s1))).1)) (ns:=(Ob m (RA l ax ay s1) (Rv l ax ay s1) (RA l bx yy (MP l ax ay s1)) (Rv l bx yy (MP l ax ay s1)) ((LJ l (MP l bx yy (MP l ax ay s1))).1))) P9 rfl rfl rfl rfl rfl ik (Nat.le_of_ble_eq_true rfl) (Sa _ _) rfl fun kZ io bP=>?_))))
       have dO:=ij.all bP (aw.symm ac rfl)
       have dP:=ii.all bP dN
       have dQ:=(bf.trans bO (fun i hi x=>((KP.ok (S:=T_r) aS (fun _ x=>x)) i hi x))).trans bP (KP.ok (S:=T_r) av K3)
       refine KG (iv ((LJ l (MP l bx yy (MP l ax ay s1))).2.1)) rfl rfl (KT rfl rfl rr) (KL ?_)
       have dR:=K4 (iv ((LJ l (MP l bx yy (MP l ax ay s1))).2.1))
       refine KE (KH (KF (KS rfl rfl rfl dR (KG (.bool (decide (((LJ l (MP l bx yy (MP l ax ay s1))).2.1)≠0))) rfl rfl (L9 rfl rfl rfl rfl rr) (KL ?_)))))
       have ip:=K4 (.bool (decide (((LJ l (MP l bx yy (MP l ax ay s1))).2.1)≠0)))
       refine KE ?_
       refine K5 ip (fun aU=>?_) (fun aU=>?_)
       ·replace aU:=of_decide_eq_true aU
        refine Nr (Mi ?_)
        refine MM ⟨_,rfl,?_⟩
        refine KH (Lf (KE (KH ?_)))
        first|have hR:=h1.trans (by unfold Yh;exact if_neg (by assumption))|have hR:=h1.trans (by unfold Vo;exact if_neg (by assumption))|have hR:=h1.trans (by unfold Yu;exact if_neg (by assumption))|(have hRR:=PR (l:=l) (k:=k) (ax:=ax) (ay:=ay) (bx:=bx) (yy:=yy) hm hs1 (by first|exact Or.inl (by assumption)|exact Or.inr (by assumption));obtain⟨s9,hR⟩:=hRR)
        have hT0:MU l k ax ay bx yy st=st:=by unfold MU;rw[hR];exact if_neg (by first|assumption|(intro z;exact absurd (show (120:Int)=0 from z) (by decide)))
        obtain⟨g2,a1,b1,a2,b2,hf2,hT2,ho1,ho2,ai,hq2,hg2,ap1_,ap2_,ap3_⟩:=NQ dP
        have iq:KP w0 T_r (Le p):=fun i h=>bg i ((fun i h=>(hT2 i).2 (Or.inl h)) i h)
        have ir:KJ (Le p) (Le ac):=fun i h=>bh i ((fun i h=>(hT2 i).2 (Or.inl h)) i h)
        have iu:KP w0 T_r (Le g2):=fun i h=>bg i ((fun i h=>(hT2 i).2 (Or.inr (Or.inr h))) i h)
        have iw:KJ (Le g2) (Le ac):=fun i h=>bh i ((fun i h=>(hT2 i).2 (Or.inr (Or.inr h))) i h)
        have dS:KJ (Le p) (Le g2):=ap2_
        refine KF (KG (.agg (Ob 0 0 0 0 0 (fun _=>(0:Int))).toArray) rfl rfl (LW (l':=[]) (cells:=(Ob 0 0 0 0 0 (fun _=>(0:Int))).toArray) rfl QZ (by kernel_rfl) rfl rr) (KS rfl rfl rfl dR (Lh (us:=(Ob 0 0 0 0 0 (fun _=>(0:Int)))) LD rfl rfl rfl af rfl dO rfl (KX rfl (KX rfl (KX rfl (KX rfl (KX rfl (KX rfl (KX rfl (KX rfl (KX rfl (KX rfl (KX rfl (KX rfl (KX rfl (KX rfl (KX rfl (KX rfl (KX rfl (KX rfl (KX rfl (KX rfl (KX rfl MC))))))))))))))))))))) fun iy iz bQ=>?_)))
        have dT:=ai.all bQ (ir p rfl)
        have dU:=hg2.all bQ iw
        refine KG (iv ((LJ l (MP l bx yy (MP l ax ay s1))).2.1)) rfl rfl (KT rfl rfl rr) (KL ?_)
        have iA:=K4 (iv ((LJ l (MP l bx yy (MP l ax ay s1))).2.1))
        refine KE (La (M2 ?_))
        have iB:Pn iy (fun i=>(Le p) i\/((Le g2) i)) p l (MU l k ax ay bx yy st):=(by rw[hT0];first|exact Mm hf2 ho1 dT dU dS|exact Mm hf2 ho2 dT dU dS)
        have iC:KP w0 T_r (fun i=>(Le p) i\/((Le g2) i)):=fun i h=>h.elim (fun y=>iq i y) (fun y=>iu i y)
        exact L4 ao rfl (MJ (vs:=(Ob 0 0 0 0 0 (fun _=>(0:Int)))) LD rfl af iz) (Lu (v:=iv ((LJ l (MP l bx yy (MP l ax ay s1))).2.1)) rfl iA) ⟨(fun i=>(Le p) i\/((Le g2) i)),(by rw[hR] <;> rfl),(dQ.trans bQ (KP.ok (S:=T_r) an K3)),⟨iB,iC⟩⟩
       ·replace aU:=of_decide_eq_false aU
        refine Lf (KE (KH ?_))
        have hR:=h1.trans (by unfold Yu;exact if_pos (by first|assumption|(apply Decidable.byContradiction;assumption)))
        have hT0:=(show MU l k ax ay bx yy st=(Sk l k ax ay bx yy st).2.2 from if_pos (by rw[hR]))
        rw[hR] at hT0
        dsimp only at hT0
        rw[← UF (by first|assumption|(apply Decidable.byContradiction;assumption))] at hT0
        obtain⟨g2,a1,b1,a2,b2,hf2,hT2,ho1,ho2,ai,hq2,hg2,ap1_,ap2_,ap3_⟩:=NQ dP
        have dV:KP w0 T_r (Le p):=fun i h=>bg i ((fun i h=>(hT2 i).2 (Or.inl h)) i h)
        have dW:KJ (Le p) (Le ac):=fun i h=>bh i ((fun i h=>(hT2 i).2 (Or.inl h)) i h)
        have iD:KJ (Le p) (Le ah):=fun i h=>dN i ((fun i h=>(hT2 i).2 (Or.inl h)) i h)
        have iE:KP w0 T_r (Le g2):=fun i h=>bg i ((fun i h=>(hT2 i).2 (Or.inr (Or.inr h))) i h)
        have iF:KJ (Le g2) (Le ac):=fun i h=>bh i ((fun i h=>(hT2 i).2 (Or.inr (Or.inr h))) i h)
        have bR:KJ (Le p) (Le g2):=ap2_
        refine KF (KS rfl rfl rfl aE (KG (.agg #[.slice (some ⟨g2,0,none⟩) l.length l.length,iv ((a2:Nat):Int),.bool b2]) rfl rfl (KU MI rfl ak hq2 rr) (KG (pt p 0) rfl rfl (Og rfl rfl rr) (Lh (us:=[.slice (some ⟨g2,0,none⟩) l.length l.length,iv ((a2:Nat):Int),.bool b2]) MI rfl rfl rfl rfl rfl ai rfl (KX rfl (KX rfl (KX rfl MC))) fun k8 iG bi=>?_))))
        have iH:=dO.all bi (dW.symm ac rfl)
        have iI:=io.all bi (iD.symm ah rfl)
        have iJ:=hg2.all bi bR.symm
        refine KL ?_
        refine KE (KH (KH (KF (KG (.agg (Ob m (RA l ax ay s1) (Rv l ax ay s1) (RA l bx yy (MP l ax ay s1)) (Rv l bx yy (MP l ax ay s1)) ((LJ l (MP l bx yy (MP l ax ay s1))).1)).toArray) rfl rfl (KU LD rfl am iI rr) (Lh (us:=(Ob m (RA l ax ay s1) (Rv l ax ay s1) (RA l bx yy (MP l ax ay s1)) (Rv l bx yy (MP l ax ay s1)) ((LJ l (MP l bx yy (MP l ax ay s1))).1))) LD rfl rfl rfl af rfl iH rfl (KX rfl (KX rfl (KX rfl (KX rfl (KX rfl (KX rfl (KX rfl (KX rfl (KX rfl (KX rfl (KX rfl (KX rfl (KX rfl (KX rfl (KX rfl (KX rfl (KX rfl (KX rfl (KX rfl (KX rfl (KX rfl MC))))))))))))))))))))) fun iK iL bS=>?_)))))
        have dX:=iG.all bS (dW p rfl)
        have dY:=iJ.all bS iF
        refine KG (iv 0) rfl rfl (KT rfl rfl rr) (KL ?_)
        have iM:=K4 (iv 0)
        refine KE (La (Ln (O0 ?_)))
        have iN:Pn iK (fun i=>(Le p) i\/((Le g2) i)) p l (MU l k ax ay bx yy st):=(by rw[hT0];first|exact Mm hf2 ho1 dX dY bR|exact Mm hf2 ho2 dX dY bR)
        have iO:KP w0 T_r (fun i=>(Le p) i\/((Le g2) i)):=fun i h=>h.elim (fun y=>dV i y) (fun y=>iE i y)
        exact L4 ao rfl (MJ (vs:=(Ob m (RA l ax ay s1) (Rv l ax ay s1) (RA l bx yy (MP l ax ay s1)) (Rv l bx yy (MP l ax ay s1)) ((LJ l (MP l bx yy (MP l ax ay s1))).1))) LD rfl af iL) (Lu (v:=iv 0) rfl iM) ⟨(fun i=>(Le p) i\/((Le g2) i)),(by rw[hR] <;> rfl),((dQ.trans bi (KP.ok (S:=T_r) dV (fun _ x=>x))).trans bS (KP.ok (S:=T_r) an K3)),⟨iN,iO⟩⟩
     ·skip
      refine Lf (KE (KH (KH ?_)))
      first|(rw[SM (has:=Ni m) (by assumption)] at h1;replace h1:=h1.trans (by unfold Vo;exact if_pos rfl);(try dsimp only at h1))|(have hv2:Qd l bx yy (MP l ax ay s1)=0:=(by first|assumption|(apply Decidable.byContradiction;assumption));replace h1:=h1.trans (by unfold Vo;exact if_pos hv2);(try dsimp only at h1);rw[← QI hv2] at h1)|(have hv2:Qd l bx yy s1=0:=(by first|assumption|(apply Decidable.byContradiction;assumption));replace h1:=h1.trans (by unfold Vo;exact if_pos hv2);(try dsimp only at h1);rw[← QI hv2] at h1)
      refine KF (Lw (R:=fun v_ w_=>∃ (bT:Nat->Prop),.tuple #[LH ((LJ l (MP l ax ay s1)).1),iv ((LJ l (MP l ax ay s1)).2.1)]=v_/\KM au bb w_/\(PD w_ bT ae l (WD l (MP l ax ay s1)) ([(p,st)])/\KP bb au bT)) rfl rfl (LE rfl rfl rfl (fun _ _=>by kernel_rfl) (K2 _) (Lj ak LP) (Rt ae l (MP l ax ay s1) ([(p,st)]) au _ (hO.but aL (ovO hG)) (ovO (UM aD hG hA)) bG ) (fun e_ w_ h_=>by obtain⟨T720_,he_,hr_⟩:=h_;exact⟨_,he_,T720_,rfl,hr_⟩)) ?_)
      rintro _ la ⟨bT,rfl,bU,⟨iP,dZ⟩⟩
      have iQ:=aQ.all bU (aK.symm ac rfl)
      have iR:=bc.all bU (aP.symm ah rfl)
      have bj:=aD.trans aL dZ
      obtain⟨bl,d8⟩:=VQ dZ aK aQ aP bc
      refine KG (.tuple #[LH ((LJ l (MP l ax ay s1)).1),iv ((LJ l (MP l ax ay s1)).2.1)]) rfl rfl (KN rfl rfl rr) (KG (LH ((LJ l (MP l ax ay s1)).1)) rfl rfl (LI rfl rfl rfl rr) (KG (iv ((LJ l (MP l ax ay s1)).2.1)) rfl rfl (LI rfl rfl rfl rr) (KG (pt ah 5) rfl rfl (KQ (n:=16) rfl am Tryz.underlying71 rfl (by kernel_rfl) (by decide) rfl rr) (OG (us:=L6 16 ((LJ l (MP l ax ay s1)).1)) (ns:=(Ob m (RA l ax ay s1) (Rv l ax ay s1) 0 0 ((LJ l (MP l ax ay s1)).1))) P9 rfl rfl rfl rfl rfl iR (Nat.le_of_ble_eq_true rfl) (Sa _ _) rfl fun lc iS bV=>?_))))
      have d9:=iQ.all bV (aw.symm ac rfl)
      have eb:=iP.all bV d8
      have ee:=(aL.trans bU (fun i hi x=>((KP.ok (S:=T_r) aD (fun _ x=>x)) i hi x))).trans bV (KP.ok (S:=T_r) av K3)
      refine KG (iv ((LJ l (MP l ax ay s1)).2.1)) rfl rfl (KT rfl rfl rr) (KL ?_)
      have eh:=K4 (iv ((LJ l (MP l ax ay s1)).2.1))
      refine KE (KH (KF (KS rfl rfl rfl eh (KG (.bool (decide (((LJ l (MP l ax ay s1)).2.1)≠0))) rfl rfl (L9 rfl rfl rfl rfl rr) (KL ?_)))))
      have iT:=K4 (.bool (decide (((LJ l (MP l ax ay s1)).2.1)≠0)))
      refine KE ?_
      refine K5 iT (fun aV=>?_) (fun aV=>?_)
      ·replace aV:=of_decide_eq_true aV
       refine Nr (Mi ?_)
       refine MM ⟨_,rfl,?_⟩
       refine KH (Lf (KE (KH ?_)))
       first|have hR:=h1.trans (by unfold Yh;exact if_neg (by assumption))|have hR:=h1.trans (by unfold Vo;exact if_neg (by assumption))|have hR:=h1.trans (by unfold Yu;exact if_neg (by assumption))|(have hRR:=PR (l:=l) (k:=k) (ax:=ax) (ay:=ay) (bx:=bx) (yy:=yy) hm hs1 (by first|exact Or.inl (by assumption)|exact Or.inr (by assumption));obtain⟨s9,hR⟩:=hRR)
       have hT0:MU l k ax ay bx yy st=st:=by unfold MU;rw[hR];exact if_neg (by first|assumption|(intro z;exact absurd (show (120:Int)=0 from z) (by decide)))
       obtain⟨g2,a1,b1,a2,b2,hf2,hT2,ho1,ho2,ai,hq2,hg2,ap1_,ap2_,ap3_⟩:=NQ eb
       have iU:KP w0 T_r (Le p):=fun i h=>bj i ((fun i h=>(hT2 i).2 (Or.inl h)) i h)
       have iV:KJ (Le p) (Le ac):=fun i h=>bl i ((fun i h=>(hT2 i).2 (Or.inl h)) i h)
       have iW:KP w0 T_r (Le g2):=fun i h=>bj i ((fun i h=>(hT2 i).2 (Or.inr (Or.inr h))) i h)
       have iX:KJ (Le g2) (Le ac):=fun i h=>bl i ((fun i h=>(hT2 i).2 (Or.inr (Or.inr h))) i h)
       have ei:KJ (Le p) (Le g2):=ap2_
       refine KF (KG (.agg (Ob 0 0 0 0 0 (fun _=>(0:Int))).toArray) rfl rfl (LW (l':=[]) (cells:=(Ob 0 0 0 0 0 (fun _=>(0:Int))).toArray) rfl QZ (by kernel_rfl) rfl rr) (KS rfl rfl rfl eh (Lh (us:=(Ob 0 0 0 0 0 (fun _=>(0:Int)))) LD rfl rfl rfl af rfl d9 rfl (KX rfl (KX rfl (KX rfl (KX rfl (KX rfl (KX rfl (KX rfl (KX rfl (KX rfl (KX rfl (KX rfl (KX rfl (KX rfl (KX rfl (KX rfl (KX rfl (KX rfl (KX rfl (KX rfl (KX rfl (KX rfl MC))))))))))))))))))))) fun iY iZ bW=>?_)))
       have ek:=ai.all bW (iV p rfl)
       have en:=hg2.all bW iX
       refine KG (iv ((LJ l (MP l ax ay s1)).2.1)) rfl rfl (KT rfl rfl rr) (KL ?_)
       have ja:=K4 (iv ((LJ l (MP l ax ay s1)).2.1))
       refine KE (La (M2 ?_))
       have jb:Pn iY (fun i=>(Le p) i\/((Le g2) i)) p l (MU l k ax ay bx yy st):=(by rw[hT0];first|exact Mm hf2 ho1 ek en ei|exact Mm hf2 ho2 ek en ei)
       have jc:KP w0 T_r (fun i=>(Le p) i\/((Le g2) i)):=fun i h=>h.elim (fun y=>iU i y) (fun y=>iW i y)
       exact L4 ao rfl (MJ (vs:=(Ob 0 0 0 0 0 (fun _=>(0:Int)))) LD rfl af iZ) (Lu (v:=iv ((LJ l (MP l ax ay s1)).2.1)) rfl ja) ⟨(fun i=>(Le p) i\/((Le g2) i)),(by rw[hR] <;> rfl),(ee.trans bW (KP.ok (S:=T_r) an K3)),⟨jb,jc⟩⟩
      ·replace aV:=of_decide_eq_false aV
       refine Lf (KE (KH ?_))
       have hR:=h1.trans (by unfold Yu;exact if_pos (by first|assumption|(apply Decidable.byContradiction;assumption)))
       have hT0:=(show MU l k ax ay bx yy st=(Sk l k ax ay bx yy st).2.2 from if_pos (by rw[hR]))
       rw[hR] at hT0
       dsimp only at hT0
       rw[← UF (by first|assumption|(apply Decidable.byContradiction;assumption))] at hT0
       obtain⟨g2,a1,b1,a2,b2,hf2,hT2,ho1,ho2,ai,hq2,hg2,ap1_,ap2_,ap3_⟩:=NQ eb
       have eo:KP w0 T_r (Le p):=fun i h=>bj i ((fun i h=>(hT2 i).2 (Or.inl h)) i h)
       have ep:KJ (Le p) (Le ac):=fun i h=>bl i ((fun i h=>(hT2 i).2 (Or.inl h)) i h)
       have jd:KJ (Le p) (Le ah):=fun i h=>d8 i ((fun i h=>(hT2 i).2 (Or.inl h)) i h)
       have je:KP w0 T_r (Le g2):=fun i h=>bj i ((fun i h=>(hT2 i).2 (Or.inr (Or.inr h))) i h)
       have jf:KJ (Le g2) (Le ac):=fun i h=>bl i ((fun i h=>(hT2 i).2 (Or.inr (Or.inr h))) i h)
       have bX:KJ (Le p) (Le g2):=ap2_
       refine KF (KS rfl rfl rfl aE (KG (.agg #[.slice (some ⟨g2,0,none⟩) l.length l.length,iv ((a2:Nat):Int),.bool b2]) rfl rfl (KU MI rfl ak hq2 rr) (KG (pt p 0) rfl rfl (Og rfl rfl rr) (Lh (us:=[.slice (some ⟨g2,0,none⟩) l.length l.length,iv ((a2:Nat):Int),.bool b2]) MI rfl rfl rfl rfl rfl ai rfl (KX rfl (KX rfl (KX rfl MC))) fun ld jg bm=>?_))))
       have jh:=d9.all bm (ep.symm ac rfl)
       have ji:=iS.all bm (jd.symm ah rfl)
       have jj:=hg2.all bm bX.symm
       refine KL ?_
       refine KE (KH (KH (KF (KG (.agg (Ob m (RA l ax ay s1) (Rv l ax ay s1) 0 0 ((LJ l (MP l ax ay s1)).1)).toArray) rfl rfl (KU LD rfl am ji rr) (Lh (us:=(Ob m (RA l ax ay s1) (Rv l ax ay s1) 0 0 ((LJ l (MP l ax ay s1)).1))) LD rfl rfl rfl af rfl jh rfl (KX rfl (KX rfl (KX rfl (KX rfl (KX rfl (KX rfl (KX rfl (KX rfl (KX rfl (KX rfl (KX rfl (KX rfl (KX rfl (KX rfl (KX rfl (KX rfl (KX rfl (KX rfl (KX rfl (KX rfl (KX rfl MC))))))))))))))))))))) fun jk jl bY=>?_)))))
       have er:=jg.all bY (ep p rfl)
       have et:=jj.all bY jf
       refine KG (iv 0) rfl rfl (KT rfl rfl rr) (KL ?_)
       have jm:=K4 (iv 0)
       refine KE (La (Ln (O0 ?_)))
       have jn:Pn jk (fun i=>(Le p) i\/((Le g2) i)) p l (MU l k ax ay bx yy st):=(by rw[hT0];first|exact Mm hf2 ho1 er et bX|exact Mm hf2 ho2 er et bX)
       have jo:KP w0 T_r (fun i=>(Le p) i\/((Le g2) i)):=fun i h=>h.elim (fun y=>eo i y) (fun y=>je i y)
       exact L4 ao rfl (MJ (vs:=(Ob m (RA l ax ay s1) (Rv l ax ay s1) 0 0 ((LJ l (MP l ax ay s1)).1))) LD rfl af jl) (Lu (v:=iv 0) rfl jm) ⟨(fun i=>(Le p) i\/((Le g2) i)),(by rw[hR] <;> rfl),((ee.trans bm (KP.ok (S:=T_r) eo (fun _ x=>x))).trans bY (KP.ok (S:=T_r) an K3)),⟨jn,jo⟩⟩
   ·skip
    refine Lf (KE (KH (KH ?_)))
    first|(rw[SM (has:=NE m) (by assumption)] at h1;replace h1:=h1.trans (by unfold Yh;exact if_pos rfl);(try dsimp only at h1))|(have hv1:Qd l ax ay s1=0:=(by first|assumption|(apply Decidable.byContradiction;assumption));replace h1:=h1.trans (by unfold Yh;exact if_pos hv1);(try dsimp only at h1);rw[← QI hv1] at h1)
    refine KF (KS rfl rfl rfl dk (KL ?_))
    have jp:=K4 (.bool (Ni m))
    refine KE ?_
    refine K5 jp (fun jq=>?_) (fun jq=>?_)
    ·skip
     refine KH ?_
     rw[UJ (has:=Ni m) (by assumption)] at h1
     refine KF (KG (.agg #[iv bx,iv yy]) rfl rfl (KU LL rfl cM dy rr) (Lw (R:=fun v_ w_=>∃ (aN:Nat->Prop),.tuple #[.agg #[iv (RA l bx yy s1),iv (Rv l bx yy s1)],iv (Qd l bx yy s1)]=v_/\KM aj aH w_/\(PD w_ aN ae l (MP l bx yy s1) ([(p,st)])/\KP aH aj aN)) rfl rfl (LE rfl rfl rfl (fun _ _=>by kernel_rfl) (K2 _) (Lj ak (Lj rfl LP)) (Vm ae l s1 ([(p,st)]) bx yy aj _  bF ) (fun e_ w_ h_=>by obtain⟨T902_,he_,hr_⟩:=h_;exact⟨_,he_,T902_,rfl,hr_⟩)) ?_))
     rintro _ le ⟨aN,rfl,bZ,⟨jr,eu⟩⟩
     have js:=aI.all bZ (aq.symm ac rfl)
     have jt:=aJ.all bZ (aB ah rfl)
     have aW:=ap.trans aC eu
     obtain⟨bn,b7⟩:=VQ eu aq aI (aB.symm) aJ
     refine KG (.tuple #[.agg #[iv (RA l bx yy s1),iv (Rv l bx yy s1)],iv (Qd l bx yy s1)]) rfl rfl (KN rfl rfl rr) (KG (.agg #[iv (RA l bx yy s1),iv (Rv l bx yy s1)]) rfl rfl (LI rfl rfl rfl rr) (KG (iv (Qd l bx yy s1)) rfl rfl (LI rfl rfl rfl rr) (KG (pt ah 3) rfl rfl (KQ (n:=2) rfl am Tryz.underlying71 rfl (by kernel_rfl) (by decide) rfl rr) (OG (us:=[iv (RA l bx yy s1),iv (Rv l bx yy s1)]) (ns:=(Ob m 0 0 (RA l bx yy s1) (Rv l bx yy s1) (fun _=>(0:Int)))) LL rfl rfl rfl rfl rfl jt (Nat.le_of_ble_eq_true rfl) (KX rfl (KX rfl MC)) rfl fun ew ex b8=>?_))))
     have b9:=js.all b8 (aw.symm ac rfl)
     have ey:=jr.all b8 b7
     have bo:=(aC.trans bZ (fun i hi x=>((KP.ok (S:=T_r) ap (fun _ x=>x)) i hi x))).trans b8 (KP.ok (S:=T_r) av K3)
     refine KG (iv (Qd l bx yy s1)) rfl rfl (KT rfl rfl rr) (KL ?_)
     have ez:=K4 (iv (Qd l bx yy s1))
     refine KE (KH (KF (KS rfl rfl rfl ez (KG (.bool (decide ((Qd l bx yy s1)≠0))) rfl rfl (L9 rfl rfl rfl rfl rr) (KL ?_)))))
     have ju:=K4 (.bool (decide ((Qd l bx yy s1)≠0)))
     refine KE ?_
     refine K5 ju (fun aX=>?_) (fun aX=>?_)
     ·replace aX:=of_decide_eq_true aX
      refine Nr (Mi ?_)
      refine MM ⟨_,rfl,?_⟩
      refine KH (Lf (KE (KH ?_)))
      first|have hR:=h1.trans (by unfold Yh;exact if_neg (by assumption))|have hR:=h1.trans (by unfold Vo;exact if_neg (by assumption))|have hR:=h1.trans (by unfold Yu;exact if_neg (by assumption))|(have hRR:=PR (l:=l) (k:=k) (ax:=ax) (ay:=ay) (bx:=bx) (yy:=yy) hm hs1 (by first|exact Or.inl (by assumption)|exact Or.inr (by assumption));obtain⟨s9,hR⟩:=hRR)
      have hT0:MU l k ax ay bx yy st=st:=by unfold MU;rw[hR];exact if_neg (by first|assumption|(intro z;exact absurd (show (120:Int)=0 from z) (by decide)))
      obtain⟨g2,a1,b1,a2,b2,hf2,hT2,ho1,ho2,ai,hq2,hg2,ap1_,ap2_,ap3_⟩:=NQ ey
      have jv:KP w0 T_r (Le p):=fun i h=>aW i ((fun i h=>(hT2 i).2 (Or.inl h)) i h)
      have jw:KJ (Le p) (Le ac):=fun i h=>bn i ((fun i h=>(hT2 i).2 (Or.inl h)) i h)
      have jx:KP w0 T_r (Le g2):=fun i h=>aW i ((fun i h=>(hT2 i).2 (Or.inr (Or.inr h))) i h)
      have jy:KJ (Le g2) (Le ac):=fun i h=>bn i ((fun i h=>(hT2 i).2 (Or.inr (Or.inr h))) i h)
      have eA:KJ (Le p) (Le g2):=ap2_
      refine KF (KG (.agg (Ob 0 0 0 0 0 (fun _=>(0:Int))).toArray) rfl rfl (LW (l':=[]) (cells:=(Ob 0 0 0 0 0 (fun _=>(0:Int))).toArray) rfl QZ (by kernel_rfl) rfl rr) (KS rfl rfl rfl ez (Lh (us:=(Ob 0 0 0 0 0 (fun _=>(0:Int)))) LD rfl rfl rfl af rfl b9 rfl (KX rfl (KX rfl (KX rfl (KX rfl (KX rfl (KX rfl (KX rfl (KX rfl (KX rfl (KX rfl (KX rfl (KX rfl (KX rfl (KX rfl (KX rfl (KX rfl (KX rfl (KX rfl (KX rfl (KX rfl (KX rfl MC))))))))))))))))))))) fun jz jA cd=>?_)))
      have eB:=ai.all cd (jw p rfl)
      have eC:=hg2.all cd jy
      refine KG (iv (Qd l bx yy s1)) rfl rfl (KT rfl rfl rr) (KL ?_)
      have jB:=K4 (iv (Qd l bx yy s1))
      refine KE (La (M2 ?_))
      have jC:Pn jz (fun i=>(Le p) i\/((Le g2) i)) p l (MU l k ax ay bx yy st):=(by rw[hT0];first|exact Mm hf2 ho1 eB eC eA|exact Mm hf2 ho2 eB eC eA)
      have jD:KP w0 T_r (fun i=>(Le p) i\/((Le g2) i)):=fun i h=>h.elim (fun y=>jv i y) (fun y=>jx i y)
      exact L4 ao rfl (MJ (vs:=(Ob 0 0 0 0 0 (fun _=>(0:Int)))) LD rfl af jA) (Lu (v:=iv (Qd l bx yy s1)) rfl jB) ⟨(fun i=>(Le p) i\/((Le g2) i)),(by rw[hR] <;> rfl),(bo.trans cd (KP.ok (S:=T_r) an K3)),⟨jC,jD⟩⟩
     ·replace aX:=of_decide_eq_false aX
      refine Lf (KE (KH (KH ?_)))
      first|(rw[SM (has:=Ni m) (by assumption)] at h1;replace h1:=h1.trans (by unfold Vo;exact if_pos rfl);(try dsimp only at h1))|(have hv2:Qd l bx yy (MP l ax ay s1)=0:=(by first|assumption|(apply Decidable.byContradiction;assumption));replace h1:=h1.trans (by unfold Vo;exact if_pos hv2);(try dsimp only at h1);rw[← QI hv2] at h1)|(have hv2:Qd l bx yy s1=0:=(by first|assumption|(apply Decidable.byContradiction;assumption));replace h1:=h1.trans (by unfold Vo;exact if_pos hv2);(try dsimp only at h1);rw[← QI hv2] at h1)
      refine KF (Lw (R:=fun v_ w_=>∃ (ce:Nat->Prop),.tuple #[LH ((LJ l (MP l bx yy s1)).1),iv ((LJ l (MP l bx yy s1)).2.1)]=v_/\KM aN ew w_/\(PD w_ ce ae l (WD l (MP l bx yy s1)) ([(p,st)])/\KP ew aN ce)) rfl rfl (LE rfl rfl rfl (fun _ _=>by kernel_rfl) (K2 _) (Lj ak LP) (Rt ae l (MP l bx yy s1) ([(p,st)]) aN _ (hO.but bo (ovO hG)) (ovO (UM aW hG hA)) ey ) (fun e_ w_ h_=>by obtain⟨T1007_,he_,hr_⟩:=h_;exact⟨_,he_,T1007_,rfl,hr_⟩)) ?_)
      rintro _ lf ⟨ce,rfl,cf,⟨jE,eD⟩⟩
      have jF:=b9.all cf (bn.symm ac rfl)
      have jG:=ex.all cf (b7.symm ah rfl)
      have bp:=aW.trans bo eD
      obtain⟨bq,eE⟩:=VQ eD bn b9 b7 ex
      refine KG (.tuple #[LH ((LJ l (MP l bx yy s1)).1),iv ((LJ l (MP l bx yy s1)).2.1)]) rfl rfl (KN rfl rfl rr) (KG (LH ((LJ l (MP l bx yy s1)).1)) rfl rfl (LI rfl rfl rfl rr) (KG (iv ((LJ l (MP l bx yy s1)).2.1)) rfl rfl (LI rfl rfl rfl rr) (KG (pt ah 5) rfl rfl (KQ (n:=16) rfl am Tryz.underlying71 rfl (by kernel_rfl) (by decide) rfl rr) (OG (us:=L6 16 ((LJ l (MP l bx yy s1)).1)) (ns:=(Ob m 0 0 (RA l bx yy s1) (Rv l bx yy s1) ((LJ l (MP l bx yy s1)).1))) P9 rfl rfl rfl rfl rfl jG (Nat.le_of_ble_eq_true rfl) (Sa _ _) rfl fun lg jH cg=>?_))))
      have eF:=jF.all cg (aw.symm ac rfl)
      have eG:=jE.all cg eE
      have eH:=(bo.trans cf (fun i hi x=>((KP.ok (S:=T_r) aW (fun _ x=>x)) i hi x))).trans cg (KP.ok (S:=T_r) av K3)
      refine KG (iv ((LJ l (MP l bx yy s1)).2.1)) rfl rfl (KT rfl rfl rr) (KL ?_)
      have eI:=K4 (iv ((LJ l (MP l bx yy s1)).2.1))
      refine KE (KH (KF (KS rfl rfl rfl eI (KG (.bool (decide (((LJ l (MP l bx yy s1)).2.1)≠0))) rfl rfl (L9 rfl rfl rfl rfl rr) (KL ?_)))))
      have jI:=K4 (.bool (decide (((LJ l (MP l bx yy s1)).2.1)≠0)))
      refine KE ?_
      refine K5 jI (fun aY=>?_) (fun aY=>?_)
      ·replace aY:=of_decide_eq_true aY
       refine Nr (Mi ?_)
       refine MM ⟨_,rfl,?_⟩
       refine KH (Lf (KE (KH ?_)))
       first|have hR:=h1.trans (by unfold Yh;exact if_neg (by assumption))|have hR:=h1.trans (by unfold Vo;exact if_neg (by assumption))|have hR:=h1.trans (by unfold Yu;exact if_neg (by assumption))|(have hRR:=PR (l:=l) (k:=k) (ax:=ax) (ay:=ay) (bx:=bx) (yy:=yy) hm hs1 (by first|exact Or.inl (by assumption)|exact Or.inr (by assumption));obtain⟨s9,hR⟩:=hRR)
       have hT0:MU l k ax ay bx yy st=st:=by unfold MU;rw[hR];exact if_neg (by first|assumption|(intro z;exact absurd (show (120:Int)=0 from z) (by decide)))
       obtain⟨g2,a1,b1,a2,b2,hf2,hT2,ho1,ho2,ai,hq2,hg2,ap1_,ap2_,ap3_⟩:=NQ eG
       have jJ:KP w0 T_r (Le p):=fun i h=>bp i ((fun i h=>(hT2 i).2 (Or.inl h)) i h)
       have jK:KJ (Le p) (Le ac):=fun i h=>bq i ((fun i h=>(hT2 i).2 (Or.inl h)) i h)
       have jL:KP w0 T_r (Le g2):=fun i h=>bp i ((fun i h=>(hT2 i).2 (Or.inr (Or.inr h))) i h)
       have jM:KJ (Le g2) (Le ac):=fun i h=>bq i ((fun i h=>(hT2 i).2 (Or.inr (Or.inr h))) i h)
       have eJ:KJ (Le p) (Le g2):=ap2_
       refine KF (KG (.agg (Ob 0 0 0 0 0 (fun _=>(0:Int))).toArray) rfl rfl (LW (l':=[]) (cells:=(Ob 0 0 0 0 0 (fun _=>(0:Int))).toArray) rfl QZ (by kernel_rfl) rfl rr) (KS rfl rfl rfl eI (Lh (us:=(Ob 0 0 0 0 0 (fun _=>(0:Int)))) LD rfl rfl rfl af rfl eF rfl (KX rfl (KX rfl (KX rfl (KX rfl (KX rfl (KX rfl (KX rfl (KX rfl (KX rfl (KX rfl (KX rfl (KX rfl (KX rfl (KX rfl (KX rfl (KX rfl (KX rfl (KX rfl (KX rfl (KX rfl (KX rfl MC))))))))))))))))))))) fun jN jO ci=>?_)))
       have eK:=ai.all ci (jK p rfl)
       have eL:=hg2.all ci jM
       refine KG (iv ((LJ l (MP l bx yy s1)).2.1)) rfl rfl (KT rfl rfl rr) (KL ?_)
       have jP:=K4 (iv ((LJ l (MP l bx yy s1)).2.1))
       refine KE (La (M2 ?_))
       have jQ:Pn jN (fun i=>(Le p) i\/((Le g2) i)) p l (MU l k ax ay bx yy st):=(by rw[hT0];first|exact Mm hf2 ho1 eK eL eJ|exact Mm hf2 ho2 eK eL eJ)
       have jR:KP w0 T_r (fun i=>(Le p) i\/((Le g2) i)):=fun i h=>h.elim (fun y=>jJ i y) (fun y=>jL i y)
       exact L4 ao rfl (MJ (vs:=(Ob 0 0 0 0 0 (fun _=>(0:Int)))) LD rfl af jO) (Lu (v:=iv ((LJ l (MP l bx yy s1)).2.1)) rfl jP) ⟨(fun i=>(Le p) i\/((Le g2) i)),(by rw[hR] <;> rfl),(eH.trans ci (KP.ok (S:=T_r) an K3)),⟨jQ,jR⟩⟩
      ·replace aY:=of_decide_eq_false aY
       refine Lf (KE (KH ?_))
       have hR:=h1.trans (by unfold Yu;exact if_pos (by first|assumption|(apply Decidable.byContradiction;assumption)))
       have hT0:=(show MU l k ax ay bx yy st=(Sk l k ax ay bx yy st).2.2 from if_pos (by rw[hR]))
       rw[hR] at hT0
       dsimp only at hT0
       rw[← UF (by first|assumption|(apply Decidable.byContradiction;assumption))] at hT0
       obtain⟨g2,a1,b1,a2,b2,hf2,hT2,ho1,ho2,ai,hq2,hg2,ap1_,ap2_,ap3_⟩:=NQ eG
       have eM:KP w0 T_r (Le p):=fun i h=>bp i ((fun i h=>(hT2 i).2 (Or.inl h)) i h)
       have eN:KJ (Le p) (Le ac):=fun i h=>bq i ((fun i h=>(hT2 i).2 (Or.inl h)) i h)
       have jS:KJ (Le p) (Le ah):=fun i h=>eE i ((fun i h=>(hT2 i).2 (Or.inl h)) i h)
       have jT:KP w0 T_r (Le g2):=fun i h=>bp i ((fun i h=>(hT2 i).2 (Or.inr (Or.inr h))) i h)
       have jU:KJ (Le g2) (Le ac):=fun i h=>bq i ((fun i h=>(hT2 i).2 (Or.inr (Or.inr h))) i h)
       have cj:KJ (Le p) (Le g2):=ap2_
       refine KF (KS rfl rfl rfl aE (KG (.agg #[.slice (some ⟨g2,0,none⟩) l.length l.length,iv ((a2:Nat):Int),.bool b2]) rfl rfl (KU MI rfl ak hq2 rr) (KG (pt p 0) rfl rfl (Og rfl rfl rr) (Lh (us:=[.slice (some ⟨g2,0,none⟩) l.length l.length,iv ((a2:Nat):Int),.bool b2]) MI rfl rfl rfl rfl rfl ai rfl (KX rfl (KX rfl (KX rfl MC))) fun lh jV bt=>?_))))
       have jW:=eF.all bt (eN.symm ac rfl)
       have jX:=jH.all bt (jS.symm ah rfl)
       have jY:=hg2.all bt cj.symm
       refine KL ?_
       refine KE (KH (KH (KF (KG (.agg (Ob m 0 0 (RA l bx yy s1) (Rv l bx yy s1) ((LJ l (MP l bx yy s1)).1)).toArray) rfl rfl (KU LD rfl am jX rr) (Lh (us:=(Ob m 0 0 (RA l bx yy s1) (Rv l bx yy s1) ((LJ l (MP l bx yy s1)).1))) LD rfl rfl rfl af rfl jW rfl (KX rfl (KX rfl (KX rfl (KX rfl (KX rfl (KX rfl (KX rfl (KX rfl (KX rfl (KX rfl (KX rfl (KX rfl (KX rfl (KX rfl (KX rfl (KX rfl (KX rfl (KX rfl (KX rfl (KX rfl (KX rfl MC))))))))))))))))))))) fun jZ j0 cm=>?_)))))
       have eO:=jV.all cm (eN p rfl)
       have eP:=jY.all cm jU
       refine KG (iv 0) rfl rfl (KT rfl rfl rr) (KL ?_)
       have j1:=K4 (iv 0)
       refine KE (La (Ln (O0 ?_)))
       have j2:Pn jZ (fun i=>(Le p) i\/((Le g2) i)) p l (MU l k ax ay bx yy st):=(by rw[hT0];first|exact Mm hf2 ho1 eO eP cj|exact Mm hf2 ho2 eO eP cj)
       have j3:KP w0 T_r (fun i=>(Le p) i\/((Le g2) i)):=fun i h=>h.elim (fun y=>eM i y) (fun y=>jT i y)
       exact L4 ao rfl (MJ (vs:=(Ob m 0 0 (RA l bx yy s1) (Rv l bx yy s1) ((LJ l (MP l bx yy s1)).1))) LD rfl af j0) (Lu (v:=iv 0) rfl j1) ⟨(fun i=>(Le p) i\/((Le g2) i)),(by rw[hR] <;> rfl),((eH.trans bt (KP.ok (S:=T_r) eM (fun _ x=>x))).trans cm (KP.ok (S:=T_r) an K3)),⟨j2,j3⟩⟩
    ·skip
     refine Lf (KE (KH (KH ?_)))
     first|(rw[SM (has:=Ni m) (by assumption)] at h1;replace h1:=h1.trans (by unfold Vo;exact if_pos rfl);(try dsimp only at h1))|(have hv2:Qd l bx yy (MP l ax ay s1)=0:=(by first|assumption|(apply Decidable.byContradiction;assumption));replace h1:=h1.trans (by unfold Vo;exact if_pos hv2);(try dsimp only at h1);rw[← QI hv2] at h1)|(have hv2:Qd l bx yy s1=0:=(by first|assumption|(apply Decidable.byContradiction;assumption));replace h1:=h1.trans (by unfold Vo;exact if_pos hv2);(try dsimp only at h1);rw[← QI hv2] at h1)
     refine KF (Lw (R:=fun v_ w_=>∃ (cn:Nat->Prop),.tuple #[LH ((LJ l s1).1),iv ((LJ l s1).2.1)]=v_/\KM aj aH w_/\(PD w_ cn ae l (WD l s1) ([(p,st)])/\KP aH aj cn)) rfl rfl (LE rfl rfl rfl (fun _ _=>by kernel_rfl) (K2 _) (Lj ak LP) (Rt ae l s1 ([(p,st)]) aj _ (hO.but aC (ovO hG)) (ovO (UM ap hG hA)) bF ) (fun e_ w_ h_=>by obtain⟨T1169_,he_,hr_⟩:=h_;exact⟨_,he_,T1169_,rfl,hr_⟩)) ?_)
     rintro _ lj ⟨cn,rfl,co,⟨j4,eQ⟩⟩
     have j5:=aI.all co (aq.symm ac rfl)
     have j6:=aJ.all co (aB ah rfl)
     have bu:=ap.trans aC eQ
     obtain⟨bv,eR⟩:=VQ eQ aq aI (aB.symm) aJ
     refine KG (.tuple #[LH ((LJ l s1).1),iv ((LJ l s1).2.1)]) rfl rfl (KN rfl rfl rr) (KG (LH ((LJ l s1).1)) rfl rfl (LI rfl rfl rfl rr) (KG (iv ((LJ l s1).2.1)) rfl rfl (LI rfl rfl rfl rr) (KG (pt ah 5) rfl rfl (KQ (n:=16) rfl am Tryz.underlying71 rfl (by kernel_rfl) (by decide) rfl rr) (OG (us:=L6 16 ((LJ l s1).1)) (ns:=(Ob m 0 0 0 0 ((LJ l s1).1))) P9 rfl rfl rfl rfl rfl j6 (Nat.le_of_ble_eq_true rfl) (Sa _ _) rfl fun lk j7 cq=>?_))))
     have eS:=j5.all cq (aw.symm ac rfl)
     have eT:=j4.all cq eR
     have eU:=(aC.trans co (fun i hi x=>((KP.ok (S:=T_r) ap (fun _ x=>x)) i hi x))).trans cq (KP.ok (S:=T_r) av K3)
     refine KG (iv ((LJ l s1).2.1)) rfl rfl (KT rfl rfl rr) (KL ?_)
     have eV:=K4 (iv ((LJ l s1).2.1))
     refine KE (KH (KF (KS rfl rfl rfl eV (KG (.bool (decide (((LJ l s1).2.1)≠0))) rfl rfl (L9 rfl rfl rfl rfl rr) (KL ?_)))))
     have j8:=K4 (.bool (decide (((LJ l s1).2.1)≠0)))
     refine KE ?_
     refine K5 j8 (fun aZ=>?_) (fun aZ=>?_)
     ·replace aZ:=of_decide_eq_true aZ
      refine Nr (Mi ?_)
      refine MM ⟨_,rfl,?_⟩
      refine KH (Lf (KE (KH ?_)))
      first|have hR:=h1.trans (by unfold Yh;exact if_neg (by assumption))|have hR:=h1.trans (by unfold Vo;exact if_neg (by assumption))|have hR:=h1.trans (by unfold Yu;exact if_neg (by assumption))|(have hRR:=PR (l:=l) (k:=k) (ax:=ax) (ay:=ay) (bx:=bx) (yy:=yy) hm hs1 (by first|exact Or.inl (by assumption)|exact Or.inr (by assumption));obtain⟨s9,hR⟩:=hRR)
      have hT0:MU l k ax ay bx yy st=st:=by unfold MU;rw[hR];exact if_neg (by first|assumption|(intro z;exact absurd (show (120:Int)=0 from z) (by decide)))
      obtain⟨g2,a1,b1,a2,b2,hf2,hT2,ho1,ho2,ai,hq2,hg2,ap1_,ap2_,ap3_⟩:=NQ eT
      have j9:KP w0 T_r (Le p):=fun i h=>bu i ((fun i h=>(hT2 i).2 (Or.inl h)) i h)
      have ka:KJ (Le p) (Le ac):=fun i h=>bv i ((fun i h=>(hT2 i).2 (Or.inl h)) i h)
      have kb:KP w0 T_r (Le g2):=fun i h=>bu i ((fun i h=>(hT2 i).2 (Or.inr (Or.inr h))) i h)
      have kd:KJ (Le g2) (Le ac):=fun i h=>bv i ((fun i h=>(hT2 i).2 (Or.inr (Or.inr h))) i h)
      have eW:KJ (Le p) (Le g2):=ap2_
      refine KF (KG (.agg (Ob 0 0 0 0 0 (fun _=>(0:Int))).toArray) rfl rfl (LW (l':=[]) (cells:=(Ob 0 0 0 0 0 (fun _=>(0:Int))).toArray) rfl QZ (by kernel_rfl) rfl rr) (KS rfl rfl rfl eV (Lh (us:=(Ob 0 0 0 0 0 (fun _=>(0:Int)))) LD rfl rfl rfl af rfl eS rfl (KX rfl (KX rfl (KX rfl (KX rfl (KX rfl (KX rfl (KX rfl (KX rfl (KX rfl (KX rfl (KX rfl (KX rfl (KX rfl (KX rfl (KX rfl (KX rfl (KX rfl (KX rfl (KX rfl (KX rfl (KX rfl MC))))))))))))))))))))) fun ke kf cr=>?_)))
      have eX:=ai.all cr (ka p rfl)
      have eY:=hg2.all cr kd
      refine KG (iv ((LJ l s1).2.1)) rfl rfl (KT rfl rfl rr) (KL ?_)
      have kg:=K4 (iv ((LJ l s1).2.1))
      refine KE (La (M2 ?_))
      have ki:Pn ke (fun i=>(Le p) i\/((Le g2) i)) p l (MU l k ax ay bx yy st):=(by rw[hT0];first|exact Mm hf2 ho1 eX eY eW|exact Mm hf2 ho2 eX eY eW)
      have kj:KP w0 T_r (fun i=>(Le p) i\/((Le g2) i)):=fun i h=>h.elim (fun y=>j9 i y) (fun y=>kb i y)
      exact L4 ao rfl (MJ (vs:=(Ob 0 0 0 0 0 (fun _=>(0:Int)))) LD rfl af kf) (Lu (v:=iv ((LJ l s1).2.1)) rfl kg) ⟨(fun i=>(Le p) i\/((Le g2) i)),(by rw[hR] <;> rfl),(eU.trans cr (KP.ok (S:=T_r) an K3)),⟨ki,kj⟩⟩
     ·replace aZ:=of_decide_eq_false aZ
      refine Lf (KE (KH ?_))
      have hR:=h1.trans (by unfold Yu;exact if_pos (by first|assumption|(apply Decidable.byContradiction;assumption)))
      have hT0:=(show MU l k ax ay bx yy st=(Sk l k ax ay bx yy st).2.2 from if_pos (by rw[hR]))
      rw[hR] at hT0
      dsimp only at hT0
      rw[← UF (by first|assumption|(apply Decidable.byContradiction;assumption))] at hT0
      obtain⟨g2,a1,b1,a2,b2,hf2,hT2,ho1,ho2,ai,hq2,hg2,ap1_,ap2_,ap3_⟩:=NQ eT
      have eZ:KP w0 T_r (Le p):=fun i h=>bu i ((fun i h=>(hT2 i).2 (Or.inl h)) i h)
      have e6:KJ (Le p) (Le ac):=fun i h=>bv i ((fun i h=>(hT2 i).2 (Or.inl h)) i h)
      have kn:KJ (Le p) (Le ah):=fun i h=>eR i ((fun i h=>(hT2 i).2 (Or.inl h)) i h)
      have ko:KP w0 T_r (Le g2):=fun i h=>bu i ((fun i h=>(hT2 i).2 (Or.inr (Or.inr h))) i h)
      have kp:KJ (Le g2) (Le ac):=fun i h=>bv i ((fun i h=>(hT2 i).2 (Or.inr (Or.inr h))) i h)
      have ct:KJ (Le p) (Le g2):=ap2_
      refine KF (KS rfl rfl rfl aE (KG (.agg #[.slice (some ⟨g2,0,none⟩) l.length l.length,iv ((a2:Nat):Int),.bool b2]) rfl rfl (KU MI rfl ak hq2 rr) (KG (pt p 0) rfl rfl (Og rfl rfl rr) (Lh (us:=[.slice (some ⟨g2,0,none⟩) l.length l.length,iv ((a2:Nat):Int),.bool b2]) MI rfl rfl rfl rfl rfl ai rfl (KX rfl (KX rfl (KX rfl MC))) fun ll kq bz=>?_))))
      have kr:=eS.all bz (e6.symm ac rfl)
      have ks:=j7.all bz (kn.symm ah rfl)
      have kt:=hg2.all bz ct.symm
      refine KL ?_
      refine KE (KH (KH (KF (KG (.agg (Ob m 0 0 0 0 ((LJ l s1).1)).toArray) rfl rfl (KU LD rfl am ks rr) (Lh (us:=(Ob m 0 0 0 0 ((LJ l s1).1))) LD rfl rfl rfl af rfl kr rfl (KX rfl (KX rfl (KX rfl (KX rfl (KX rfl (KX rfl (KX rfl (KX rfl (KX rfl (KX rfl (KX rfl (KX rfl (KX rfl (KX rfl (KX rfl (KX rfl (KX rfl (KX rfl (KX rfl (KX rfl (KX rfl MC))))))))))))))))))))) fun ku kv cu=>?_)))))
      have e7:=kq.all cu (e6 p rfl)
      have e8:=kt.all cu kp
      refine KG (iv 0) rfl rfl (KT rfl rfl rr) (KL ?_)
      have kw:=K4 (iv 0)
      refine KE (La (Ln (O0 ?_)))
      have kx:Pn ku (fun i=>(Le p) i\/((Le g2) i)) p l (MU l k ax ay bx yy st):=(by rw[hT0];first|exact Mm hf2 ho1 e7 e8 ct|exact Mm hf2 ho2 e7 e8 ct)
      have ky:KP w0 T_r (fun i=>(Le p) i\/((Le g2) i)):=fun i h=>h.elim (fun y=>eZ i y) (fun y=>ko i y)
      exact L4 ao rfl (MJ (vs:=(Ob m 0 0 0 0 ((LJ l s1).1))) LD rfl af kv) (Lu (v:=iv 0) rfl kw) ⟨(fun i=>(Le p) i\/((Le g2) i)),(by rw[hR] <;> rfl),((eU.trans bz (KP.ok (S:=T_r) eZ (fun _ x=>x))).trans cu (KP.ok (S:=T_r) an K3)),⟨kx,ky⟩⟩
  ·skip
   refine KF (Lw (R:=fun v_ w_=>v_ = .bool false/\KM (fun _=>False) bB w_) rfl rfl (LE rfl rfl rfl (fun _ _=>by kernel_rfl) (K2 _) (Lj ak LP) (Q6 ae l s1 ([(p,st)]) aj _  aG ) (fun e_ w_ h_=>⟨_,h_.1,(congrArg Value.bool a9),h_.2⟩)) ?_)
   rintro _ kz ⟨rfl,e9⟩
   obtain⟨kA,kB,kC⟩:=Nx e9 bC aG dj
   have fa:=bD.tr e9
   refine KG (.bool false) rfl rfl (KN rfl rfl rr) (KO (iv k) 1 false 30 rfl rfl rfl rfl rfl (KN rfl cL rr) (KO (pt ah 0) 1 false 30 rfl rfl rfl rfl rfl (KQ (n:=1) rfl am Tryz.underlying71 rfl (by kernel_rfl) (by decide) rfl rr) (KO (iv m) 1 false 30 rfl rfl rfl rfl rfl (KR rfl rfl Tryz.underlying3 kC rfl rfl rr) (Lz (R:=fun v_ w_=>v_ = .bool false/\KM (fun _=>False) kz w_) 1 false 30 rfl rfl rfl rfl rfl (LE rfl rfl rfl (fun _ _=>by kernel_rfl) (K2 _) (Lj rfl (Lj rfl LP)) (azH k m  _ (hA.but fa hG)  ) (fun e_ w_ h_=>⟨_,h_.1,(congrArg Value.bool (decide_eq_false dr)),h_.2⟩)) ?_))))
   rintro _ lm ⟨rfl,fb⟩
   obtain⟨kD,kE⟩:=NL fb kA kB
   refine KO (.bool true) 1 false 30 rfl rfl rfl rfl rfl (LT rfl rfl rfl rr) (KG (.bool true) rfl rfl (K6 rfl rfl rfl rr) (KL ?_))
   have kF:=K4 (.bool true)
   refine KE ?_
   refine K5 (t:=true) kF (fun _=>?_) (fun e=>by cases e)
   refine Nr (Mi ?_)
   refine MM ⟨_,rfl,?_⟩
   refine KH (Lf (KE (KH ?_)))
   first|have hR:=h1.trans (by unfold Yh;exact if_neg (by assumption))|have hR:=h1.trans (by unfold Vo;exact if_neg (by assumption))|have hR:=h1.trans (by unfold Yu;exact if_neg (by assumption))|(have hRR:=PR (l:=l) (k:=k) (ax:=ax) (ay:=ay) (bx:=bx) (yy:=yy) hm hs1 (by first|exact Or.inl (by assumption)|exact Or.inr (by assumption));obtain⟨s9,hR⟩:=hRR)
   have hT0:MU l k ax ay bx yy st=st:=by unfold MU;rw[hR];exact if_neg (by first|assumption|(intro z;exact absurd (show (120:Int)=0 from z) (by decide)))
   obtain⟨g2,a1,b1,a2,b2,hf2,hT2,ho1,ho2,ai,hq2,hg2,ap1_,ap2_,ap3_⟩:=NQ kE
   have kG:KP w0 T_r (Le p):=fun i h=>ap i ((fun i h=>(hT2 i).2 (Or.inl h)) i h)
   have kH:KJ (Le p) (Le ac):=fun i h=>aq i ((fun i h=>(hT2 i).2 (Or.inl h)) i h)
   have kI:KP w0 T_r (Le g2):=fun i h=>ap i ((fun i h=>(hT2 i).2 (Or.inr (Or.inr h))) i h)
   have kJ:KJ (Le g2) (Le ac):=fun i h=>aq i ((fun i h=>(hT2 i).2 (Or.inr (Or.inr h))) i h)
   have fc:KJ (Le p) (Le g2):=ap2_
   refine KF (KG (.agg (Ob 0 0 0 0 0 (fun _=>(0:Int))).toArray) rfl rfl (LW (l':=[]) (cells:=(Ob 0 0 0 0 0 (fun _=>(0:Int))).toArray) rfl QZ (by kernel_rfl) rfl rr) (KS rfl rfl rfl dl (Lh (us:=(Ob 0 0 0 0 0 (fun _=>(0:Int)))) LD rfl rfl rfl af rfl kD rfl (KX rfl (KX rfl (KX rfl (KX rfl (KX rfl (KX rfl (KX rfl (KX rfl (KX rfl (KX rfl (KX rfl (KX rfl (KX rfl (KX rfl (KX rfl (KX rfl (KX rfl (KX rfl (KX rfl (KX rfl (KX rfl MC))))))))))))))))))))) fun kK kL cv=>?_)))
   have fd:=ai.all cv (kH p rfl)
   have fe:=hg2.all cv kJ
   refine KG (iv 120) rfl rfl (KT rfl rfl rr) (KL ?_)
   have kM:=K4 (iv 120)
   refine KE (La (M2 ?_))
   have kN:Pn kK (fun i=>(Le p) i\/((Le g2) i)) p l (MU l k ax ay bx yy st):=(by rw[hT0];first|exact Mm hf2 ho1 fd fe fc|exact Mm hf2 ho2 fd fe fc)
   have kO:KP w0 T_r (fun i=>(Le p) i\/((Le g2) i)):=fun i h=>h.elim (fun y=>kG i y) (fun y=>kI i y)
   exact L4 ao rfl (MJ (vs:=(Ob 0 0 0 0 0 (fun _=>(0:Int)))) LD rfl af kL) (Lu (v:=iv 120) rfl kM) ⟨(fun i=>(Le p) i\/((Le g2) i)),(by rw[hR] <;> rfl),((fa.tr fb).trans cv (KP.ok (S:=T_r) an K3)),⟨kN,kO⟩⟩
end Go.Proofs.YtknjpdcpmpfklaaGreatDoor
set_option maxRecDepth 100000
namespace Go.Proofs.YtknjpdcpmpfklaaGreatDoor
open Go.ChangeShapes Go.WideShapes Go.ChangeAt Go.RowKit Go.Deep
def XE : List (String × DataW Unit) := [("clapboard/quant.steps", Rows.laid_clapboard_quant_steps), ("clapboard/scan.order", Rows.laid_clapboard_scan_order), ("clapboard/wave.waves", Rows.laid_clapboard_wave_waves), ("clapboard/block.acts", Rows.laid_clapboard_block_acts)]
theorem Tryz.gActs : Tryz.prog.globalNamed "clapboard/block.acts" = some 1 := by kernel_rfl
theorem Tryz.tActs:(Tryz.prog.globals[1]?).map (·.type)=some 165:=by kernel_rfl
theorem Tryz.c21a:Tryz.prog.cellsOf 165=21:=by kernel_rfl
theorem Tryz.c3a:Tryz.prog.cellsOf 164=3:=by kernel_rfl
theorem Tryz.c1b:Tryz.prog.cellsOf 4=1:=by kernel_rfl
theorem ZR(os:Os)(args:Array Value):laidMetH Tryz.prog XE ((World.doorLaid Tryz.prog 400 os).forCall (fun _ _=>0) ⟨#[],args,[]⟩).memory :=
 laidMetH_of_parts3 (fuel:=8) (laidMet_of_run' 8 (by kernel_rfl) (by kernel_rfl)) (by kernel_rfl) (by kernel_rfl)
def aDk{H:Type}(q:Int×Bool×Bool):DataW H:=.agg [.lit (.int .i64 q.1),.lit (.bool q.2.1),.lit (.bool q.2.2)]
def aDO:List (Int×Bool×Bool):=[(0,false,false),(0,false,false),(0,false,false),(0,false,false),(1,true,false),(2,false,true),(2,true,true)]
theorem ZS{W:World}{f:Nat}{l:List (Int×Bool×Bool)}{cs:List Value}{p:List MemPlace}
  (hd:DataW.trod (fun _=>()) Tryz.prog W 0 (fun _=>true) false f 165 cs=some (.agg (l.map aDk),p)):cs.length=21/\∀ u,u<7->∃ q,l[u]? = some q/\cs[u*3]? = some (.int .i64 q.1)/\cs[u*3+1]? = some (.bool q.2.1)/\cs[u*3+2]? = some (.bool q.2.2):=by
 obtain⟨xs,k,rfl,hx,hl,hn,hel⟩:=DataW.trod_array Tryz.underlying165 hd
 rw[Tryz.c21a] at hl
 refine⟨hl,fun u hu=>?_⟩
 simp only[Prod.mk.injEq,DataW.agg.injEq] at hx
 have h1:=hel u hu
 rw[Tryz.c3a,List.getElem?_eq_getElem (by omega)] at h1
 have e1:(xs.map (·.1))[u]? = some xs[u].1:=by rw[List.getElem?_map,List.getElem?_eq_getElem (by omega)];rfl
 rw[← hx.1,List.getElem?_map] at e1
 cases hq:l[u]? with
 | none=>rw[hq] at e1;cases e1
 | some y =>
  rw[hq] at e1
  simp only[Option.map_some,Option.some.injEq] at e1
  obtain⟨y0,y1,y2,n,hagg,hsz,h2,h3,h4⟩:=trod_struct3 Tryz.underlying164 h1
  simp only[Tryz.c1,Tryz.c1b] at h2 h3 h4
  obtain⟨z0,hz0,hd0,_⟩:=DataW.trod_int Tryz.underlying3 h2
  obtain⟨b1,hz1,hd1⟩:=DataW.trod_bool Tryz.underlying4 h3
  obtain⟨b2,hz2,hd2⟩:=DataW.trod_bool Tryz.underlying4 h4
  rw[hagg] at e1
  simp only[aDk,DataW.agg.injEq,List.cons.injEq,and_true] at e1
  rw[hd0,hd1,hd2] at e1
  simp only[DataW.lit.injEq,Lit.int.injEq,Lit.bool.injEq,true_and] at e1
  obtain⟨r0,r1,r2⟩:=e1
  have g0:=congrArg (·[0]?) hz0
  have g1:=congrArg (·[0]?) hz1
  have g2:=congrArg (·[0]?) hz2
  refine⟨y,rfl,?_,?_,?_⟩
  ·rw[r0];simpa [List.getElem?_take,List.getElem?_drop] using g0
  ·rw[r1];simpa [List.getElem?_take,List.getElem?_drop] using g1
  ·rw[r2];simpa [List.getElem?_take,List.getElem?_drop] using g2
theorem aA2{W : World}{f : Nat}{cs : Array Value}{p : List MemPlace}(hv : World.var? Tryz.prog W "clapboard/block.acts" = some cs)
  (hd:DataW.trod (fun _=>()) Tryz.prog W 0 (fun _=>true) false f 165 cs.toList=some (Rows.laid_clapboard_block_acts,p)) (hs:5<=W.heap.size):NM W:=by
 have key:=(ZS (l:=aDO) hd).2
 refine⟨hs,fun i hi=>?_⟩
 rw[World.var?_cell Tryz.gActs hv i,show cs[i]? = cs.toList[i]? by simp]
 obtain⟨q,hq,k0,k1,k2⟩:=key (i/3) (by omega)
 have hc:i/3<7/\(i=i/3*3\/i=i/3*3+1\/i=i/3*3+2):=by omega
 generalize i/3=u at *
 obtain⟨hu,hi3⟩:=hc
 have hu7:u=0\/u=1\/u=2\/u=3\/u=4\/u=5\/u=6:=by omega
 rcases hu7 with rfl|rfl|rfl|rfl|rfl|rfl|rfl <;> obtain rfl:=Option.some.inj hq <;> rcases hi3 with rfl|rfl|rfl <;> first|exact k0.trans rfl|exact k1.trans rfl|exact k2.trans rfl
theorem W9{W:World}(h:laidMetH Tryz.prog XE W):NU W/\Of W/\Qr W/\NM W:=by
 rw[MakeChecks.laidMetH_plain _ _ _ (by kernel_rfl)] at h
 obtain⟨ps,⟨g0,t0,cs0,f0,p0,q0,hg0,ht0,hv0,hd0,⟨g1,t1,cs1,f1,p1,q1,hg1,ht1,hv1,hd1,⟨g2,t2,cs2,f2,p2,q2,hg2,ht2,hv2,hd2,⟨g3,t3,cs3,f3,p3,q3,hg3,ht3,hv3,hd3,_,_⟩,_⟩,_⟩,_⟩,_,_⟩:=h
 obtain rfl:=Option.some.inj (Tryz.gSteps.symm.trans hg0)
 obtain rfl:=Option.some.inj (Tryz.tSteps.symm.trans ht0)
 obtain rfl:=Option.some.inj (Tryz.gOrder.symm.trans hg1)
 obtain rfl:=Option.some.inj (Tryz.tOrder.symm.trans ht1)
 obtain rfl:=Option.some.inj (Tryz.gWaves.symm.trans hg2)
 obtain rfl:=Option.some.inj (Tryz.tWaves.symm.trans ht2)
 obtain rfl:=Option.some.inj (Tryz.gActs.symm.trans hg3)
 obtain rfl:=Option.some.inj (Tryz.tActs.symm.trans ht3)
 have h0:=ay7 hv0 hd0
 have h1:=aAh hv1 hd1
 have h2:=az0 hv2 hd2
 obtain⟨t4,f4,h4⟩:=V6 Tryz.gActs hv3
 have s0:=h0.1
 have s1:=h1.pos
 have s2:=h2.1
 have s3:=MG h4
 exact⟨h0,h1,h2,aA2 hv3 hd3 (by omega)⟩
end Go.Proofs.YtknjpdcpmpfklaaGreatDoor
set_option maxRecDepth 100000
namespace Go.Proofs.YtknjpdcpmpfklaaGreatDoor
def NK(n:Int):Prop:=8<=n/\n<=64/\n%8=0
instance (n:Int):Decidable (NK n):=by unfold NK;infer_instance
def Pb(W H R B:Int):Prop:=NK W/\NK H/\1<=R/\R<=16777216/\R<=B/\B<=1073741824
instance (W H R B:Int):Decidable (Pb W H R B):=by unfold Pb;infer_instance
def Oj(K Q D F:Int):Prop:=0<=K/\K<=2/\0<=Q/\Q<=20/\0<=D/\D<16777216/\0<=F/\F<=1073741824
instance (K Q D F:Int):Decidable (Oj K Q D F):=by unfold Oj;infer_instance
def OT(W H R B:Int):Int:=if Pb W H R B then 0 else 110
def PI(K Q D F:Int):Int:=if Oj K Q D F then 0 else 110
def nm(a b c d:Nat):Int:=(a:Int)*16777216+(b:Int)*65536+(c:Int)*256+(d:Int)
def aC0(l:List Nat)(i:Nat):Int:=nm (l.getD i 0) (l.getD (i+1) 0) (l.getD (i+2) 0) (l.getD (i+3) 0)
def nm0(l:List Nat):Int:=(l.getD 0 0:Nat)
def nm1(l:List Nat):Int:=(l.getD 1 0:Nat)
def nm2(l:List Nat):Int:=aC0 l 2
def nm3(l:List Nat):Int:=aC0 l 6
def aDg(l:List Nat):Prop:=l.length=10/\Pb (nm0 l) (nm1 l) (nm2 l) (nm3 l)
instance (l:List Nat):Decidable (aDg l):=by unfold aDg;infer_instance
def aBY(l:List Nat):Prop:=10<=l.length/\Oj (nm0 l) (nm1 l) (nm2 l) (nm3 l)
instance (l:List Nat):Decidable (aBY l):=by unfold aBY;infer_instance
end Go.Proofs.YtknjpdcpmpfklaaGreatDoor
set_option maxRecDepth 100000
namespace Go.Proofs.YtknjpdcpmpfklaaGreatDoor
abbrev chZ:Ch:=⟨0,0,0,0,0,fun _=>0⟩
def pX(w i:Nat):Int:=((i%w:Nat):Int)
def pY(w i:Nat):Int:=((i/w:Nat):Int)
structure YX where
  a:VF
  b:VF
  s:Option Nat
def Md(l:List Nat)(k:Int)(w i:Nat)(t:YX):Ch×Int×Option Nat:=Sk l k (gX t.a (pX w i) (pY w i)) (gY t.a (pX w i) (pY w i)) (gX t.b (pX w i) (pY w i)) (gY t.b (pX w i) (pY w i)) t.s
def azX(l:List Nat)(k:Int)(w i:Nat)(t:YX):YX:=⟨TC t.a (pX w i) (pY w i) (Md l k w i t).1.px (Md l k w i t).1.py,TC t.b (pX w i) (pY w i) (Md l k w i t).1.nx (Md l k w i t).1.ny,(Md l k w i t).2.2⟩
def TE(l:List Nat)(k:Int)(w:Nat):Nat->Nat->YX->List Ch->List Ch×Int×Option Nat
 | 0,_,t,o=>(o,0,t.s)
 | m+1,i,t,o=>if (Md l k w i t).2.1=0 then TE l k w m (i+1) (azX l k w i t) (o ++ [(Md l k w i t).1]) else ([],(Md l k w i t).2.1,t.s)
theorem Vv{l:List Nat}{k:Int}{w m i:Nat}{t:YX}{o:List Ch}(h:(Md l k w i t).2.1=0):TE l k w (m+1) i t o=TE l k w m (i+1) (azX l k w i t) (o ++ [(Md l k w i t).1]):=if_pos h
theorem WG{l:List Nat}{k:Int}{w m i:Nat}{t:YX}{o:List Ch}(h:(Md l k w i t).2.1≠0):TE l k w (m+1) i t o=([],(Md l k w i t).2.1,t.s):=if_neg h
def Li(W:Int)(p:Nat):Nat:=if p=0 then (W/4).toNat else (W/8).toNat
def WF(l:List Nat)(k W H:Int)(p:Nat)(s:Option Nat)(o:List Ch):List Ch×Int×Option Nat :=
 TE l k (Li W p) (Li W p*Li H p) 0 ⟨Qu (Li W p) (Li H p),Qu (Li W p) (Li H p),s⟩ o
def Oe(l:List Nat)(k W H:Int):Nat->List Ch×Int×Option Nat
 | 0=>([],0,some 0)
 | p+1=>if (Oe l k W H p).2.1=0 then WF l k W H p (Oe l k W H p).2.2 (Oe l k W H p).1 else Oe l k W H p
theorem Vt{l:List Nat}{k W H:Int}{p:Nat}(h:(Oe l k W H p).2.1=0):Oe l k W H (p+1)=WF l k W H p (Oe l k W H p).2.2 (Oe l k W H p).1:=if_pos h
theorem UI{l:List Nat}{k W H:Int}{p:Nat}(h:(Oe l k W H p).2.1≠0):Oe l k W H (p+1)=Oe l k W H p:=if_neg h
def Qp(l:List Nat)(k W H:Int):List Ch×Int :=
 if (Oe l k W H 3).2.1=0 then (if Pe l (Oe l k W H 3).2.2=0 then ((Oe l k W H 3).1,0) else ([],130)) else ([],(Oe l k W H 3).2.1)
def QJ(W H R B K Q D F:Int):Prop:=Pb W H R B/\Oj K Q D F
instance (W H R B K Q D F:Int):Decidable (QJ W H R B K Q D F):=by unfold QJ;infer_instance
def Ov(l:List Nat)(W H R B K Q D F:Int):List Ch×Int:=if QJ W H R B K Q D F then Qp l K W H else ([],110)
theorem aAW{l:List Nat}{W H R B K Q D F:Int}(h:¬ QJ W H R B K Q D F):Ov l W H R B K Q D F=([],110):=if_neg h
theorem Pz{l:List Nat}{W H R B K Q D F:Int}(h:QJ W H R B K Q D F):Ov l W H R B K Q D F=Qp l K W H:=if_pos h
theorem Xu{l:List Nat}{k W H:Int}{p:Nat}(hp:p<=3)(h:(Oe l k W H p).2.1≠0):Qp l k W H=([],(Oe l k W H p).2.1):=by
 have e:∀ q,(Oe l k W H p).2.1=(Oe l k W H (p+q)).2.1:=by
  intro q
  induction q with
  | zero=>rfl
  | succ q ih=>rw[← Nat.add_assoc,UI (by rw[← ih];exact h)];exact ih
 have e3:=e (3-p)
 rw[show p+(3-p)=3 by omega] at e3
 unfold Qp;rw[if_neg (by rw[← e3];exact h),← e3]
theorem Z7{l:List Nat}{k W H:Int}(h:(Oe l k W H 3).2.1=0)(h2:Pe l (Oe l k W H 3).2.2≠0):Qp l k W H=([],130):=by unfold Qp;rw[if_pos h,if_neg h2]
theorem aAT{l:List Nat}{k W H:Int}(h:(Oe l k W H 3).2.1=0)(h2:Pe l (Oe l k W H 3).2.2=0):Qp l k W H=((Oe l k W H 3).1,0):=by unfold Qp;rw[if_pos h,if_pos h2]
def MQ(W H R B:Int)(f:FD):Prop:=Pb W H R B/\QO f/\W=f.W/\H=f.H
instance (W H R B:Int) (f:FD):Decidable (MQ W H R B f):=by unfold MQ;infer_instance
def aAM(g h:FD)(q p:Int)(w i:Nat)(c:Ch)(F:FD):FD:=Qn F p (4*pX w i) (4*pY w i) (buB (Xe F g h p (4*pX w i) (4*pY w i) c) c.b q)
def azw(g h:FD)(q p:Int)(w:Nat)(L:List Ch)(a:Nat)(F:FD):Nat->FD
 | 0=>F
 | i+1=>aAM g h q p w i (L.getD (a+i) chZ) (azw g h q p w L a F i)
def N9(W H:Int):Nat->Nat
 | 0=>0
 | p+1=>N9 W H p+Li W p*Li H p
def aBu(g h:FD)(q W H:Int)(L:List Ch):Nat->FD
 | 0=>LG W H 0
 | p+1=>azw g h q p (Li W p) L (N9 W H p) (aBu g h q W H L p) (Li W p*Li H p)
def MH(l:List Nat)(W H R B K Q D F:Int)(g h:FD):Int:=if QJ W H R B K Q D F then (if (K≠0/\¬ MQ W H R B g)\/(K=2/\¬ MQ W H R B h) then 130 else (Qp l K W H).2) else 110
def MF(l:List Nat)(W H R B K Q D F:Int)(g h:FD):FD:=if MH l W H R B K Q D F g h=0 then aBu g h Q W H (Qp l K W H).1 3 else FD.none
theorem X5{l:List Nat}{W H R B K Q D F:Int}{g h:FD}(hn:¬ QJ W H R B K Q D F):MH l W H R B K Q D F g h=110:=if_neg hn
theorem S3{l:List Nat}{W H R B K Q D F:Int}{g h:FD}(hm:QJ W H R B K Q D F)(hn:(K≠0/\¬ MQ W H R B g)\/(K=2/\¬ MQ W H R B h)):MH l W H R B K Q D F g h=130:=by unfold MH;rw[if_pos hm,if_pos hn]
theorem SZ{l:List Nat}{W H R B K Q D F:Int}{g h:FD}(hm:QJ W H R B K Q D F)(hn:¬ ((K≠0/\¬ MQ W H R B g)\/(K=2/\¬ MQ W H R B h))):MH l W H R B K Q D F g h=(Qp l K W H).2:=by unfold MH;rw[if_pos hm,if_neg hn]
theorem UB{l:List Nat}{W H R B K Q D F:Int}{g h:FD}(hn:MH l W H R B K Q D F g h≠0):MF l W H R B K Q D F g h=FD.none:=if_neg hn
theorem azF{l:List Nat}{W H R B K Q D F:Int}{g h:FD}(hn:MH l W H R B K Q D F g h=0):MF l W H R B K Q D F g h=aBu g h Q W H (Qp l K W H).1 3:=if_pos hn
theorem azO{l:List Nat}{k:Int}{w:Nat}:∀ (m i:Nat) (t:YX) (o:List Ch),(TE l k w m i t o).2.1=0->(TE l k w m i t o).1.length=o.length+m:=by
 intro m
 induction m with
 | zero=>intro i t o _;rfl
 | succ m ih =>
  intro i t o h
  by_cases hc:(Md l k w i t).2.1=0
  ·rw[Vv hc] at h ⊢
   rw[ih _ _ _ h,List.length_append];simp;omega
  ·rw[WG hc] at h;exact absurd h hc
theorem azM{l:List Nat}{k W H:Int}:∀ p,(Oe l k W H p).2.1=0->(Oe l k W H p).1.length=N9 W H p:=by
 intro p
 induction p with
 | zero=>intro _;rfl
 | succ p ih =>
  intro h
  by_cases hc:(Oe l k W H p).2.1=0
  ·rw[Vt hc] at h ⊢
   unfold WF at h ⊢
   rw[azO _ _ _ _ h,ih hc];rfl
  ·rw[UI hc] at h;exact absurd h hc
theorem aBW{W:Int}(h:NK W):((Li W 0:Nat):Int)=W/4/\((Li W 1:Nat):Int)=W/8/\((Li W 2:Nat):Int)=W/8/\2<=Li W 0/\Li W 0<=16/\1<=Li W 1/\Li W 1<=8/\Li W 2=Li W 1/\Li W 0=2*Li W 1:=by
 unfold NK at h
 have e0:Li W 0=(W/4).toNat:=rfl
 have e1:Li W 1=(W/8).toNat:=rfl
 have e2:Li W 2=(W/8).toNat:=rfl
 rw[e0,e1,e2];omega
end Go.Proofs.YtknjpdcpmpfklaaGreatDoor
set_option maxRecDepth 100000
namespace Go.Proofs.YtknjpdcpmpfklaaGreatDoor
theorem Zg{f:FD}(h:QO f){p:Nat}(hp:p<3):Lc f (p:Int)=(((4*Li f.W p:Nat):Int),((4*Li f.H p:Nat):Int)):=by
 have hW:=(Mr _).1 h.1
 have hH:=(Mr _).1 h.2.1
 by_cases h0:p=0
 ·subst h0
  rw[Um h (by rfl)]
  have e1:Li f.W 0=(f.W/4).toNat:=rfl
  have e2:Li f.H 0=(f.H/4).toNat:=rfl
  rw[e1,e2];exact Prod.ext (by simp only;omega) (by simp only;omega)
 ·rw[Ul h (by omega) (by omega) (by omega),OX (by omega),OX (by omega)]
  have e1:Li f.W p=(f.W/8).toNat:=if_neg h0
  have e2:Li f.H p=(f.H/8).toNat:=if_neg h0
  rw[e1,e2];exact Prod.ext (by simp only;omega) (by simp only;omega)
theorem aCk{F:FD}(hF:QO F){p w n i:Nat}(hp:p<3)(hw:0<w)(hs:Lc F (p:Int)=(((4*w:Nat):Int),((4*n:Nat):Int)))(hi:i<w*n):aCL F (p:Int) (4*pX w i) (4*pY w i):=by
 have h1:i%w<w:=Nat.mod_lt _ hw
 have h2:i/w<n:=by rw[Nat.div_lt_iff_lt_mul hw,Nat.mul_comm];exact hi
 refine⟨hF,by omega,by omega,?_,?_,?_,?_⟩
 ·unfold pX;omega
 ·rw[hs];simp only;unfold pX;omega
 ·exact Int.mul_nonneg (by decide) (Int.natCast_nonneg _)
 ·rw[hs];simp only;unfold pY;omega
end Go.Proofs.YtknjpdcpmpfklaaGreatDoor
set_option maxRecDepth 100000
namespace Go.Proofs.YtknjpdcpmpfklaaGreatDoor
theorem azE{W H R B:Int}{f:FD}:MQ W H R B f↔OT W H R B=0/\Np f=0/\W=f.W/\H=f.H:=by
 unfold MQ OT
 rw[Mw]
 by_cases h:Pb W H R B
 ·rw[if_pos h];simp[h]
 ·rw[if_neg h];simp[h]
theorem Wn{W H R B:Int}:¬ MQ W H R B FD.none:=fun h=>absurd h.2.1 (by decide)
theorem Px{n:Int}(h:NK n):Mj n=true:=(Mr _).2 h
theorem Zq{l:List Nat}{W H R B K Q D F:Int}{g h:FD}(h0:MH l W H R B K Q D F g h=0):QJ W H R B K Q D F/\¬ ((K≠0/\¬ MQ W H R B g)\/(K=2/\¬ MQ W H R B h))/\(Qp l K W H).2=0:=by
 by_cases hm:QJ W H R B K Q D F
 ·by_cases hn:(K≠0/\¬ MQ W H R B g)\/(K=2/\¬ MQ W H R B h)
  ·rw[S3 hm hn] at h0;cases h0
  ·rw[SZ hm hn] at h0;exact⟨hm,hn,h0⟩
 ·rw[X5 hm] at h0;cases h0
theorem Oq{l:List Nat}{W H R B K Q D F:Int}{g h:FD}(h0:MH l W H R B K Q D F g h=0):MH l W H R B K Q D F FD.none h=0↔K=0:=by
 obtain⟨hm,hn,hc⟩:=Zq h0
 by_cases hK:K=0
 ·rw[SZ hm (by rintro (⟨a,_⟩ | ⟨a,_⟩) <;> omega),hc];simp[hK]
 ·rw[S3 hm (Or.inl ⟨hK,Wn⟩)];simp[hK]
theorem Ow{l:List Nat}{W H R B K Q D F:Int}{g h:FD}(h0:MH l W H R B K Q D F g h=0):MH l W H R B K Q D F g FD.none=0↔K≠2:=by
 obtain⟨hm,hn,hc⟩:=Zq h0
 by_cases hK:K=2
 ·rw[S3 hm (Or.inr ⟨hK,Wn⟩)];simp[hK]
 ·rw[SZ hm (by rintro (a | ⟨a,_⟩);exact hn (Or.inl a);exact hK a),hc];simp[hK]
def Oy:List Nat:=R2 (List.replicate 12 true++PV 12)
set_option maxRecDepth 1000000 in
theorem azV:(Qp Oy 0 8 8).2=0/\(Qp Oy 0 8 8).1.length=6:=by decide +kernel
set_option maxRecDepth 1000000 in
theorem aCf:MH Oy 8 8 100 1000 0 0 0 0 FD.none FD.none=0:=by decide +kernel
set_option maxRecDepth 1000000 in
theorem ay3:MH Oy 8 8 100 1000 1 0 0 0 FD.none FD.none=130/\(Qp (Oy ++ [0]) 0 8 8).2=130:=by decide +kernel
set_option maxRecDepth 1000000 in
theorem aDA:Rx (MF Oy 8 8 100 1000 0 0 0 0 FD.none FD.none) (LG 8 8 128)=true:=by decide +kernel
end Go.Proofs.YtknjpdcpmpfklaaGreatDoor
set_option maxRecDepth 100000
namespace Go.Proofs.YtknjpdcpmpfklaaGreatDoor
theorem ZX{f:FD}(h:QO f){p i:Nat}(hp:p<3)(hi:i<Li f.W p*Li f.H p)(hw:0<Li f.W p):MW f (p:Int) (4*pX (Li f.W p) i) (4*pY (Li f.W p) i):=by
 have hI:=aCk (n:=Li f.H p) h hp hw (Zg h hp) hi
 have hs:=Zg h hp
 have hW:=(Mr _).1 h.1
 have hH:=(Mr _).1 h.2.1
 have h4:=aBW (W:=f.W) hW
 have h4':=aBW (W:=f.H) hH
 have x1:=hI.x1
 have y1:=hI.y1
 rw[hs] at x1 y1
 simp only at x1 y1
 have bw:Li f.W p<=16/\Li f.H p<=16:=by
  rcases (show p=0\/p=1\/p=2 by omega) with rfl|rfl|rfl <;> omega
 exact⟨h,by omega,by omega,hI.x0,by omega,hI.y0,by omega⟩
theorem aCg{W H:Int}{p i:Nat}(hp:p<3)(hi:i<Li W p*Li H p):N9 W H p+i<N9 W H 3:=by
 have e3:N9 W H 3=N9 W H 2+Li W 2*Li H 2:=rfl
 have e2:N9 W H 2=N9 W H 1+Li W 1*Li H 1:=rfl
 have e1:N9 W H 1=N9 W H 0+Li W 0*Li H 0:=rfl
 rcases (show p=0\/p=1\/p=2 by omega) with rfl|rfl|rfl <;> omega
end Go.Proofs.YtknjpdcpmpfklaaGreatDoor
set_option maxRecDepth 100000
namespace Go.Proofs.YtknjpdcpmpfklaaGreatDoor
open Go.RowKit
section
variable {P:Program} {ρ:Operand->Value} {o:Oper} {w:World} {R:Value->World->Prop}
theorem WB{t:TypeId}(ho:o.op = .alloc t)(hz:∀ w,(zeroValue t).run P w = .ok (.agg (L6 16 (fun _=>0)).toArray) w)(h:R (.pointer (some ⟨w.heap.size,0,none⟩)) (w.alloc (.cells (L6 16 (fun _=>0)).toArray t))):Lg P ρ o w R :=
 N2 (v:=.pointer (some ⟨w.heap.size,0,none⟩)) (w':=w.alloc (.cells (L6 16 (fun _=>0)).toArray t)) (by simp[execOp,ho,hz,go_sem]) h
end
end Go.Proofs.YtknjpdcpmpfklaaGreatDoor
set_option maxRecDepth 100000
namespace Go.Proofs.YtknjpdcpmpfklaaGreatDoor
open Go.RowKit
structure Thm where
  B:Value->(Nat->Prop)->World->Prop
  st:∀ (v:Value) (w w':World) (S T:Nat->Prop),B v T w->KM S w w'->KJ T S->B v T w'
  li:∀ (v:Value) (w:World) (T:Nat->Prop),B v T w->Pa w T
inductive Pm where
  | eq (v:Value)
  | new (t:Thm)
structure Eld where
  A:World->Prop
  T:Nat->Prop
  st:∀ (w w':World) (S:Nat->Prop),A w->KM S w w'->KJ T S->A w'
  li:∀ w,A w->Pa w T
end Go.Proofs.YtknjpdcpmpfklaaGreatDoor
set_option maxRecDepth 100000
namespace Go.Proofs.YtknjpdcpmpfklaaGreatDoor
open Go.RowKit
theorem Mv:Qs Tryz.prog 23 4:=⟨_,Tryz.underlying23,rfl,by kernel_rfl⟩
theorem Pj:Qs Tryz.prog 25 4:=⟨_,Tryz.underlying25,rfl,by kernel_rfl⟩
theorem aDz{n:Int}(h:8<=n):Int.tmod n 8=n%8:=Int.tmod_eq_emod_of_nonneg (by omega)
end Go.Proofs.YtknjpdcpmpfklaaGreatDoor
set_option maxRecDepth 100000
namespace Go.Proofs.YtknjpdcpmpfklaaGreatDoor
open Go.RowKit
def Ux:Tm Ch:={ t:=32,e:=71,k:=21,by_:=168,enc:=chV,d:=⟨0,0,0,0,0,fun _=>0⟩,z:=.agg (chV ⟨0,0,0,0,0,fun _=>0⟩).toArray }
instance rCh_ok:Tm.Ok Ux:=⟨Tryz.underlying32,by kernel_rfl,rfl,by decide,fun _=>rfl,fun c=>aCt c,by decide⟩
end Go.Proofs.YtknjpdcpmpfklaaGreatDoor
set_option maxRecDepth 100000
namespace Go.Proofs.YtknjpdcpmpfklaaGreatDoor
open Go.RowKit
theorem aCp{W H R B:Int}(h:OT W H R B=0):Pb W H R B:=Decidable.byContradiction fun hn=>by unfold OT at h;rw[if_neg hn] at h;cases h
theorem R5{W H R B:Int}(h:Pb W H R B):8<=W/\W<=64/\W%8=0/\8<=H/\H<=64/\H%8=0:=by
 obtain⟨h1,h2,_⟩:=h;unfold NK at h1 h2;omega
theorem aBQ{W:Int}{p:Nat}(h0:0<=W)(hp:p=0):Int.tdiv W 4=((Li W p:Nat):Int):=by
 rw[Int.tdiv_eq_ediv_of_nonneg h0];unfold Li;rw[if_pos hp];omega
theorem Oz{W:Int}{p:Nat}(h:W<=64):Li W p<=16:=by unfold Li;split <;> omega
theorem aAp{w i:Nat}(hw:0<w)(h16:w<=16)(hi:i<=256):0<=pX w i/\pX w i<=16/\0<=pY w i/\pY w i<=256:=by
 have h1:=Nat.mod_lt i hw
 have h2:=Nat.div_le_self i w
 refine⟨Int.natCast_nonneg _,Int.ofNat_le.2 (show i%w<=16 by omega),Int.natCast_nonneg _,Int.ofNat_le.2 (show i/w<=256 by omega)⟩
theorem Tc{W H R B:Int}{f:FD}{b:Bool}(h:b=true↔OT W H R B=0/\Np f=0/\W=f.W/\H=f.H):b=decide (MQ W H R B f):=by
 rw[Bool.eq_iff_iff,decide_eq_true_iff];exact h.trans azE.symm
end Go.Proofs.YtknjpdcpmpfklaaGreatDoor
set_option maxRecDepth 100000
namespace Go.Proofs.YtknjpdcpmpfklaaGreatDoor
open Go.RowKit
theorem QA(n:Int):IntKind.u8.wrap (max 0 (min n 255))=((LU n:Nat):Int):=by rw[show max 0 (min n 255)=min (max n 0) 255 by omega];exact aBi n
theorem W8(b:Nat->Int)(i:Nat)(w0:World)(hi:i<4) :
  Calls Tryz.prog 79 #[LH (b),.int .i64 (((i:Nat):Int))] w0 fun e w'=>e = .returned (.agg #[.int .u8 (((LU (b (i*4)):Nat):Int)),.int .u8 (((LU (b (i*4+1)):Nat):Int)),.int .u8 (((LU (b (i*4+2)):Nat):Int)),.int .u8 (((LU (b (i*4+3)):Nat):Int))])/\KM (fun _=>False) w0 w':=by
 refine Lp (args:=[LH b,iv ((i:Nat):Int)]) 22 Tryz.func79 rfl rfl (Nat.le_of_ble_eq_true rfl) ?_
 refine KH (KF (M4 rfl rfl rfl rfl fun p1 w2 e5 B3 k4=>?_))
 have g6:=LS (Nat.le_of_eq e5.symm)
 clear e5 g6
 have K8:=(KM.refl (fun _=>False) w0).tr k4
 refine LF (n:=4) (vs:=[.int .u8 0,.int .u8 0,.int .u8 0,.int .u8 0]) rfl rfl rfl (by kernel_rfl) fun p9 bL aD aZ aE=>?_
 have aF:=B3.all aE id
 have aG:=K8.tr aE
 refine KL ?_
 have af:=K4 (iv ((i:Nat):Int))
 have a8:=K4 (undef)
 have ah:=K4 (pt p1 0)
 have aH:=K4 (pt p9 0)
 refine KE (KH (KF (LF (n:=4) (vs:=[.int .u8 0,.int .u8 0,.int .u8 0,.int .u8 0]) rfl rfl rfl (by kernel_rfl) fun aa bM a9 aI aJ=>?_)))
 have ai:=KP.new aG aI
 obtain⟨ak,aj⟩:=TI aI aF aD
 obtain⟨aK,ba⟩:=NL aJ aF aD
 refine KL ?_
 have ae:=K4 (pt aa 0)
 refine KE (KH (KH (KF (KG (iv 0) rfl rfl (KN rfl rfl rr) (KL ?_)))))
 have am:=K4 (iv 0)
 refine KE (Lk (Ot 5 (Mb (KH (KF (KG (.bool true) rfl rfl (L2 rfl am rfl rfl rr) (KL ?_)))))))
 have bb:=K4 (.bool true)
 refine KE (KH ?_)
 refine K5 (t:=true) bb (fun _=>?_) (fun e=>by cases e)
 refine Lf (KE (KH (Lk (KH (KF (KS rfl rfl rfl am (KG (iv 0) rfl rfl (KT rfl rfl rr) (KL ?_))))))))
 have aL:=K4 (iv 0)
 refine KE (KF (KS rfl rfl rfl aL (KS rfl rfl rfl af (KG (iv (((i*4):Nat):Int)) rfl rfl (ND rfl rfl rfl (L5 (by omega) (by omega)) rr) (KS rfl rfl rfl aL (KG (iv (((i*4+0):Nat):Int)) rfl rfl (LN rfl rfl rfl (L5 (by omega) (by omega)) rr) (KG (.pointer (some ⟨p1,(i*4+0),none⟩)) rfl rfl (LQ (i*4+0) (s:=1) rfl ah rfl (by omega) Tryz.underlying69 (by omega) (by kernel_rfl) (by omega) rr) (KG (iv (b (i*4+0))) rfl rfl (OE rfl rfl Tryz.underlying3 (aK.cell (by omega)) rr) (LV rfl rfl rfl rfl rfl (fun _ _=>by kernel_rfl) (Lj rfl (Lj rfl (Lj rfl LP))) (NV (b (i*4+0)) 0 255  _   ) fun bN aM=>?_)))))))))
 obtain⟨bc,bd,be⟩:=Nx aM aK ba a9
 refine KG (.int .u8 ((LU (b (i*4+0)):Nat):Int)) rfl rfl (Qw rfl rfl Tryz.underlying3 Tryz.underlying5 (by first|exact QA _|exact QA (b (i*4+0))) rr) (KG (pt aa 0) rfl rfl (LQ 0 (s:=1) rfl ae rfl (by omega) Tryz.underlying123 (by omega) (by kernel_rfl) (by omega) rr) (OJ rfl rfl rfl rfl rfl be rfl rfl (by kernel_rfl) fun bf an ao=>?_))
 replace an:Mu bf aa 123 [.int .u8 ((LU (b (i*4+0)):Nat):Int),.int .u8 0,.int .u8 0,.int .u8 0]:=an
 have aN:=bc.all ao (ak.symm p1 rfl)
 have bg:=bd.all ao (aj.symm p9 rfl)
 refine KL ?_
 refine LA (KE (KF (KG (iv ((1:Nat):Int)) rfl rfl (LN rfl am rfl (L5 (by omega) (by omega)) rr) (KG (iv ((1:Nat):Int)) rfl rfl (KN rfl rfl rr) (KL ?_)))))
 have ap:=K4 (iv ((1:Nat):Int))
 refine KE (Mb (KH (KF (KG (.bool true) rfl rfl (L2 rfl ap rfl rfl rr) (KL ?_)))))
 have bh:=K4 (.bool true)
 refine KE (KH ?_)
 refine K5 (t:=true) bh (fun _=>?_) (fun e=>by cases e)
 refine Lf (KE (KH (Lk (KH (KF (KS rfl rfl rfl ap (KG (iv ((1:Nat):Int)) rfl rfl (KT rfl rfl rr) (KL ?_))))))))
 have aO:=K4 (iv ((1:Nat):Int))
 refine KE (KF (KS rfl rfl rfl aO (KS rfl rfl rfl af (KG (iv (((i*4):Nat):Int)) rfl rfl (ND rfl rfl rfl (L5 (by omega) (by omega)) rr) (KS rfl rfl rfl aO (KG (iv (((i*4+1):Nat):Int)) rfl rfl (LN rfl rfl rfl (L5 (by omega) (by omega)) rr) (KG (.pointer (some ⟨p1,(i*4+1),none⟩)) rfl rfl (LQ (i*4+1) (s:=1) rfl ah rfl (by omega) Tryz.underlying69 (by omega) (by kernel_rfl) (by omega) rr) (KG (iv (b (i*4+1))) rfl rfl (OE rfl rfl Tryz.underlying3 (aN.cell (by omega)) rr) (LV rfl rfl rfl rfl rfl (fun _ _=>by kernel_rfl) (Lj rfl (Lj rfl (Lj rfl LP))) (NV (b (i*4+1)) 0 255  _   ) fun bO aP=>?_)))))))))
 obtain⟨bi,bj,bl⟩:=Nx aP aN bg an
 refine KG (.int .u8 ((LU (b (i*4+1)):Nat):Int)) rfl rfl (Qw rfl rfl Tryz.underlying3 Tryz.underlying5 (by first|exact QA _|exact QA (b (i*4+0))) rr) (KG (pt aa 1) rfl rfl (LQ 1 (s:=1) rfl ae rfl (by omega) Tryz.underlying123 (by omega) (by kernel_rfl) (by omega) rr) (OJ rfl rfl rfl rfl rfl bl rfl rfl (by kernel_rfl) fun bm aq ar=>?_))
 replace aq:Mu bm aa 123 [.int .u8 ((LU (b (i*4+0)):Nat):Int),.int .u8 ((LU (b (i*4+1)):Nat):Int),.int .u8 0,.int .u8 0]:=aq
 have aQ:=bi.all ar (ak.symm p1 rfl)
 have bn:=bj.all ar (aj.symm p9 rfl)
 refine KL ?_
 refine LA (KE (KF (KG (iv ((2:Nat):Int)) rfl rfl (LN rfl ap rfl (L5 (by omega) (by omega)) rr) (KG (iv ((2:Nat):Int)) rfl rfl (KN rfl rfl rr) (KL ?_)))))
 have au:=K4 (iv ((2:Nat):Int))
 refine KE (Mb (KH (KF (KG (.bool true) rfl rfl (L2 rfl au rfl rfl rr) (KL ?_)))))
 have bo:=K4 (.bool true)
 refine KE (KH ?_)
 refine K5 (t:=true) bo (fun _=>?_) (fun e=>by cases e)
 refine Lf (KE (KH (Lk (KH (KF (KS rfl rfl rfl au (KG (iv ((2:Nat):Int)) rfl rfl (KT rfl rfl rr) (KL ?_))))))))
 have aR:=K4 (iv ((2:Nat):Int))
 refine KE (KF (KS rfl rfl rfl aR (KS rfl rfl rfl af (KG (iv (((i*4):Nat):Int)) rfl rfl (ND rfl rfl rfl (L5 (by omega) (by omega)) rr) (KS rfl rfl rfl aR (KG (iv (((i*4+2):Nat):Int)) rfl rfl (LN rfl rfl rfl (L5 (by omega) (by omega)) rr) (KG (.pointer (some ⟨p1,(i*4+2),none⟩)) rfl rfl (LQ (i*4+2) (s:=1) rfl ah rfl (by omega) Tryz.underlying69 (by omega) (by kernel_rfl) (by omega) rr) (KG (iv (b (i*4+2))) rfl rfl (OE rfl rfl Tryz.underlying3 (aQ.cell (by omega)) rr) (LV rfl rfl rfl rfl rfl (fun _ _=>by kernel_rfl) (Lj rfl (Lj rfl (Lj rfl LP))) (NV (b (i*4+2)) 0 255  _   ) fun bP aS=>?_)))))))))
 obtain⟨bp,bq,bt⟩:=Nx aS aQ bn aq
 refine KG (.int .u8 ((LU (b (i*4+2)):Nat):Int)) rfl rfl (Qw rfl rfl Tryz.underlying3 Tryz.underlying5 (by first|exact QA _|exact QA (b (i*4+0))) rr) (KG (pt aa 2) rfl rfl (LQ 2 (s:=1) rfl ae rfl (by omega) Tryz.underlying123 (by omega) (by kernel_rfl) (by omega) rr) (OJ rfl rfl rfl rfl rfl bt rfl rfl (by kernel_rfl) fun bu av aw=>?_))
 replace av:Mu bu aa 123 [.int .u8 ((LU (b (i*4+0)):Nat):Int),.int .u8 ((LU (b (i*4+1)):Nat):Int),.int .u8 ((LU (b (i*4+2)):Nat):Int),.int .u8 0]:=av
 have bv:=bp.all aw (ak.symm p1 rfl)
 have bz:=bq.all aw (aj.symm p9 rfl)
 refine KL ?_
 refine LA (KE (KF (KG (iv ((3:Nat):Int)) rfl rfl (LN rfl au rfl (L5 (by omega) (by omega)) rr) (KG (iv ((3:Nat):Int)) rfl rfl (KN rfl rfl rr) (KL ?_)))))
 have az:=K4 (iv ((3:Nat):Int))
 refine KE (Mb (KH (KF (KG (.bool true) rfl rfl (L2 rfl az rfl rfl rr) (KL ?_)))))
 have bA:=K4 (.bool true)
 refine KE (KH ?_)
 refine K5 (t:=true) bA (fun _=>?_) (fun e=>by cases e)
 refine Lf (KE (KH (Lk (KH (KF (KS rfl rfl rfl az (KG (iv ((3:Nat):Int)) rfl rfl (KT rfl rfl rr) (KL ?_))))))))
 have aT:=K4 (iv ((3:Nat):Int))
 refine KE (KF (KS rfl rfl rfl aT (KS rfl rfl rfl af (KG (iv (((i*4):Nat):Int)) rfl rfl (ND rfl rfl rfl (L5 (by omega) (by omega)) rr) (KS rfl rfl rfl aT (KG (iv (((i*4+3):Nat):Int)) rfl rfl (LN rfl rfl rfl (L5 (by omega) (by omega)) rr) (KG (.pointer (some ⟨p1,(i*4+3),none⟩)) rfl rfl (LQ (i*4+3) (s:=1) rfl ah rfl (by omega) Tryz.underlying69 (by omega) (by kernel_rfl) (by omega) rr) (KG (iv (b (i*4+3))) rfl rfl (OE rfl rfl Tryz.underlying3 (bv.cell (by omega)) rr) (LV rfl rfl rfl rfl rfl (fun _ _=>by kernel_rfl) (Lj rfl (Lj rfl (Lj rfl LP))) (NV (b (i*4+3)) 0 255  _   ) fun bQ aU=>?_)))))))))
 obtain⟨bB,bC⟩:=NL aU bz av
 have bD:=(((((((aG.tr aJ).tr aM).trans ao (KP.ok (S:=fun _=>False) ai K3)).tr aP).trans ar (KP.ok (S:=fun _=>False) ai K3)).tr aS).trans aw (KP.ok (S:=fun _=>False) ai K3)).tr aU
 refine KG (.int .u8 ((LU (b (i*4+3)):Nat):Int)) rfl rfl (Qw rfl rfl Tryz.underlying3 Tryz.underlying5 (by first|exact QA _|exact QA (b (i*4+0))) rr) (KG (pt aa 3) rfl rfl (LQ 3 (s:=1) rfl ae rfl (by omega) Tryz.underlying123 (by omega) (by kernel_rfl) (by omega) rr) (OJ rfl rfl rfl rfl rfl bC rfl rfl (by kernel_rfl) fun bE aA aV=>?_))
 replace aA:Mu bE aa 123 [.int .u8 ((LU (b (i*4+0)):Nat):Int),.int .u8 ((LU (b (i*4+1)):Nat):Int),.int .u8 ((LU (b (i*4+2)):Nat):Int),.int .u8 ((LU (b (i*4+3)):Nat):Int)]:=aA
 have bF:=bB.all aV (aj.symm p9 rfl)
 refine KL ?_
 refine LA (KE (KF (KG (iv ((4:Nat):Int)) rfl rfl (LN rfl az rfl (L5 (by omega) (by omega)) rr) (KG (iv ((4:Nat):Int)) rfl rfl (KN rfl rfl rr) (KL ?_)))))
 have bG:=K4 (iv ((4:Nat):Int))
 refine KE (Mb (KH (KF (KG (.bool false) rfl rfl (L2 rfl bG rfl rfl rr) (KL ?_)))))
 have bH:=K4 (.bool false)
 refine KE (KH ?_)
 refine K5 (t:=false) bH (fun e=>by cases e) (fun _=>?_)
 refine Mf (Lr (Lr (Me (KE (KH (KF (KG (.agg #[.int .u8 ((LU (b (i*4+0)):Nat):Int),.int .u8 ((LU (b (i*4+1)):Nat):Int),.int .u8 ((LU (b (i*4+2)):Nat):Int),.int .u8 ((LU (b (i*4+3)):Nat):Int)]) rfl rfl (KU VE rfl ae aA rr) (Lh (us:=[.int .u8 ((LU (b (i*4+0)):Nat):Int),.int .u8 ((LU (b (i*4+1)):Nat):Int),.int .u8 ((LU (b (i*4+2)):Nat):Int),.int .u8 ((LU (b (i*4+3)):Nat):Int)]) VE rfl rfl rfl aH rfl bF rfl (KX rfl (KX rfl (KX rfl (KX rfl MC)))) fun bR bI bJ=>?_))))))))
 refine KL ?_
 refine KE (La ?_)
 exact O2 (vs:=[.int .u8 ((LU (b (i*4+0)):Nat):Int),.int .u8 ((LU (b (i*4+1)):Nat):Int),.int .u8 ((LU (b (i*4+2)):Nat):Int),.int .u8 ((LU (b (i*4+3)):Nat):Int)]) VE a8 rfl rfl aH bI ⟨rfl,((bD.trans aV (KP.ok (S:=fun _=>False) ai K3)).trans bJ (KP.ok (S:=fun _=>False) (KP.new K8 aZ) K3))⟩
def YH(l:List Nat)(i j:Nat)(x:Int)(c:List Nat):List Nat :=
 l.take (i+(max 0 (min x ((j-i:Nat):Int))).toNat)++((c.drop (max 0 (min (-x) 4)).toNat).take ((j-i)-(max 0 (min x ((j-i:Nat):Int))).toNat)++l.drop (i+(max 0 (min x ((j-i:Nat):Int))).toNat+min ((j-i)-(max 0 (min x ((j-i:Nat):Int))).toNat) (c.drop (max 0 (min (-x) 4)).toNat).length))
theorem YP(v:Value)(l:List Nat)(i j:Nat)(x:Int)(a b c d:Nat)(T_s:Nat->Prop)(w0:World)(hij:i<=j)(hj:j<=l.length)(hx : -64<=x/\x<=128)(ha:a<256)(hb:b<256)(hc:c<256)(hd:d<256)(h_s:L1 w0 T_s v (l)) :
  Calls Tryz.prog 78 #[Ms (v) (i) (j) (j),.int .i64 (x),.agg #[.int .u8 (((a:Nat):Int)),.int .u8 (((b:Nat):Int)),.int .u8 (((c:Nat):Int)),.int .u8 (((d:Nat):Int))]] w0 fun e w'=>∃ (T_s':Nat->Prop),e = .returned (.tuple #[])/\KM (T_s) w0 w'/\(L1 w' T_s' v (YH l i j x [a,b,c,d])/\KP w0 T_s T_s'):=by
 refine Lp (args:=[Ms v i j j,iv x,.agg #[.int .u8 ((a:Nat):Int),.int .u8 ((b:Nat):Int),.int .u8 ((c:Nat):Int),.int .u8 ((d:Nat):Int)]]) 17 Tryz.func78 rfl rfl (Nat.le_of_ble_eq_true rfl) ?_
 have g_s:=KP.refl w0 T_s
 refine KH (KF (Lt (vs:=[.int .u8 ((a:Nat):Int),.int .u8 ((b:Nat):Int),.int .u8 ((c:Nat):Int),.int .u8 ((d:Nat):Int)]) rfl rfl rfl rfl fun p1 w2 B4 g5 k3=>?_))
 have B8:=h_s.all k3 KJ.none
 refine KL ?_
 have ah:=K4 (Ms v i j j)
 have ai:=K4 (iv x)
 have ao:=K4 (undef)
 have ap:=K4 (pt p1 0)
 refine KE ?_
 refine Na 10 [some 6,some 7,some 8,some 9,some 10,some 11,some 12,some 13,some 14,some 15] [Pd.eq (Ms v i j j),Pd.eq (iv x),Pd.eq (Ms v i j j),Pd.eq (iv ((j-i:Nat):Int)),Pd.eq (iv (max 0 (min x ((j-i:Nat):Int)))),Pd.eq (Ms (Ms v i j j) ((max 0 (min x ((j-i:Nat):Int))).toNat) (j-i) (j-i)),Pd.eq (iv x),Pd.eq (iv (-x)),Pd.eq (iv (max 0 (min (-x) 4))),Pd.eq (YZ p1 ((max 0 (min (-x) 4)).toNat))] (by kernel_rfl) (by kernel_rfl) (by kernel_rfl) ?_ ?_
 ·refine KK ?_ ?_
  ·refine Lb.one rfl fun F_ w_ hR hout hD=>?_
   exact(KN rfl ((hout 0 rfl (by decide)).trans ah) ⟨rfl,KM.refl _ _⟩)
  refine KK ?_ ?_
  ·refine Lb.one rfl fun F_ w_ hR hout hD=>?_
   exact(KN rfl ((hout 1 rfl (by decide)).trans ai) ⟨rfl,KM.refl _ _⟩)
  refine KK ?_ ?_
  ·refine Lb.one rfl fun F_ w_ hR hout hD=>?_
   exact(KN rfl ((hout 0 rfl (by decide)).trans ah) ⟨rfl,KM.refl _ _⟩)
  refine KK ?_ ?_
  ·refine Lb.one rfl fun F_ w_ hR hout hD=>?_
   have g8:F_ 8=Ms v i j j:=(hD.get 0 rfl rfl rfl)
   exact(aCv rfl rfl g8 (B8.all hR KJ.none).byt ⟨rfl,KM.refl _ _⟩)
  refine KK ?_ ?_
  ·refine Lb.one rfl fun F_ w_ hR hout hD=>?_
   have g7:F_ 7=iv x:=(hD.get 0 rfl rfl rfl)
   have g9:F_ 9=iv ((j-i:Nat):Int):=(hD.get 1 rfl rfl rfl)
   exact(LE rfl rfl rfl (fun _ _=>by kernel_rfl) (K2 _) (Lj g7 (Lj rfl (Lj g9 LP))) (NV x 0 ((j-i:Nat):Int)  _   ) (fun e_ w_ h_=>⟨_,h_.1,rfl,h_.2⟩))
  refine KK ?_ ?_
  ·refine Lb.one rfl fun F_ w_ hR hout hD=>?_
   have g6:F_ 6=Ms v i j j:=(hD.get 0 rfl rfl rfl)
   have aw:F_ 10=iv (max 0 (min x ((j-i:Nat):Int))):=(hD.get 1 rfl rfl rfl)
   exact(WM ((max 0 (min x ((j-i:Nat):Int))).toNat) rfl g6 aw (by omega) (B8.all hR KJ.none).byt (by omega) ⟨rfl,KM.refl _ _⟩)
  refine KK ?_ ?_
  ·refine Lb.one rfl fun F_ w_ hR hout hD=>?_
   exact(KN rfl ((hout 1 rfl (by decide)).trans ai) ⟨rfl,KM.refl _ _⟩)
  refine KK ?_ ?_
  ·refine Lb.one rfl fun F_ w_ hR hout hD=>?_
   have az:F_ 12=iv x:=(hD.get 0 rfl rfl rfl)
   exact(aDt rfl az (Ma rfl (by omega)) ⟨rfl,KM.refl _ _⟩)
  refine KK ?_ ?_
  ·refine Lb.one rfl fun F_ w_ hR hout hD=>?_
   have aA:F_ 13=iv (-x):=(hD.get 0 rfl rfl rfl)
   exact(LE rfl rfl rfl (fun _ _=>by kernel_rfl) (K2 _) (Lj aA (Lj rfl (Lj rfl LP))) (NV (-x) 0 4  _   ) (fun e_ w_ h_=>⟨_,h_.1,rfl,h_.2⟩))
  refine KK ?_ ?_
  ·refine Lb.one rfl fun F_ w_ hR hout hD=>?_
   have aB:F_ 14=iv (max 0 (min (-x) 4)):=(hD.get 0 rfl rfl rfl)
   exact(aCI ((max 0 (min (-x) 4)).toNat) rfl ((hout 5 rfl (by decide)).trans ap) aB (by omega) (by omega) ⟨rfl,KM.refl _ _⟩)
  exact L0
 intro aK aj aL ak ae aa
 obtain⟨am,aC⟩:=NL ak B8 B4
 have aD:=(aa 17).trans ao
 have aE:aj 11=Ms (Ms v i j j) ((max 0 (min x ((j-i:Nat):Int))).toNat) (j-i) (j-i):=(aa 11).trans (ae 5 (by decide))
 have aF:aj 15=YZ p1 ((max 0 (min (-x) 4)).toNat):=(aa 15).trans (ae 9 (by decide))
 clear ae aa
 refine RT rfl rfl rfl rfl aE (Wm (r:=i+((max 0 (min x ((j-i:Nat):Int))).toNat)) am.byt (by omega) (by omega) rfl) aF am (aC.bytes (by omega) (by omega) (by omega) (by omega) (k:=(max 0 (min (-x) 4)).toNat) (by omega)) (by omega) fun aM aG aH=>?_
 refine KL ?_
 exact X9 aD rfl ⟨T_s,rfl,((((KM.refl T_s w0).tr k3).tr ak).trans aH (KP.ok (S:=T_s) g_s (fun _ x=>x))),⟨aG,g_s⟩⟩
end Go.Proofs.YtknjpdcpmpfklaaGreatDoor
set_option maxRecDepth 100000
namespace Go.Proofs.YtknjpdcpmpfklaaGreatDoor
open Go.RowKit
def R3(l:List Nat)(n w:Nat)(u:Int)(c:Nat):List Nat:=if 0<=u/\u<(w:Int) then l.set (n+u.toNat) c else l
theorem OY(l:List Nat)(n w:Nat)(u:Int)(c:Nat):(R3 l n w u c).length=l.length:=by unfold R3;split <;> simp
theorem aAC(l:List Nat)(n w:Nat)(u:Int)(c q:Nat):(R3 l n w u c).getD q 0=if 0<=u/\u<(w:Int)/\n+u.toNat=q/\q<l.length then c else l.getD q 0:=by
 unfold R3
 by_cases h:0<=u/\u<(w:Int)
 ·rw[if_pos h,ay9]
  by_cases h2:n+u.toNat=q/\q<l.length
  ·rw[if_pos h2,if_pos ⟨h.1,h.2,h2.1,h2.2⟩]
  ·rw[if_neg h2,if_neg (fun k=>h2 ⟨k.2.2.1,k.2.2.2⟩)]
 ·rw[if_neg h,if_neg (fun k=>h ⟨k.1,k.2.1⟩)]
theorem azu{l m:List Nat}(hl:l.length=m.length)(h:∀ q,q<l.length->l.getD q 0=m.getD q 0):l=m:=by
 apply List.ext_getElem hl
 intro i h1 h2
 have:=h i h1
 simpa [List.getD,h1,h2] using this
theorem aCy(l m:List Nat)(off n q:Nat)(h:off+min n m.length<=l.length):(l.take off++(m.take n++l.drop (off+min n m.length))).getD q 0=if q<off then l.getD q 0 else if q<off+min n m.length then m.getD (q-off) 0 else l.getD q 0:=by
 have h1:(l.take off).length=off:=by rw[List.length_take];omega
 have h2:(m.take n).length=min n m.length:=List.length_take ..
 simp only[List.getD_eq_getElem?_getD]
 by_cases hq:q<off
 ·rw[if_pos hq,List.getElem?_append_left (by omega),List.getElem?_take,if_pos hq]
 ·rw[if_neg hq,List.getElem?_append_right (by omega),h1]
  by_cases hr:q<off+min n m.length
  ·rw[if_pos hr,List.getElem?_append_left (by omega),List.getElem?_take,if_pos (by omega)]
  ·rw[if_neg hr,List.getElem?_append_right (by omega),h2,List.getElem?_drop]
   congr 2;omega
theorem ZJ(l:List Nat)(n w:Nat)(x:Int)(a b c d:Nat)(h:n+w<=l.length):YH l n (n+w) x [a,b,c,d]=R3 (R3 (R3 (R3 l n w x a) n w (x+1) b) n w (x+2) c) n w (x+3) d:=by
 unfold YH
 rw[show n+w-n=w by omega]
 obtain⟨cx,hcx⟩:∃ k,k=(max 0 (min x (w:Int))).toNat:=⟨_,rfl⟩
 obtain⟨dx,hdx⟩:∃ k,k=(max 0 (min (-x) 4)).toNat:=⟨_,rfl⟩
 rw[← hcx,← hdx]
 have hd4:([a,b,c,d].drop dx).length=4-dx:=by simp
 apply azu
 ·rw[OY,OY,OY,OY]
  simp;omega
 ·intro q hq
  have hql:q<l.length:=by
   have:(l.take (n+cx)++(([a,b,c,d].drop dx).take (w-cx)++l.drop (n+cx+min (w-cx) ([a,b,c,d].drop dx).length))).length=l.length:=by simp;omega
   omega
  rw[aCy _ _ _ _ _ (by rw[hd4];omega),hd4]
  simp only[aAC,OY]
  have hg:∀ t,([a,b,c,d].drop dx).getD t 0=[a,b,c,d].getD (dx+t) 0:=fun t=>by simp[List.getD_eq_getElem?_getD,List.getElem?_drop]
  rw[hg]
  by_cases h3:0<=x+3/\x+3<(w:Int)/\n+(x+3).toNat=q/\q<l.length
  ·rw[if_pos h3,if_neg (by omega),if_pos (by omega),show dx+(q-(n+cx))=3 by omega];rfl
  ·rw[if_neg h3]
   by_cases h2:0<=x+2/\x+2<(w:Int)/\n+(x+2).toNat=q/\q<l.length
   ·rw[if_pos h2,if_neg (by omega),if_pos (by omega),show dx+(q-(n+cx))=2 by omega];rfl
   ·rw[if_neg h2]
    by_cases h1:0<=x+1/\x+1<(w:Int)/\n+(x+1).toNat=q/\q<l.length
    ·rw[if_pos h1,if_neg (by omega),if_pos (by omega),show dx+(q-(n+cx))=1 by omega];rfl
    ·rw[if_neg h1]
     by_cases h0:0<=x/\x<(w:Int)/\n+x.toNat=q/\q<l.length
     ·rw[if_pos h0,if_neg (by omega),if_pos (by omega),show dx+(q-(n+cx))=0 by omega];rfl
     ·rw[if_neg h0]
      by_cases hA:q<n+cx
      ·rw[if_pos hA]
      ·rw[if_neg hA,if_neg (by omega)]
theorem SU{f:FD}{p:Int}(x y:Int)(b:Nat->Int)(k:Nat)(hp:0<=p)(hp2:p<=2)(hy:0<=LK y+((k/4:Nat):Int)/\LK y+((k/4:Nat):Int)<(Lc f p).2) :
  (ME f p x y b (k+1)).pl p=R3 ((ME f p x y b k).pl p) ((LK y+((k/4:Nat):Int))*(Lc f p).1).toNat (Lc f p).1.toNat (LK x+((k%4:Nat):Int)) (LU (b k))/\∀ q,0<=q->q<=2->q≠p->(ME f p x y b (k+1)).pl q=(ME f p x y b k).pl q:=by
 have hb:=Nm f p
 by_cases h:N7 (Lc f p).1 (Lc f p).2 (LK x+((k%4:Nat):Int)) (LK y+((k/4:Nat):Int))
 ·have hc:=ON h
  rw[aCA h]
  have hs:=aA6 (ME f p x y b k) p ((LK y+((k/4:Nat):Int))*(Lc f p).1+(LK x+((k%4:Nat):Int))).toNat (LU (b k)) hp hp2
  refine⟨?_,hs.2⟩
  rw[hs.1]
  unfold R3
  unfold N7 at h
  rw[if_pos ⟨h.1,by omega⟩,Int.toNat_add (by omega) (by omega)]
 ·rw[SY h]
  refine⟨?_,fun _ _ _ _=>rfl⟩
  unfold R3
  unfold N7 at h
  rw[if_neg (by omega)]
theorem UR{f:FD}{p:Int}(x y:Int)(b:Nat->Int)(i:Nat)(hp:0<=p)(hp2:p<=2)(hsz:(Lc f p).1≠0)(hy:0<=LK y+(i:Int)/\LK y+(i:Int)<(Lc f p).2) :
  (ME f p x y b (4*(i+1))).pl p=YH ((ME f p x y b (4*i)).pl p) ((LK y+(i:Int))*(Lc f p).1).toNat ((LK y+(i:Int))*(Lc f p).1+(Lc f p).1).toNat (LK x) [LU (b (i*4)),LU (b (i*4+1)),LU (b (i*4+2)),LU (b (i*4+3))]/\∀ q,0<=q->q<=2->q≠p->(ME f p x y b (4*(i+1))).pl q=(ME f p x y b (4*i)).pl q:=by
 have hb:=Nm f p
 have hin:N7 (Lc f p).1 (Lc f p).2 0 (LK y+(i:Int)):=⟨by omega,by omega,hy.1,hy.2⟩
 have hin2:N7 (Lc f p).1 (Lc f p).2 ((Lc f p).1-1) (LK y+(i:Int)):=⟨by omega,by omega,hy.1,hy.2⟩
 have hc:=ON hin
 have hc2:=ON hin2
 have q0:4*i/4=i:=by omega
 have q1:(4*i+1)/4=i:=by omega
 have q2:(4*i+2)/4=i:=by omega
 have q3:(4*i+3)/4=i:=by omega
 have r0:4*i%4=0:=by omega
 have r1:(4*i+1)%4=1:=by omega
 have r2:(4*i+2)%4=2:=by omega
 have r3:(4*i+3)%4=3:=by omega
 have s0:=SU (f:=f) (p:=p) x y b (4*i) hp hp2 (by rw[q0];exact hy)
 have s1:=SU (f:=f) (p:=p) x y b (4*i+1) hp hp2 (by rw[q1];exact hy)
 have s2:=SU (f:=f) (p:=p) x y b (4*i+2) hp hp2 (by rw[q2];exact hy)
 have s3:=SU (f:=f) (p:=p) x y b (4*i+3) hp hp2 (by rw[q3];exact hy)
 rw[q0,r0] at s0
 rw[q1,r1] at s1
 rw[q2,r2] at s2
 rw[q3,r3] at s3
 have hlen:((ME f p x y b (4*i)).pl p).length=(f.pl p).length:=by
  have h:=Ts x y b (4*i) hsz
  have:p=0\/p=1\/p=2:=by omega
  rcases this with rfl|rfl|rfl
  ·exact h.1
  ·exact h.2.1
  ·exact h.2.2
 have e:((LK y+(i:Int))*(Lc f p).1+(Lc f p).1).toNat=((LK y+(i:Int))*(Lc f p).1).toNat+(Lc f p).1.toNat:=Int.toNat_add (by omega) (by omega)
 rw[show 4*(i+1)=4*i+3+1 by omega]
 refine⟨?_,fun q h0 h2 hq=>by rw[s3.2 q h0 h2 hq,s2.2 q h0 h2 hq,s1.2 q h0 h2 hq,s0.2 q h0 h2 hq]⟩
 rw[e,ZJ _ _ _ _ _ _ _ _ (by rw[hlen];omega),s3.1,s2.1,s1.1,s0.1]
 rw[show i*4=4*i by omega]
 rw[show LK x+((0:Nat):Int)=LK x by omega]
 rfl
theorem Wl(f:FD)(p:Int):Lc (MS f) p=Lc f p:=by
 by_cases h:QO f
 ·rw[Nz h]
 ·rw[O3 h,Pu (fun k=>h k.1),Pu (fun k=>absurd k.1 (by decide))]
theorem Nn{f:FD}{p x y:Int}{b:Nat->Int}{i:Nat}(h:¬ (0<=LK y+(i:Int)/\LK y+(i:Int)<(Lc f p).2)):ME f p x y b (4*(i+1))=ME f p x y b (4*i):=by
 rw[show 4*(i+1)=4*i+3+1 by omega]
 rw[SY (k:=4*i+3) (by unfold N7;rw[show (4*i+3)/4=i by omega];omega),SY (k:=4*i+2) (by unfold N7;rw[show (4*i+2)/4=i by omega];omega),SY (k:=4*i+1) (by unfold N7;rw[show (4*i+1)/4=i by omega];omega),SY (k:=4*i) (by unfold N7;rw[show (4*i)/4=i by omega];omega)]
end Go.Proofs.YtknjpdcpmpfklaaGreatDoor
