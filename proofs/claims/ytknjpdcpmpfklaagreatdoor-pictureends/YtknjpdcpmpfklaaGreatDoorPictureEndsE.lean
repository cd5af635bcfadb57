/- What PictureEnds reaches of my texts, part 5. -/
import Derived.Test.YtknjpdcpmpfklaaGreatDoorPictureEndsD
set_option maxRecDepth 100000
set_option maxHeartbeats 4000000
set_option maxRecDepth 100000
namespace Go.Proofs.YtknjpdcpmpfklaaGreatDoor
open Go.RowKit
def PZ(m:Int):Int:=if m<4 then 0 else if m=4 then 1 else 2
def aEL:List Value:=[.int .i64 0,.bool false,.bool false,.int .i64 0,.bool false,.bool false,.int .i64 0,.bool false,.bool false,.int .i64 0,.bool false,.bool false,.int .i64 1,.bool true,.bool false,.int .i64 2,.bool false,.bool true,.int .i64 2,.bool true,.bool true]
def NO(w:World):Prop:=5<=w.heap.size/\∀ i,i<21->w.cell? ⟨1,i,none⟩=aEL[i]?
theorem NO.but{w w':World}{T:Nat->Prop}(h:NO w)(k:KO T w w')(ha:∀ i,T i->5<=i):NO w' :=
 ⟨Nat.le_trans h.1 k.size,fun i hi=>(k.cell0 (Nat.lt_of_lt_of_le (by decide) h.1) (fun x=>absurd (ha _ x) (by decide))).trans (h.2 i hi)⟩
theorem NO.all{w w':World}(h:NO w)(k:KO (fun _=>False) w w'):NO w':=h.but k (fun _ x=>x.elim)
theorem RU{w0:World}{T:Nat->Prop}(g:KP w0 LX T)(h:NO w0):∀ i,T i->5<=i:=fun i hi=>by
 have:=h.1
 rcases g i hi with h1|h1
 ·exact h1.elim
 ·omega
theorem U4{w0:World}{B T:Nat->Prop}(g:KP w0 B T)(hB:∀ i,B i->5<=i)(h:NO w0):∀ i,T i->5<=i:=fun i hi=>by
 have:=h.1
 rcases g i hi with h1|h1
 ·exact hB i h1
 ·omega
theorem ovO{T:Nat->Prop}(h:∀ i,T i->5<=i):∀ i,T i->2<i:=fun i hi=>Nat.lt_of_lt_of_le (by decide) (h i hi)
theorem Tr{w:World}(h:NO w){m:Int}(hm:0<=m/\m<7):w.cell? ⟨1,0+(m).toNat*3,none⟩=some (.int .i64 (PZ m))/\w.cell? ⟨1,0+(m).toNat*3+1,none⟩=some (.bool (Nl m))/\w.cell? ⟨1,0+(m).toNat*3+2,none⟩=some (.bool (M7 m)):=by
 have hc:m=0\/m=1\/m=2\/m=3\/m=4\/m=5\/m=6:=by omega
 rcases hc with rfl|rfl|rfl|rfl|rfl|rfl|rfl <;> exact⟨(h.2 _ (by decide)).trans rfl,(h.2 _ (by decide)).trans rfl,(h.2 _ (by decide)).trans rfl⟩
theorem aCl(k m:Int):0<=m/\m<7->(PZ m<=k/\k<=2↔m<=NJ k):=by
 rintro ⟨h1,h2⟩
 have ha:PZ m=0/\m<4\/PZ m=1/\m=4\/PZ m=2/\4<m:=by
  unfold PZ
  by_cases h3:m<4
  ·rw[if_pos h3];omega
  ·rw[if_neg h3]
   by_cases h4:m=4
   ·rw[if_pos h4];omega
   ·rw[if_neg h4];omega
 have hk:k=0/\NJ k=3\/k=1/\NJ k=4\/k=2/\NJ k=6\/(k<0\/2<k)/\NJ k = -1:=by
  unfold NJ
  by_cases h3:k=0
  ·rw[if_pos h3];omega
  ·rw[if_neg h3]
   by_cases h4:k=1
   ·rw[if_pos h4];omega
   ·rw[if_neg h4]
    by_cases h5:k=2
    ·rw[if_pos h5];omega
    ·rw[if_neg h5];omega
 omega
theorem Qe(m:Int)(w0:World) :
  Calls Tryz.prog 109 #[.int .i64 (m)] w0 fun e w'=>e = .returned (.bool (decide (0<=m/\m<7)))/\KO (fun _=>False) w0 w':=by
 refine Lr (args:=[iv m]) 9 Tryz.func109 rfl rfl (Nat.le_of_ble_eq_true rfl) ?_
 have K0:=KO.refl (fun _=>False) w0
 refine KJ (KH (KI (.bool false) rfl rfl (KS rfl rfl rr) (KM ?_)))
 have s3:=K4 (iv m)
 have s4:=K4 (undef)
 refine KG (KJ ?_)
 by_cases d5:0<=m
 ·skip
  refine KH (KR rfl rfl rfl s3 (KI (.bool true) rfl rfl (Nf rfl rfl rfl (decide_eq_true d5) rr) (KI (.bool true) rfl rfl (KQ rfl rfl rr) (KT (iv m) 2 true 5 rfl rfl rfl rfl rfl (KQ rfl s3 rr) (KT (.bool (decide (m<7))) 2 true 5 rfl rfl rfl rfl rfl (L4 rfl rfl rfl rfl rr) (KI (.bool (decide (m<7))) rfl rfl (Lo rfl rfl rfl rr) (KI (.bool (decide (m<7))) rfl rfl (KS rfl rfl rr) (KM ?_))))))))
  have s9:=K4 (.bool (decide (m<7)))
  refine KG (Lb ?_)
  exact Lu (v:=.bool (decide (m<7))) s4 rfl rfl s9 ⟨(Pb (by first|exact(decide_eq_true (by omega)).symm|exact(decide_eq_false (by omega)).symm|exact decide_eq_decide.2 (by omega))),K0⟩
 ·skip
  refine KH (KR rfl rfl rfl s3 (KI (.bool false) rfl rfl (Nf rfl rfl rfl (decide_eq_false d5) rr) (KI (.bool false) rfl rfl (KQ rfl rfl rr) (KN 2 true 5 rfl rfl rfl (Or.inl rfl) rfl (KN 2 true 5 rfl rfl rfl (Or.inl rfl) rfl (KI (.bool false) rfl rfl (Li rfl rfl rfl rr) (KI (.bool false) rfl rfl (KS rfl rfl rr) (KM ?_))))))))
  have ah:=K4 (.bool false)
  refine KG (Lb ?_)
  exact Lu (v:=.bool false) s4 rfl rfl ah ⟨(Pb (by first|exact(decide_eq_true (by omega)).symm|exact(decide_eq_false (by omega)).symm|exact decide_eq_decide.2 (by omega))),K0⟩
theorem aBc(k m:Int)(w0:World)(hA:NO w0) :
  Calls Tryz.prog 99 #[.int .i64 (k),.int .i64 (m)] w0 fun e w'=>e = .returned (.bool (decide (0<=m/\m<=NJ k)))/\KO (fun _=>False) w0 w':=by
 refine Lr (args:=[iv k,iv m]) 19 Tryz.func99 rfl rfl (Nat.le_of_ble_eq_true rfl) ?_
 have K0:=KO.refl (fun _=>False) w0
 have hk6:=U8 k
 have hif:=aCl k m
 refine KJ (KH (KI (.bool false) rfl rfl (KS rfl rfl rr) (KM ?_)))
 have s3:=K4 (iv k)
 have s4:=K4 (iv m)
 have s5:=K4 (undef)
 refine KG (KJ ?_)
 by_cases d6:0<=m/\m<7
 ·skip
  by_cases d7:(PZ m)<=k
  ·skip
   refine KH (KR rfl rfl rfl s4 (LB (R:=fun v_ w_=>v_ = .bool true/\KO (fun _=>False) w0 w_) rfl rfl (LH rfl rfl rfl (fun _ _=>by kernel_rfl) (K5 _) (Lk rfl LR) (Qe m  _   ) (fun e_ w_ h_=>⟨_,h_.1,(congrArg Value.bool (decide_eq_true d6)),h_.2⟩)) ?_))
   rintro _ w8 ⟨rfl,k9⟩
   have ai:=K0.tr k9
   refine KI (.bool true) rfl rfl (KQ rfl rfl rr) (KT (iv k) 2 true 7 rfl rfl rfl rfl rfl (KQ rfl s3 rr) (KT (iv m) 2 true 7 rfl rfl rfl rfl rfl (KQ rfl s4 rr) (KT (.pointer (some ⟨1,0+(m.toNat)*3,none⟩)) 2 true 7 rfl rfl rfl rfl rfl (LV (m.toNat) (s:=3) rfl rfl rfl (by omega) Tryz.underlying165 (by omega) (by kernel_rfl) (by omega) rr) (KT (.pointer (some ⟨1,0+(m.toNat)*3,none⟩)) 2 true 7 rfl rfl rfl rfl rfl (KU (n:=1) rfl rfl Tryz.underlying164 rfl (by kernel_rfl) (by decide) rfl rr) (KT (iv (PZ m)) 2 true 7 rfl rfl rfl rfl rfl (OD rfl rfl Tryz.underlying3 ((Tr (hA.all ai) (by assumption)).1) rr) (KT (.bool true) 2 true 7 rfl rfl rfl rfl rfl (Nf rfl rfl rfl (decide_eq_true d7) rr) (KI (.bool true) rfl rfl (Lo rfl rfl rfl rr) (KI (.bool true) rfl rfl (KQ rfl rfl rr) (KT (iv k) 10 true 15 rfl rfl rfl rfl rfl (KQ rfl s3 rr) (KT (.bool (decide (k<=2))) 10 true 15 rfl rfl rfl rfl rfl (PM rfl rfl rfl rfl rr) (KI (.bool (decide (k<=2))) rfl rfl (Lo rfl rfl rfl rr) ?_)))))))))))
   refine KI (.bool (decide (k<=2))) rfl rfl (KS rfl rfl rr) (KM ?_)
   have am:=K4 (.bool (decide (k<=2)))
   refine KG (Lb ?_)
   exact Lu (v:=.bool (decide (k<=2))) s5 rfl rfl am ⟨(Pb (by first|exact(decide_eq_true (by omega)).symm|exact(decide_eq_false (by omega)).symm|exact decide_eq_decide.2 (by omega))),ai⟩
  ·skip
   refine KH (KR rfl rfl rfl s4 (LB (R:=fun v_ w_=>v_ = .bool true/\KO (fun _=>False) w0 w_) rfl rfl (LH rfl rfl rfl (fun _ _=>by kernel_rfl) (K5 _) (Lk rfl LR) (Qe m  _   ) (fun e_ w_ h_=>⟨_,h_.1,(congrArg Value.bool (decide_eq_true d6)),h_.2⟩)) ?_))
   rintro _ au ⟨rfl,an⟩
   have aj:=K0.tr an
   refine KI (.bool true) rfl rfl (KQ rfl rfl rr) (KT (iv k) 2 true 7 rfl rfl rfl rfl rfl (KQ rfl s3 rr) (KT (iv m) 2 true 7 rfl rfl rfl rfl rfl (KQ rfl s4 rr) (KT (.pointer (some ⟨1,0+(m.toNat)*3,none⟩)) 2 true 7 rfl rfl rfl rfl rfl (LV (m.toNat) (s:=3) rfl rfl rfl (by omega) Tryz.underlying165 (by omega) (by kernel_rfl) (by omega) rr) (KT (.pointer (some ⟨1,0+(m.toNat)*3,none⟩)) 2 true 7 rfl rfl rfl rfl rfl (KU (n:=1) rfl rfl Tryz.underlying164 rfl (by kernel_rfl) (by decide) rfl rr) (KT (iv (PZ m)) 2 true 7 rfl rfl rfl rfl rfl (OD rfl rfl Tryz.underlying3 ((Tr (hA.all aj) (by assumption)).1) rr) (KT (.bool false) 2 true 7 rfl rfl rfl rfl rfl (Nf rfl rfl rfl (decide_eq_false d7) rr) (KI (.bool false) rfl rfl (Lo rfl rfl rfl rr) (KI (.bool false) rfl rfl (KQ rfl rfl rr) (KN 10 true 15 rfl rfl rfl (Or.inl rfl) rfl (KN 10 true 15 rfl rfl rfl (Or.inl rfl) rfl (KI (.bool false) rfl rfl (Li rfl rfl rfl rr) ?_)))))))))))
   refine KI (.bool false) rfl rfl (KS rfl rfl rr) (KM ?_)
   have ao:=K4 (.bool false)
   refine KG (Lb ?_)
   exact Lu (v:=.bool false) s5 rfl rfl ao ⟨(Pb (by first|exact(decide_eq_true (by omega)).symm|exact(decide_eq_false (by omega)).symm|exact decide_eq_decide.2 (by omega))),aj⟩
 ·skip
  refine KH (KR rfl rfl rfl s4 (LB (R:=fun v_ w_=>v_ = .bool false/\KO (fun _=>False) w0 w_) rfl rfl (LH rfl rfl rfl (fun _ _=>by kernel_rfl) (K5 _) (Lk rfl LR) (Qe m  _   ) (fun e_ w_ h_=>⟨_,h_.1,(congrArg Value.bool (decide_eq_false d6)),h_.2⟩)) ?_))
  rintro _ av ⟨rfl,ap⟩
  refine KI (.bool false) rfl rfl (KQ rfl rfl rr) (KN 2 true 7 rfl rfl rfl (Or.inl rfl) rfl (KN 2 true 7 rfl rfl rfl (Or.inl rfl) rfl (KN 2 true 7 rfl rfl rfl (Or.inl rfl) rfl (KN 2 true 7 rfl rfl rfl (Or.inl rfl) rfl (KN 2 true 7 rfl rfl rfl (Or.inl rfl) rfl (KN 2 true 7 rfl rfl rfl (Or.inl rfl) rfl (KI (.bool false) rfl rfl (Li rfl rfl rfl rr) (KI (.bool false) rfl rfl (KQ rfl rfl rr) (KN 10 true 15 rfl rfl rfl (Or.inl rfl) rfl (KN 10 true 15 rfl rfl rfl (Or.inl rfl) rfl (KI (.bool false) rfl rfl (Li rfl rfl rfl rr) ?_)))))))))))
  refine KI (.bool false) rfl rfl (KS rfl rfl rr) (KM ?_)
  have aq:=K4 (.bool false)
  refine KG (Lb ?_)
  exact Lu (v:=.bool false) s5 rfl rfl aq ⟨(Pb (by first|exact(decide_eq_true (by omega)).symm|exact(decide_eq_false (by omega)).symm|exact decide_eq_decide.2 (by omega))),(K0.tr ap)⟩
theorem aAX{m:Int}(h:¬ (0<=m/\m<7)):Nl m=false/\M7 m=false:=by
 unfold Nl M7;rw[decide_eq_false (by omega:¬ m=4),decide_eq_false (by omega:¬ m=5),decide_eq_false (by omega:¬ m=6)];exact⟨rfl,rfl⟩
theorem Vh(m:Int)(w0:World)(hA:NO w0) :
  Calls Tryz.prog 97 #[.int .i64 (m)] w0 fun e w'=>e = .returned (.tuple #[.bool (Nl m),.bool (M7 m)])/\KO (fun _=>False) w0 w':=by
 refine Lr (args:=[iv m]) 15 Tryz.func97 rfl rfl (Nat.le_of_ble_eq_true rfl) ?_
 have K0:=KO.refl (fun _=>False) w0
 refine KJ (KH (KI (.bool false) rfl rfl (KS rfl rfl rr) (KI (.bool false) rfl rfl (KS rfl rfl rr) (KM ?_))))
 have s3:=K4 (iv m)
 have s4:=K4 (undef)
 refine KG (KJ (KJ ?_))
 by_cases d5:0<=m/\m<7
 ·skip
  refine KH (KR rfl rfl rfl s3 (LB (R:=fun v_ w_=>v_ = .bool true/\KO (fun _=>False) w0 w_) rfl rfl (LH rfl rfl rfl (fun _ _=>by kernel_rfl) (K5 _) (Lk rfl LR) (Qe m  _   ) (fun e_ w_ h_=>⟨_,h_.1,(congrArg Value.bool (decide_eq_true d5)),h_.2⟩)) ?_))
  rintro _ w6 ⟨rfl,k7⟩
  have K8:=K0.tr k7
  refine KI (.bool false) rfl rfl (L9 rfl rfl rfl rr) (KM ?_)
  have am:=K4 (.bool false)
  refine KG ?_
  refine K6 (t:=false) am (fun e=>by cases e) (fun _=>?_)
  refine Lg (KG (KJ ?_))
  have hm7:0<=m/\m<7:=by first|assumption|(apply Decidable.byContradiction;assumption)
  refine QI [some 7,some 8,some 9,some 10,some 11,some 12,some 13,some 14,some 2,some 3] [Pd.eq (iv m),Pd.eq (.pointer (some ⟨1,0+(m.toNat)*3,none⟩)),Pd.eq (.pointer (some ⟨1,0+(m.toNat)*3+1,none⟩)),Pd.eq (.bool (Nl m)),Pd.eq (iv m),Pd.eq (.pointer (some ⟨1,0+(m.toNat)*3,none⟩)),Pd.eq (.pointer (some ⟨1,0+(m.toNat)*3+2,none⟩)),Pd.eq (.bool (M7 m)),Pd.eq (.bool (Nl m)),Pd.eq (.bool (M7 m))] (by kernel_rfl) (by kernel_rfl) ?_ ?_
  ·refine KL ?_ ?_
   ·refine La.one rfl fun F_ w_ hR hout hD=>?_
    exact(KQ rfl ((hout 0 rfl (by decide)).trans s3) ⟨rfl,KO.refl _ _⟩)
   refine KL ?_ ?_
   ·refine La.one rfl fun F_ w_ hR hout hD=>?_
    have g7:F_ 7=iv m:=(hD.get 0 rfl rfl rfl)
    exact(LV (m.toNat) (s:=3) rfl rfl g7 (by omega) Tryz.underlying165 (by omega) (by kernel_rfl) (by omega) ⟨rfl,KO.refl _ _⟩)
   refine KL ?_ ?_
   ·refine La.one rfl fun F_ w_ hR hout hD=>?_
    have g8:F_ 8 = .pointer (some ⟨1,0+(m.toNat)*3,none⟩):=(hD.get 0 rfl rfl rfl)
    exact(KU (n:=1) rfl g8 Tryz.underlying164 rfl (by kernel_rfl) (by decide) rfl ⟨rfl,KO.refl _ _⟩)
   refine KL ?_ ?_
   ·refine La.one rfl fun F_ w_ hR hout hD=>?_
    have g9:F_ 9 = .pointer (some ⟨1,0+(m.toNat)*3+1,none⟩):=(hD.get 0 rfl rfl rfl)
    exact(XX rfl g9 Tryz.underlying4 rfl ((Tr (hA.all (K8.trans hR (fun _ _ x=>x.elim))) hm7).2.1) ⟨rfl,KO.refl _ _⟩)
   refine KL ?_ ?_
   ·refine La.one rfl fun F_ w_ hR hout hD=>?_
    exact(KQ rfl ((hout 0 rfl (by decide)).trans s3) ⟨rfl,KO.refl _ _⟩)
   refine KL ?_ ?_
   ·refine La.one rfl fun F_ w_ hR hout hD=>?_
    have aq:F_ 11=iv m:=(hD.get 0 rfl rfl rfl)
    exact(LV (m.toNat) (s:=3) rfl rfl aq (by omega) Tryz.underlying165 (by omega) (by kernel_rfl) (by omega) ⟨rfl,KO.refl _ _⟩)
   refine KL ?_ ?_
   ·refine La.one rfl fun F_ w_ hR hout hD=>?_
    have ar:F_ 12 = .pointer (some ⟨1,0+(m.toNat)*3,none⟩):=(hD.get 0 rfl rfl rfl)
    exact(KU (n:=1) rfl ar Tryz.underlying164 rfl (by kernel_rfl) (by decide) rfl ⟨rfl,KO.refl _ _⟩)
   refine KL ?_ ?_
   ·refine La.one rfl fun F_ w_ hR hout hD=>?_
    have au:F_ 13 = .pointer (some ⟨1,0+(m.toNat)*3+2,none⟩):=(hD.get 0 rfl rfl rfl)
    exact(XX rfl au Tryz.underlying4 rfl ((Tr (hA.all (K8.trans hR (fun _ _ x=>x.elim))) hm7).2.2) ⟨rfl,KO.refl _ _⟩)
   refine KL ?_ ?_
   ·refine La.one rfl fun F_ w_ hR hout hD=>?_
    have av:F_ 10 = .bool (Nl m):=(hD.get 0 rfl rfl rfl)
    exact(KS rfl av ⟨rfl,KO.refl _ _⟩)
   refine KL ?_ ?_
   ·refine La.one rfl fun F_ w_ hR hout hD=>?_
    have aw:F_ 14 = .bool (M7 m):=(hD.get 0 rfl rfl rfl)
    exact(KS rfl aw ⟨rfl,KO.refl _ _⟩)
   exact L0
  intro aI aj aJ az ae ab
  have aA:=(ab 15).trans s4
  have aB:aj 2 = .bool (Nl m):=(ab 2).trans (ae 8 (by decide))
  have aC:aj 3 = .bool (M7 m):=(ab 3).trans (ae 9 (by decide))
  clear ae ab
  refine KG (Lb ?_)
  exact L7 aA rfl (Ly (v:=.bool (Nl m)) rfl aB) (Ly (v:=.bool (M7 m)) rfl aC) ⟨(by first|rfl|rw[hpo.1,hpo.2]),(K8.tr az)⟩
 ·skip
  refine KH (KR rfl rfl rfl s3 (LB (R:=fun v_ w_=>v_ = .bool false/\KO (fun _=>False) w0 w_) rfl rfl (LH rfl rfl rfl (fun _ _=>by kernel_rfl) (K5 _) (Lk rfl LR) (Qe m  _   ) (fun e_ w_ h_=>⟨_,h_.1,(congrArg Value.bool (decide_eq_false d5)),h_.2⟩)) ?_))
  rintro _ aK ⟨rfl,aD⟩
  refine KI (.bool true) rfl rfl (L9 rfl rfl rfl rr) (KM ?_)
  have aE:=K4 (.bool true)
  refine KG ?_
  refine K6 (t:=true) aE (fun _=>?_) (fun e=>by cases e)
  refine KJ ?_
  have hpo:=aAX (m:=m) (by assumption)
  refine KH (KI (.bool false) rfl rfl (KS rfl rfl rr) (KI (.bool false) rfl rfl (KS rfl rfl rr) (KM ?_)))
  have aF:=K4 (.bool false)
  have aG:=K4 (.bool false)
  refine KG (Lb (Lq ?_))
  exact L7 s4 rfl (Ly (v:=.bool false) rfl aF) (Ly (v:=.bool false) rfl aG) ⟨(by first|rfl|rw[hpo.1,hpo.2]),(K0.tr aD)⟩
theorem aA7(b:Nat->Int)(c:Ch)(q:Int)(w0:World)(hs:NU w0)(hw:Qg w0) :
  Calls Tryz.prog 76 #[LJ (b),.agg (O1 (c)).toArray,.int .i64 (q)] w0 fun e w'=>e = .returned (.tuple #[LJ (buB b c.b q),.int .i64 (QA q)])/\KO (fun _=>False) w0 w':=by
 refine Lr (args:=[LJ b,.agg (O1 c).toArray,iv q]) 39 Tryz.func76 rfl rfl (Nat.le_of_ble_eq_true rfl) ?_
 have K0:=KO.refl (fun _=>False) w0
 refine KJ (KH (M3 rfl rfl rfl rfl fun p1 w2 e5 B3 k4=>?_))
 have g6:=LS (Nat.le_of_eq e5.symm)
 have aD:=KP.new K0 g6
 clear e5 g6
 refine Lz (vs:=(O1 c)) rfl rfl rfl rfl fun p9 cr bj bl aE=>?_
 have aF:=KK.new bl (LT B3.lt)
 have aG:=B3.all aE id
 have aH:=(K0.tr k4).tr aE
 refine L1 rfl rfl rfl KW.2.2 fun ac ct aI bm aJ=>?_
 have ae:=LS (Nat.le_of_eq aI.symm)
 have aK:=KP.new aH ae
 have aL:=KK.new ae (LT aG.lt)
 clear aI ae
 obtain⟨bn,aM⟩:=NA aJ aG bj
 have aN:=aH.tr aJ
 refine KI (iv 0) rfl rfl (KS rfl rfl rr) (KM ?_)
 have bo:=K4 (iv q)
 have aO:=K4 (undef)
 have aP:=K4 (pt p1 0)
 have bp:=K4 (pt p9 0)
 have ao:=K4 (pt ac 0)
 refine KG (KJ (KH (KI (pt p9 5) rfl rfl (KU (n:=16) rfl bp Tryz.underlying71 rfl (by kernel_rfl) (by decide) rfl rr) (KI (LJ (c.b)) rfl rfl (O4 (n:=16) (us:=L8 16 (c.b)) Qd rfl rfl aM (Nat.le_of_ble_eq_true rfl) rfl rr) (KR rfl rfl rfl bo (LW rfl rfl rfl rfl rfl (fun _ _=>by kernel_rfl) (Lk rfl (Lk rfl LR)) (aDd (c.b) q  _ (hs.all aN)  ) fun cu aQ=>?_))))))
 obtain⟨aR,aS,aT⟩:=Nu aQ bn aM bm
 have aU:=aN.tr aQ
 refine KI (.tuple #[LJ (Ux (c.b) q),iv (QA q)]) rfl rfl (KQ rfl rfl rr) (KI (LJ (Ux (c.b) q)) rfl rfl (LL rfl rfl rfl rr) (KI (iv (QA q)) rfl rfl (LL rfl rfl rfl rr) (L1 rfl rfl rfl KW.2.2 fun ai cv aV bq aW=>?_)))
 have aX:=LS (Nat.le_of_eq aV.symm)
 obtain⟨ap,bt,bu⟩:=TD aX aR aS aT
 clear aV
 obtain⟨bv,bz,bA⟩:=Nu aW aR aS aT
 refine Lp KW rfl rfl rfl rfl rfl bq fun cw aY aj=>?_
 have aZ:=bv.all aj (ap.symm p1 rfl)
 have bB:=bz.all aj (bt.symm p9 rfl)
 have a8:=bA.all aj (bu.symm ac rfl)
 have aq:=(aU.tr aW).trans aj (KP.ok (S:=fun _=>False) (KP.new aU aX) K3)
 refine KI (iv (QA q)) rfl rfl (KS rfl rfl rr) (KM ?_)
 have bC:=K4 (pt ai 0)
 have a9:=K4 (iv (QA q))
 refine KG (KJ (KJ (KH (KR rfl rfl rfl a9 (KI (.bool (decide ((QA q)≠0))) rfl rfl (Mb rfl rfl rfl rfl rr) (KM ?_))))))
 have bD:=K4 (.bool (decide ((QA q)≠0)))
 refine KG ?_
 refine K6 bD (fun af=>?_) (fun af=>?_)
 ·replace af:=of_decide_eq_true af
  refine KJ ?_
  have hR:=aEc (b:=b) (l:=c.b) (q:=q) (by assumption)
  refine KH (KI (LJ (fun _=>0)) rfl rfl (Mx (cells:=(L8 16 (fun _=>0)).toArray) rfl (by kernel_rfl) rfl rr) (KR rfl rfl rfl a9 (Lp KW rfl rfl rfl ao rfl a8 fun cy bE bF=>?_)))
  refine KI (iv (QA q)) rfl rfl (KS rfl rfl rr) (KM ?_)
  have bG:=K4 (iv (QA q))
  refine KG (Lb (Lq ?_))
  exact L7 aO rfl (Mq KW rfl ao bE) (Ly (v:=iv (QA q)) rfl bG) ⟨(by first|rw[hR,hq0]|rw[hR]),(aq.trans bF (KP.ok (S:=fun _=>False) aK K3))⟩
 ·replace af:=of_decide_eq_false af
  refine Lg (KG (KJ ?_))
  have hq0:QA q=0:=by first|assumption|(apply Decidable.byContradiction;assumption)
  have hR:=aC5 (b:=b) (l:=c.b) hq0
  refine Na 4 [some 23,some 24,some 25,some 26] [Pd.eq (LJ b),Pd.eq (LJ (Ux (c.b) q)),Pd.eq (LJ (Oq (Ux (c.b) q))),Pd.eq (LJ (ON b (Oq (Ux (c.b) q))))] (by kernel_rfl) (by kernel_rfl) (by kernel_rfl) ?_ ?_
  ·refine KL ?_ ?_
   ·refine La.one rfl fun F_ w_ hR hout hD=>?_
    exact(LY KW rfl ((hout 3 rfl (by decide)).trans aP) (aZ.all hR id) ⟨rfl,KO.refl _ _⟩)
   refine KL ?_ ?_
   ·refine La.one rfl fun F_ w_ hR hout hD=>?_
    exact(LY KW rfl ((hout 8 rfl (by decide)).trans bC) (aY.all hR id) ⟨rfl,KO.refl _ _⟩)
   refine KL ?_ ?_
   ·refine La.one rfl fun F_ w_ hR hout hD=>?_
    have bH:F_ 24=LJ (Ux (c.b) q):=(hD.get 0 rfl rfl rfl)
    exact(LH rfl rfl rfl (fun _ _=>by kernel_rfl) (K5 _) (Lk bH LR) (aBq (Ux (c.b) q)  _ (hw.all (aq.trans hR (fun _ _ x=>x.elim)))  ) (fun e_ w_ h_=>⟨_,h_.1,rfl,h_.2⟩))
   refine KL ?_ ?_
   ·refine La.one rfl fun F_ w_ hR hout hD=>?_
    have ae:F_ 23=LJ b:=(hD.get 0 rfl rfl rfl)
    have bI:F_ 25=LJ (Oq (Ux (c.b) q)):=(hD.get 1 rfl rfl rfl)
    exact(LH rfl rfl rfl (fun _ _=>by kernel_rfl) (K5 _) (Lk ae (Lk bI LR)) (aAL b (Oq (Ux (c.b) q))  _   ) (fun e_ w_ h_=>⟨_,h_.1,rfl,h_.2⟩))
   exact L0
  intro cz bJ cA ba bb ar
  obtain⟨bK,bL,bM,bN⟩:=OV ba aZ bB a8 aY
  obtain⟨bO,au,bP⟩:=t3 ar 39 aO 3 aP 6 ao
  have bQ:bJ 26=LJ (ON b (Oq (Ux (c.b) q))):=(ar 26).trans (bb 3 (by decide))
  clear bb ar
  refine Lp KW rfl rfl rfl au bQ bK fun cC bc ak=>?_
  have bR:=bL.all ak (aF p9 rfl)
  have bS:=bM.all ak (aL ac rfl)
  have bT:=bN.all ak (ap ai rfl)
  refine KM ?_
  refine KG (KJ (KJ (KH (KI (LJ (ON b (Oq (Ux (c.b) q)))) rfl rfl (LY KW rfl au bc rr) (KI (iv 0) rfl rfl (KQ rfl rfl rr) (KM ?_))))))
  have bU:=K4 (LJ (ON b (Oq (Ux (c.b) q))))
  have bV:=K4 (iv 0)
  refine KG (Lm (MZ (fun nn FF ww=>∃ (i:Nat),(i<=16)/\nn=16-i/\FF 3=pt p1 0/\FF 6=pt ac 0/\FF 27=LJ (ON b (Oq (Ux (c.b) q)))/\FF 39=undef/\FF 28=iv ((i:Nat):Int)/\KO (fun _=>False) w0 ww/\NL ww p1 69 (upto i (ON b (Oq (Ux c.b q))) (c8M (ON b (Oq (Ux c.b q)))))/\Mz ww p9 71 (O1 c)/\NL ww ac 69 (fun _=>0)/\NL ww ai 69 (Ux (c.b) q)) (16-0) ⟨0,by omega,rfl,au,bP,bU,bO,bV,((aq.tr ba).trans ak (KP.ok (S:=fun _=>False) aD K3)),bc.first,bR,bS,bT⟩ ?_))
  rintro cD cE bW ⟨i,i131,hn130,av,aw,bd,be,am,bf,bg,bX,bh,bY⟩
  refine KJ (KH (KI (.bool (decide (((i:Nat):Int)<16))) rfl rfl (L4 rfl am rfl rfl rr) (KM ?_)))
  have bZ:=K4 (.bool (decide (((i:Nat):Int)<16)))
  refine KG (KJ ?_)
  refine K6 bZ (fun ah=>?_) (fun ah=>?_)
  ·replace ah:=of_decide_eq_true ah
   refine Lg (KG (KJ (Lm (KJ (KH (KR rfl rfl rfl am (KI (iv ((ON b (Oq (Ux (c.b) q))) i)) rfl rfl (aA3 i KW rfl bd am (by omega) rfl rr) (KI (iv ((i:Nat):Int)) rfl rfl (KS rfl rfl rr) (KI (iv ((ON b (Oq (Ux (c.b) q))) i)) rfl rfl (KS rfl rfl rr) (KM ?_))))))))))
   have b7:=K4 (iv ((i:Nat):Int))
   have b8:=K4 (iv ((ON b (Oq (Ux (c.b) q))) i))
   refine KG (KH (KR rfl rfl rfl b7 (KR rfl rfl rfl b8 (KI (iv (min ((ON b (Oq (Ux (c.b) q))) i) 255)) rfl rfl (QS rfl rfl rfl rfl rr) (KI (iv (c8M (ON b (Oq (Ux c.b q))) i)) rfl rfl (QO rfl rfl rfl (by unfold c8M;omega) rr) (KI (.pointer (some ⟨p1,i,none⟩)) rfl rfl (LV i (s:=1) rfl av rfl (by omega) Tryz.underlying69 (by omega) (by kernel_rfl) (by omega) rr) (NM rfl rfl rfl rfl rfl bg (by omega) (by kernel_rfl) fun cF b9 an=>?_)))))))
   have cd:=bX.all an (aF p9 rfl)
   have ce:=bh.all an (aL ac rfl)
   have cf:=bY.all an (ap ai rfl)
   refine KM ?_
   refine LC (KG (KH (KI (iv ((i+1:Nat):Int)) rfl rfl (LP rfl am rfl (L6 (by omega) (by omega)) rr) (KI (iv ((i+1:Nat):Int)) rfl rfl (KQ rfl rfl rr) (KM ?_)))))
   have cg:=K4 (iv ((i+1:Nat):Int))
   exact KG ⟨(16-(i+1)),by omega,i+1,by omega,rfl,av,aw,bd,be,cg,(bf.trans an (KP.ok (S:=fun _=>False) aD K3)),(b9.next rfl),cd,ce,cf⟩
  ·replace ah:=of_decide_eq_false ah
   refine Me (Ls (Ls ?_))
   have ci:16=i:=by omega
   subst ci
   have cj:NL bW p1 69 (c8M (ON b (Oq (Ux c.b q)))):=(bg.last)
   refine Mf (KG (KJ (KH (KI (LJ (c8M (ON b (Oq (Ux c.b q))))) rfl rfl (LY KW rfl av cj rr) (Lp KW rfl rfl rfl aw rfl bh fun cG cm cn=>?_)))))
   refine KI (iv 0) rfl rfl (KS rfl rfl rr) (KM ?_)
   have co:=K4 (iv 0)
   refine KG (Lb ?_)
   exact L7 be rfl (Mq KW rfl aw cm) (Ly (v:=iv 0) rfl co) ⟨(by first|rw[hR,hq0]|rw[hR]),(bf.trans cn (KP.ok (S:=fun _=>False) aK K3))⟩
theorem Zb(k x y:Int)(c:Ch)(f:FD)(f0 f1 f2:Value)(g:FD)(g0 g1 g2:Value)(h:FD)(h0 h1 h2:Value)(T_f0:Nat->Prop)(T_f1:Nat->Prop)(T_f2:Nat->Prop)(T_g0:Nat->Prop)(T_g1:Nat->Prop)(T_g2:Nat->Prop)(T_h0:Nat->Prop)(T_h1:Nat->Prop)(T_h2:Nat->Prop)(w0:World)(hA:NO w0)(h_f0:Mh w0 T_f0 f0 ((f).p0))(h_f1:Mh w0 T_f1 f1 ((f).p1))(h_f2:Mh w0 T_f2 f2 ((f).p2))(h_g0:Mh w0 T_g0 g0 ((g).p0))(h_g1:Mh w0 T_g1 g1 ((g).p1))(h_g2:Mh w0 T_g2 g2 ((g).p2))(h_h0:Mh w0 T_h0 h0 ((h).p0))(h_h1:Mh w0 T_h1 h1 ((h).p1))(h_h2:Mh w0 T_h2 h2 ((h).p2)) :
  Calls Tryz.prog 75 #[.agg #[.int .i64 ((f).W),.int .i64 ((f).H),f0,f1,f2],.agg #[.int .i64 ((g).W),.int .i64 ((g).H),g0,g1,g2],.agg #[.int .i64 ((h).W),.int .i64 ((h).H),h0,h1,h2],.int .i64 (k),.int .i64 (x),.int .i64 (y),.agg (O1 (c)).toArray] w0 fun e w'=>e = .returned (.tuple #[LJ (Xd f g h k x y c),.int .i64 (TJ f g h k x y c)])/\KO (fun _=>False) w0 w':=by
 refine Lr (args:=[.agg #[iv (f.W),iv (f.H),f0,f1,f2],.agg #[iv (g.W),iv (g.H),g0,g1,g2],.agg #[iv (h.W),iv (h.H),h0,h1,h2],iv k,iv x,iv y,.agg (O1 c).toArray]) 82 Tryz.func75 rfl rfl (Nat.le_of_ble_eq_true rfl) ?_
 have g_f0:=KP.refl w0 T_f0
 have g_f1:=KP.refl w0 T_f1
 have g_f2:=KP.refl w0 T_f2
 have g_g0:=KP.refl w0 T_g0
 have g_g1:=KP.refl w0 T_g1
 have g_g2:=KP.refl w0 T_g2
 have g_h0:=KP.refl w0 T_h0
 have g_h1:=KP.refl w0 T_h1
 have g_h2:=KP.refl w0 T_h2
 refine KJ (KH (Lz (vs:=[iv (f.W),iv (f.H),f0,f1,f2]) rfl rfl rfl rfl fun p1 w2 B4 g5 k3=>?_))
 obtain⟨bV,bW,bX,bY,bZ,b7,b8,b9,cd⟩:=ayQ k3 h_f0 h_f1 h_f2 h_g0 h_g1 h_g2 h_h0 h_h1 h_h2
 refine Lz (vs:=[iv (g.W),iv (g.H),g0,g1,g2]) rfl rfl rfl rfl fun ce fL cf fM aM=>?_
 obtain⟨cg,ci,cj,cm,cn,co,cq,cr,ct,cu⟩:=Tw aM bV bW bX bY bZ b7 b8 b9 cd B4
 refine Lz (vs:=[iv (h.W),iv (h.H),h0,h1,h2]) rfl rfl rfl rfl fun aN fN cv fO aO=>?_
 obtain⟨cw,cy,cz,cA,cB,cC,cD,cE,cF,cG,cH⟩:=az3 aO cg ci cj cm cn co cq cr ct cu cf
 refine Lz (vs:=(O1 c)) rfl rfl rfl rfl fun ab fP cI fQ aP=>?_
 obtain⟨cJ,cK,cL,cM,cN,cO,cP,cQ,cR,cS,cT,cU⟩:=aAR aP cw cy cz cA cB cC cD cE cF cG cH cv
 have aQ:=((((KO.refl (fun _=>False) w0).tr k3).tr aM).tr aO).tr aP
 refine L1 rfl rfl rfl KW.2.2 fun ap fR aR cV aS=>?_
 have aT:=LS (Nat.le_of_eq aR.symm)
 have ac:=KP.new aQ aT
 clear aR aT
 obtain⟨cW,cX,cY,cZ,c5,c6,c7,c9,da,db,dc,dd,aU⟩:=Yf aS cJ cK cL cM cN cO cP cQ cR cS cT cU cI
 have aV:=aQ.tr aS
 refine KI (iv 0) rfl rfl (KS rfl rfl rr) (KM ?_)
 have aq:=K4 (iv k)
 have ar:=K4 (iv x)
 have au:=K4 (iv y)
 have ae:=K4 (undef)
 have de:=K4 (pt p1 0)
 have df:=K4 (pt ce 0)
 have aW:=K4 (pt aN 0)
 have aj:=K4 (pt ab 0)
 have aa:=K4 (pt ap 0)
 refine KG (VI (KJ (KH (KI (pt ab 0) rfl rfl (KU (n:=1) rfl aj Tryz.underlying71 rfl (by kernel_rfl) (by decide) rfl rr) (KI (iv (c.m)) rfl rfl (KY rfl rfl Tryz.underlying3 aU rfl rfl rr) (LW rfl rfl rfl rfl rfl (fun _ _=>by kernel_rfl) (Lk rfl LR) (Vh (c.m)  _ (hA.all aV)  ) fun fS aX=>?_))))))
 obtain⟨dg,dh,di,dj,dk,dl,aY,aZ,a8,dm,dn,a9,ba,bb⟩:=Ph aX cW cX cY cZ c5 c6 c7 c9 da db dc dd aU cV
 have bc:=aV.tr aX
 refine KI (.tuple #[.bool (Nl (c.m)),.bool (M7 (c.m))]) rfl rfl (KQ rfl rfl rr) (KI (.bool (Nl (c.m))) rfl rfl (LL rfl rfl rfl rr) (KI (.bool (M7 (c.m))) rfl rfl (LL rfl rfl rfl rr) (KI (.bool (Nl (c.m))) rfl rfl (KS rfl rfl rr) (KI (.bool (M7 (c.m))) rfl rfl (KS rfl rfl rr) (KM ?_)))))
 have af:=K4 (.bool (Nl (c.m)))
 have ak:=K4 (.bool (M7 (c.m)))
 refine KG (KJ (KH (L1 rfl rfl rfl KW.2.2 fun bd fT be bf bg=>?_)))
 have bh:=LS (Nat.le_of_eq be.symm)
 obtain⟨dp,dq,dr,dt,du,dv⟩:=Vr bh aY aZ a8 a9 ba bb
 clear be
 obtain⟨dw,dy,dz,dA,dB,dC,dD,dE,dF,dG,dH,dI,dJ,bi⟩:=Ph bg dg dh di dj dk dl aY aZ a8 dm dn a9 ba bb
 have bj:=bc.tr bg
 refine L1 rfl rfl rfl KW.2.2 fun bl bm bn dK az=>?_
 have aA:=LS (Nat.le_of_eq bn.symm)
 have bo:=KP.new bj aA
 obtain⟨bp,bq⟩:=TQ aA bi bf
 clear bn aA
 obtain⟨dL,dM,dN,dO,dP,dQ,dR,dS,dT,dU,dV,dW,aB,bt⟩:=Ph az dw dy dz dA dB dC dD dE dF dG dH dI dJ bi
 have dX:=bf.all az id
 have bu:=bj.tr az
 refine KM ?_
 have aC:=K4 (pt bd 0)
 have av:=K4 (pt bl 0)
 refine KG (KJ (KH (KI (iv 120) rfl rfl (KS rfl rfl rr) (KM ?_))))
 have dY:=K4 (iv 120)
 refine KG (KJ (KJ ?_))
 by_cases bv:0<=(c.m)/\(c.m)<7
 ·skip
  refine KH (KI (pt ab 0) rfl rfl (KU (n:=1) rfl aj Tryz.underlying71 rfl (by kernel_rfl) (by decide) rfl rr) (KI (iv (c.m)) rfl rfl (KY rfl rfl Tryz.underlying3 aB rfl rfl rr) (LB (R:=fun v_ w_=>v_ = .bool true/\KO (fun _=>False) bm w_) rfl rfl (LH rfl rfl rfl (fun _ _=>by kernel_rfl) (K5 _) (Lk rfl LR) (Qe (c.m)  _   ) (fun e_ w_ h_=>⟨_,h_.1,(congrArg Value.bool (decide_eq_true bv)),h_.2⟩)) ?_)))
  rintro _ fU ⟨rfl,aD⟩
  obtain⟨dZ,d8,d9,eb,ee,eh,bz,bA,bB,ei,ek,bC,aw,aE⟩:=Ph aD dL dM dN dO dP dQ dR dS dT dU dV dW aB bt
  obtain⟨en,bD⟩:=NA aD dX dK
  have aF:=bu.tr aD
  refine KI (.bool false) rfl rfl (L9 rfl rfl rfl rr) (KM ?_)
  have eo:=K4 (.bool false)
  refine KG ?_
  refine K6 (t:=false) eo (fun e=>by cases e) (fun _=>?_)
  refine Lg (KG (KJ (KJ ?_)))
  have hm7:0<=c.m/\c.m<7:=by first|assumption|(apply Decidable.byContradiction;assumption)
  refine KH (KR rfl rfl rfl af (KM ?_))
  have ep:=K4 (.bool (Nl (c.m)))
  refine KG ?_
  refine K6 ep (fun ah=>?_) (fun ah=>?_)
  ·skip
   refine KJ (KH (KI (.agg #[iv (g.W),iv (g.H),g0,g1,g2]) rfl rfl (KZ Lc rfl df ek rr) (KR rfl rfl rfl aq (KR rfl rfl rfl ar (KR rfl rfl rfl au (KI (pt ab 1) rfl rfl (KU (n:=2) rfl aj Tryz.underlying71 rfl (by kernel_rfl) (by decide) rfl rr) (KI (.agg #[iv (c.px),iv (c.py)]) rfl rfl (O4 (n:=2) LO rfl rfl aw (Nat.le_of_ble_eq_true rfl) rfl rr) (LW rfl rfl rfl rfl rfl (fun _ _=>by kernel_rfl) (Lk rfl (Lk rfl (Lk rfl (Lk rfl (Lk rfl LR))))) (S6 k x y (c.px) (c.py) g g0 g1 g2 T_g0 T_g1 T_g2 _  eb ee eh ) fun fV bE=>?_))))))))
   obtain⟨er,et,eu,ew,ex,ey,ez,eA⟩:=YR bE bz bA bB bC aw aE en bD
   refine KI (.tuple #[LJ (UH g k x y (c.px) (c.py)),iv (OW g k x y (c.px) (c.py))]) rfl rfl (KQ rfl rfl rr) (KI (LJ (UH g k x y (c.px) (c.py))) rfl rfl (LL rfl rfl rfl rr) (KI (iv (OW g k x y (c.px) (c.py))) rfl rfl (LL rfl rfl rfl rr) (Lp KW rfl rfl rfl aC rfl ez fun fW bF ai=>?_)))
   have eB:=er.all ai dp.symm
   have eC:=et.all ai dq.symm
   have eD:=eu.all ai dr.symm
   have eE:=ew.all ai (dt.symm aN rfl)
   have eF:=ex.all ai (du.symm ab rfl)
   have aG:=ey.all ai (dv.symm ap rfl)
   have eG:=eA.all ai (bq bl rfl)
   have aH:=(aF.tr bE).trans ai (KP.ok (S:=fun _=>False) (KP.new bc bh) K3)
   refine KI (iv (OW g k x y (c.px) (c.py))) rfl rfl (KS rfl rfl rr) (KM ?_)
   have bG:=K4 (iv (OW g k x y (c.px) (c.py)))
   refine KG (KJ (KH (KR rfl rfl rfl bG (KI (.bool (decide ((OW g k x y (c.px) (c.py))≠0))) rfl rfl (Mb rfl rfl rfl rfl rr) (KM ?_)))))
   have eH:=K4 (.bool (decide ((OW g k x y (c.px) (c.py))≠0)))
   refine KG ?_
   refine K6 eH (fun am=>?_) (fun am=>?_)
   ·replace am:=of_decide_eq_true am
    refine Ns (Mi ?_)
    refine MO ⟨_,rfl,?_⟩
    refine KJ (Lg (KG (KJ ?_)))
    first|have hR:=XC (f:=f) (p:=g) (n:=h) (k:=k) (x:=x) (y:=y) (c:=c) (by omega)|have hR:=TC (f:=f) (p:=g) (n:=h) (k:=k) (x:=x) (y:=y) (c:=c) (QM (by assumption)) (by assumption)|have hR:=Tc (f:=f) (p:=g) (n:=h) (k:=k) (x:=x) (y:=y) (c:=c) (by have a1:=TY (m:=c.m) (by assumption);have a2:=QV (m:=c.m) (by assumption);omega) (by assumption)|have hR:=TB (f:=f) (p:=g) (n:=h) (k:=k) (x:=x) (y:=y) (c:=c) (by have a1:=QM (m:=c.m) (by assumption);have a2:=QV (m:=c.m) (by assumption);omega) (by first|assumption|(apply Decidable.byContradiction;assumption)) (by assumption)
    refine KH (KI (LJ (fun _=>0)) rfl rfl (Mx (cells:=(L8 16 (fun _=>0)).toArray) rfl (by kernel_rfl) rfl rr) (KR rfl rfl rfl bG (Lp KW rfl rfl rfl aa rfl aG fun fX eI eJ=>?_)))
    refine KI (iv (OW g k x y (c.px) (c.py))) rfl rfl (KS rfl rfl rr) (KM ?_)
    have eK:=K4 (iv (OW g k x y (c.px) (c.py)))
    refine KG (Lb (M0 ?_))
    exact L7 ae rfl (Mq KW rfl aa eI) (Ly (v:=iv (OW g k x y (c.px) (c.py))) rfl eK) ⟨(by first|rw[hR.1,hR.2,he0]|rw[hR.1,hR.2]),(aH.trans eJ (KP.ok (S:=fun _=>False) ac K3))⟩
   ·replace am:=of_decide_eq_false am
    refine Lg (KG (KJ (KJ (KH (KR rfl rfl rfl ak (KM ?_))))))
    have eL:=K4 (.bool (M7 (c.m)))
    refine KG ?_
    refine K6 eL (fun aI=>?_) (fun aI=>?_)
    ·skip
     refine KJ (KH (KI (.agg #[iv (h.W),iv (h.H),h0,h1,h2]) rfl rfl (KZ Lc rfl aW eE rr) (KR rfl rfl rfl aq (KR rfl rfl rfl ar (KR rfl rfl rfl au (KI (pt ab 3) rfl rfl (KU (n:=2) rfl aj Tryz.underlying71 rfl (by kernel_rfl) (by decide) rfl rr) (KI (.agg #[iv (c.nx),iv (c.ny)]) rfl rfl (O4 (n:=2) LO rfl rfl eF (Nat.le_of_ble_eq_true rfl) rfl rr) (LW rfl rfl rfl rfl rfl (fun _ _=>by kernel_rfl) (Lk rfl (Lk rfl (Lk rfl (Lk rfl (Lk rfl LR))))) (S6 k x y (c.nx) (c.ny) h h0 h1 h2 T_h0 T_h1 T_h2 _  eB eC eD ) fun fY bH=>?_))))))))
     obtain⟨eM,eN,eO⟩:=Nu bH aG bF eG
     refine KI (.tuple #[LJ (UH h k x y (c.nx) (c.ny)),iv (OW h k x y (c.nx) (c.ny))]) rfl rfl (KQ rfl rfl rr) (KI (LJ (UH h k x y (c.nx) (c.ny))) rfl rfl (LL rfl rfl rfl rr) (KI (iv (OW h k x y (c.nx) (c.ny))) rfl rfl (LL rfl rfl rfl rr) (Lp KW rfl rfl rfl av rfl eO fun fZ eP aJ=>?_)))
     have bI:=eM.all aJ (bp.symm ap rfl)
     have eQ:=eN.all aJ (bq.symm bd rfl)
     have bJ:=(aH.tr bH).trans aJ (KP.ok (S:=fun _=>False) bo K3)
     refine KI (iv (OW h k x y (c.nx) (c.ny))) rfl rfl (KS rfl rfl rr) (KM ?_)
     have bK:=K4 (iv (OW h k x y (c.nx) (c.ny)))
     refine KG (KJ (KH (KR rfl rfl rfl bK (KI (.bool (decide ((OW h k x y (c.nx) (c.ny))≠0))) rfl rfl (Mb rfl rfl rfl rfl rr) (KM ?_)))))
     have eR:=K4 (.bool (decide ((OW h k x y (c.nx) (c.ny))≠0)))
     refine KG ?_
     refine K6 eR (fun an=>?_) (fun an=>?_)
     ·replace an:=of_decide_eq_true an
      refine Ns (Mi ?_)
      refine MO ⟨_,rfl,?_⟩
      refine KJ (Lg (KG (KJ ?_)))
      first|have hR:=XC (f:=f) (p:=g) (n:=h) (k:=k) (x:=x) (y:=y) (c:=c) (by omega)|have hR:=TC (f:=f) (p:=g) (n:=h) (k:=k) (x:=x) (y:=y) (c:=c) (QM (by assumption)) (by assumption)|have hR:=Tc (f:=f) (p:=g) (n:=h) (k:=k) (x:=x) (y:=y) (c:=c) (by have a1:=TY (m:=c.m) (by assumption);have a2:=QV (m:=c.m) (by assumption);omega) (by assumption)|have hR:=TB (f:=f) (p:=g) (n:=h) (k:=k) (x:=x) (y:=y) (c:=c) (by have a1:=QM (m:=c.m) (by assumption);have a2:=QV (m:=c.m) (by assumption);omega) (by first|assumption|(apply Decidable.byContradiction;assumption)) (by assumption)
      refine KH (KI (LJ (fun _=>0)) rfl rfl (Mx (cells:=(L8 16 (fun _=>0)).toArray) rfl (by kernel_rfl) rfl rr) (KR rfl rfl rfl bK (Lp KW rfl rfl rfl aa rfl bI fun f6 eS eT=>?_)))
      refine KI (iv (OW h k x y (c.nx) (c.ny))) rfl rfl (KS rfl rfl rr) (KM ?_)
      have eU:=K4 (iv (OW h k x y (c.nx) (c.ny)))
      refine KG (Lb (M0 ?_))
      exact L7 ae rfl (Mq KW rfl aa eS) (Ly (v:=iv (OW h k x y (c.nx) (c.ny))) rfl eU) ⟨(by first|rw[hR.1,hR.2,he0]|rw[hR.1,hR.2]),(bJ.trans eT (KP.ok (S:=fun _=>False) ac K3))⟩
     ·replace an:=of_decide_eq_false an
      refine Lg (KG (KJ (Lm (KJ (KH (KI (.bool true) rfl rfl (KQ rfl (Eq.trans af (congrArg Value.bool ah)) rr) (KI (.bool true) rfl rfl (KQ rfl rfl rr) (KT (.bool true) 1 true 59 rfl rfl rfl rfl rfl (KQ rfl (Eq.trans ak (congrArg Value.bool aI)) rr) (KI (.bool true) rfl rfl (Lo rfl rfl rfl rr) (KI (.bool true) rfl rfl (KS rfl rfl rr) (KM ?_)))))))))))
      have eV:=K4 (.bool true)
      refine KG ?_
      refine K6 (t:=true) eV (fun _=>?_) (fun e=>by cases e)
      refine KJ ?_
      have hR:=Z1 (f:=f) (p:=g) (n:=h) (k:=k) (x:=x) (y:=y) (c:=c) (by have a1:=QM (m:=c.m) (by assumption);have a2:=QV (m:=c.m) (by assumption);omega) (by first|assumption|(apply Decidable.byContradiction;assumption)) (by first|assumption|(apply Decidable.byContradiction;assumption))
      refine KH (KI (LJ (UH g k x y (c.px) (c.py))) rfl rfl (LY KW rfl aC eQ rr) (KI (LJ (UH h k x y (c.nx) (c.ny))) rfl rfl (LY KW rfl av eP rr) (LW rfl rfl rfl rfl rfl (fun _ _=>by kernel_rfl) (Lk rfl (Lk rfl LR)) (aCh (UH g k x y (c.px) (c.py)) (UH h k x y (c.nx) (c.ny))  _   ) fun f7 bL=>?_)))
      have eW:=bI.all bL id
      refine Lp KW rfl rfl rfl aa rfl eW fun f8 eX eY=>?_
      refine KI (iv 0) rfl rfl (KS rfl rfl rr) (KM ?_)
      have eZ:=K4 (iv 0)
      refine KG (Lb (NT (Lq (O9 ?_))))
      exact L7 ae rfl (Mq KW rfl aa eX) (Ly (v:=iv 0) rfl eZ) ⟨(by first|rw[hR.1,hR.2,he0]|rw[hR.1,hR.2]),((bJ.tr bL).trans eY (KP.ok (S:=fun _=>False) ac K3))⟩
    ·skip
     refine Lg (KG (KJ (Lm (KJ (KH (KI (.bool true) rfl rfl (KQ rfl (Eq.trans af (congrArg Value.bool ah)) rr) (KI (.bool true) rfl rfl (KQ rfl rfl rr) (KT (.bool false) 1 true 59 rfl rfl rfl rfl rfl (KQ rfl (Eq.trans ak (congrArg Value.bool aI)) rr) (KI (.bool false) rfl rfl (Lo rfl rfl rfl rr) (KI (.bool false) rfl rfl (KS rfl rfl rr) (KM ?_)))))))))))
     have e6:=K4 (.bool false)
     refine KG ?_
     refine K6 (t:=false) e6 (fun e=>by cases e) (fun _=>?_)
     refine KJ (KH (KI (.bool true) rfl rfl (KQ rfl (Eq.trans af (congrArg Value.bool ah)) rr) (KI (.bool true) rfl rfl (KS rfl rfl rr) (KM ?_))))
     have e7:=K4 (.bool true)
     refine KG ?_
     refine K6 (t:=true) e7 (fun _=>?_) (fun e=>by cases e)
     refine KJ ?_
     have hR:=UX (f:=f) (p:=g) (n:=h) (k:=k) (x:=x) (y:=y) (c:=c) (by have a1:=QM (m:=c.m) (by assumption);have a2:=aAO (m:=c.m) (by assumption);omega)
     have he0:=show OW g k x y c.px c.py=0 from (by first|assumption|(apply Decidable.byContradiction;assumption))
     refine KH (KI (LJ (UH g k x y (c.px) (c.py))) rfl rfl (LY KW rfl aC bF rr) (Lp KW rfl rfl rfl aa rfl aG fun f9 e8 e9=>?_))
     refine KI (iv 0) rfl rfl (KS rfl rfl rr) (KM ?_)
     have fa:=K4 (iv 0)
     refine KG (Lb (NT (Lq (O9 ?_))))
     exact L7 ae rfl (Mq KW rfl aa e8) (Ly (v:=iv 0) rfl fa) ⟨(by first|rw[hR.1,hR.2,he0]|rw[hR.1,hR.2]),(aH.trans e9 (KP.ok (S:=fun _=>False) ac K3))⟩
  ·skip
   refine Lg (KG (KJ (KJ (KH (KR rfl rfl rfl ak (KM ?_))))))
   have fb:=K4 (.bool (M7 (c.m)))
   refine KG ?_
   refine K6 fb (fun aK=>?_) (fun aK=>?_)
   ·skip
    refine KJ (KH (KI (.agg #[iv (h.W),iv (h.H),h0,h1,h2]) rfl rfl (KZ Lc rfl aW bC rr) (KR rfl rfl rfl aq (KR rfl rfl rfl ar (KR rfl rfl rfl au (KI (pt ab 3) rfl rfl (KU (n:=2) rfl aj Tryz.underlying71 rfl (by kernel_rfl) (by decide) rfl rr) (KI (.agg #[iv (c.nx),iv (c.ny)]) rfl rfl (O4 (n:=2) LO rfl rfl aw (Nat.le_of_ble_eq_true rfl) rfl rr) (LW rfl rfl rfl rfl rfl (fun _ _=>by kernel_rfl) (Lk rfl (Lk rfl (Lk rfl (Lk rfl (Lk rfl LR))))) (S6 k x y (c.nx) (c.ny) h h0 h1 h2 T_h0 T_h1 T_h2 _  bz bA bB ) fun ga bM=>?_))))))))
    obtain⟨fc,fd⟩:=NA bM aE bD
    refine KI (.tuple #[LJ (UH h k x y (c.nx) (c.ny)),iv (OW h k x y (c.nx) (c.ny))]) rfl rfl (KQ rfl rfl rr) (KI (LJ (UH h k x y (c.nx) (c.ny))) rfl rfl (LL rfl rfl rfl rr) (KI (iv (OW h k x y (c.nx) (c.ny))) rfl rfl (LL rfl rfl rfl rr) (Lp KW rfl rfl rfl av rfl fd fun gb fe bN=>?_)))
    have bO:=fc.all bN (bp.symm ap rfl)
    have bP:=(aF.tr bM).trans bN (KP.ok (S:=fun _=>False) bo K3)
    refine KI (iv (OW h k x y (c.nx) (c.ny))) rfl rfl (KS rfl rfl rr) (KM ?_)
    have bQ:=K4 (iv (OW h k x y (c.nx) (c.ny)))
    refine KG (KJ (KH (KR rfl rfl rfl bQ (KI (.bool (decide ((OW h k x y (c.nx) (c.ny))≠0))) rfl rfl (Mb rfl rfl rfl rfl rr) (KM ?_)))))
    have ff:=K4 (.bool (decide ((OW h k x y (c.nx) (c.ny))≠0)))
    refine KG ?_
    refine K6 ff (fun ao=>?_) (fun ao=>?_)
    ·replace ao:=of_decide_eq_true ao
     refine Ns (Mi ?_)
     refine MO ⟨_,rfl,?_⟩
     refine KJ (Lg (KG (KJ ?_)))
     first|have hR:=XC (f:=f) (p:=g) (n:=h) (k:=k) (x:=x) (y:=y) (c:=c) (by omega)|have hR:=TC (f:=f) (p:=g) (n:=h) (k:=k) (x:=x) (y:=y) (c:=c) (QM (by assumption)) (by assumption)|have hR:=Tc (f:=f) (p:=g) (n:=h) (k:=k) (x:=x) (y:=y) (c:=c) (by have a1:=TY (m:=c.m) (by assumption);have a2:=QV (m:=c.m) (by assumption);omega) (by assumption)|have hR:=TB (f:=f) (p:=g) (n:=h) (k:=k) (x:=x) (y:=y) (c:=c) (by have a1:=QM (m:=c.m) (by assumption);have a2:=QV (m:=c.m) (by assumption);omega) (by first|assumption|(apply Decidable.byContradiction;assumption)) (by assumption)
     refine KH (KI (LJ (fun _=>0)) rfl rfl (Mx (cells:=(L8 16 (fun _=>0)).toArray) rfl (by kernel_rfl) rfl rr) (KR rfl rfl rfl bQ (Lp KW rfl rfl rfl aa rfl bO fun gc fg fh=>?_)))
     refine KI (iv (OW h k x y (c.nx) (c.ny))) rfl rfl (KS rfl rfl rr) (KM ?_)
     have fk:=K4 (iv (OW h k x y (c.nx) (c.ny)))
     refine KG (Lb (M0 ?_))
     exact L7 ae rfl (Mq KW rfl aa fg) (Ly (v:=iv (OW h k x y (c.nx) (c.ny))) rfl fk) ⟨(by first|rw[hR.1,hR.2,he0]|rw[hR.1,hR.2]),(bP.trans fh (KP.ok (S:=fun _=>False) ac K3))⟩
    ·replace ao:=of_decide_eq_false ao
     refine Lg (KG (KJ (Lm (KJ (KH (KI (.bool false) rfl rfl (KQ rfl (Eq.trans af (congrArg Value.bool ah)) rr) (KI (.bool false) rfl rfl (KQ rfl rfl rr) (KN 1 true 59 rfl rfl rfl (Or.inl rfl) rfl (KI (.bool false) rfl rfl (Li rfl rfl rfl rr) (KI (.bool false) rfl rfl (KS rfl rfl rr) (KM ?_)))))))))))
     have fm:=K4 (.bool false)
     refine KG ?_
     refine K6 (t:=false) fm (fun e=>by cases e) (fun _=>?_)
     refine KJ (KH (KI (.bool false) rfl rfl (KQ rfl (Eq.trans af (congrArg Value.bool ah)) rr) (KI (.bool false) rfl rfl (KS rfl rfl rr) (KM ?_))))
     have fo:=K4 (.bool false)
     refine KG ?_
     refine K6 (t:=false) fo (fun e=>by cases e) (fun _=>?_)
     refine KJ (KH (KI (.bool true) rfl rfl (KQ rfl (Eq.trans ak (congrArg Value.bool aK)) rr) (KI (.bool true) rfl rfl (KS rfl rfl rr) (KM ?_))))
     have fp:=K4 (.bool true)
     refine KG ?_
     refine K6 (t:=true) fp (fun _=>?_) (fun e=>by cases e)
     refine KJ ?_
     have hR:=U6 (f:=f) (p:=g) (n:=h) (k:=k) (x:=x) (y:=y) (c:=c) (by have a1:=TY (m:=c.m) (by assumption);have a2:=QV (m:=c.m) (by assumption);omega)
     have he0:=show OW h k x y c.nx c.ny=0 from (by first|assumption|(apply Decidable.byContradiction;assumption))
     refine KH (KI (LJ (UH h k x y (c.nx) (c.ny))) rfl rfl (LY KW rfl av fe rr) (Lp KW rfl rfl rfl aa rfl bO fun gd fq ft=>?_))
     refine KI (iv 0) rfl rfl (KS rfl rfl rr) (KM ?_)
     have fu:=K4 (iv 0)
     refine KG (Lb (NT (Lq (O9 ?_))))
     exact L7 ae rfl (Mq KW rfl aa fq) (Ly (v:=iv 0) rfl fu) ⟨(by first|rw[hR.1,hR.2,he0]|rw[hR.1,hR.2]),(bP.trans ft (KP.ok (S:=fun _=>False) ac K3))⟩
   ·skip
    refine Lg (KG (KJ (Lm (KJ (KH (KI (.bool false) rfl rfl (KQ rfl (Eq.trans af (congrArg Value.bool ah)) rr) (KI (.bool false) rfl rfl (KQ rfl rfl rr) (KN 1 true 59 rfl rfl rfl (Or.inl rfl) rfl (KI (.bool false) rfl rfl (Li rfl rfl rfl rr) (KI (.bool false) rfl rfl (KS rfl rfl rr) (KM ?_)))))))))))
    have fw:=K4 (.bool false)
    refine KG ?_
    refine K6 (t:=false) fw (fun e=>by cases e) (fun _=>?_)
    refine KJ (KH (KI (.bool false) rfl rfl (KQ rfl (Eq.trans af (congrArg Value.bool ah)) rr) (KI (.bool false) rfl rfl (KS rfl rfl rr) (KM ?_))))
    have fx:=K4 (.bool false)
    refine KG ?_
    refine K6 (t:=false) fx (fun e=>by cases e) (fun _=>?_)
    refine KJ (KH (KI (.bool false) rfl rfl (KQ rfl (Eq.trans ak (congrArg Value.bool aK)) rr) (KI (.bool false) rfl rfl (KS rfl rfl rr) (KM ?_))))
    have fy:=K4 (.bool false)
    refine KG ?_
    refine K6 (t:=false) fy (fun e=>by cases e) (fun _=>?_)
    refine Lg (LC (KG (KJ (KJ ?_))))
    have hR:=aAE (f:=f) (p:=g) (n:=h) (k:=k) (x:=x) (y:=y) (c:=c) (by have a1:=TY (m:=c.m) (by assumption);have a2:=aAO (m:=c.m) (by assumption);omega)
    refine KH (KI (.agg #[iv (f.W),iv (f.H),f0,f1,f2]) rfl rfl (KZ Lc rfl de ei rr) (KR rfl rfl rfl aq (KR rfl rfl rfl ar (KR rfl rfl rfl au (KI (pt ab 0) rfl rfl (KU (n:=1) rfl aj Tryz.underlying71 rfl (by kernel_rfl) (by decide) rfl rr) (KI (iv (c.m)) rfl rfl (KY rfl rfl Tryz.underlying3 aw rfl rfl rr) (LW rfl rfl rfl rfl rfl (fun _ _=>by kernel_rfl) (Lk rfl (Lk rfl (Lk rfl (Lk rfl (Lk rfl LR))))) (YY k x y (c.m) f f0 f1 f2 T_f0 T_f1 T_f2 _  dZ d8 d9 ) fun ge bR=>?_)))))))
    have fA:=aE.all bR id
    refine KI (LJ (Vj f k x y (c.m))) rfl rfl (LL rfl rfl rfl rr) (KI (iv (RK f k x y (c.m))) rfl rfl (LL rfl rfl rfl rr) (Lp KW rfl rfl rfl aa rfl fA fun gh fB fC=>?_))
    refine KI (iv (RK f k x y (c.m))) rfl rfl (KS rfl rfl rr) (KM ?_)
    have fD:=K4 (iv (RK f k x y (c.m)))
    refine KG (Lb (Lq (O9 ?_)))
    exact L7 ae rfl (Mq KW rfl aa fB) (Ly (v:=iv (RK f k x y (c.m))) rfl fD) ⟨(by first|rw[hR.1,hR.2,he0]|rw[hR.1,hR.2]),((aF.tr bR).trans fC (KP.ok (S:=fun _=>False) ac K3))⟩
 ·skip
  refine KH (KI (pt ab 0) rfl rfl (KU (n:=1) rfl aj Tryz.underlying71 rfl (by kernel_rfl) (by decide) rfl rr) (KI (iv (c.m)) rfl rfl (KY rfl rfl Tryz.underlying3 aB rfl rfl rr) (LB (R:=fun v_ w_=>v_ = .bool false/\KO (fun _=>False) bm w_) rfl rfl (LH rfl rfl rfl (fun _ _=>by kernel_rfl) (K5 _) (Lk rfl LR) (Qe (c.m)  _   ) (fun e_ w_ h_=>⟨_,h_.1,(congrArg Value.bool (decide_eq_false bv)),h_.2⟩)) ?_)))
  rintro _ gi ⟨rfl,bS⟩
  have fE:=bt.all bS id
  refine KI (.bool true) rfl rfl (L9 rfl rfl rfl rr) (KM ?_)
  have fF:=K4 (.bool true)
  refine KG ?_
  refine K6 (t:=true) fF (fun _=>?_) (fun e=>by cases e)
  refine Ns (Mi ?_)
  refine MO ⟨_,rfl,?_⟩
  refine KJ (Lg (KG (KJ ?_)))
  first|have hR:=XC (f:=f) (p:=g) (n:=h) (k:=k) (x:=x) (y:=y) (c:=c) (by omega)|have hR:=TC (f:=f) (p:=g) (n:=h) (k:=k) (x:=x) (y:=y) (c:=c) (QM (by assumption)) (by assumption)|have hR:=Tc (f:=f) (p:=g) (n:=h) (k:=k) (x:=x) (y:=y) (c:=c) (by have a1:=TY (m:=c.m) (by assumption);have a2:=QV (m:=c.m) (by assumption);omega) (by assumption)|have hR:=TB (f:=f) (p:=g) (n:=h) (k:=k) (x:=x) (y:=y) (c:=c) (by have a1:=QM (m:=c.m) (by assumption);have a2:=QV (m:=c.m) (by assumption);omega) (by first|assumption|(apply Decidable.byContradiction;assumption)) (by assumption)
  refine KH (KI (LJ (fun _=>0)) rfl rfl (Mx (cells:=(L8 16 (fun _=>0)).toArray) rfl (by kernel_rfl) rfl rr) (KR rfl rfl rfl dY (Lp KW rfl rfl rfl aa rfl fE fun gj fG fH=>?_)))
  refine KI (iv 120) rfl rfl (KS rfl rfl rr) (KM ?_)
  have fI:=K4 (iv 120)
  refine KG (Lb (M0 ?_))
  exact L7 ae rfl (Mq KW rfl aa fG) (Ly (v:=iv 120) rfl fI) ⟨(by first|rw[hR.1,hR.2,he0]|rw[hR.1,hR.2]),((bu.tr bS).trans fH (KP.ok (S:=fun _=>False) ac K3))⟩
theorem aBx(l:List Nat)(n:Int)(s:Option Nat):0<=(Ll (Lw l n) s).1:=by
 cases s with
 | none=>simp[Ll]
 | some a =>
  cases h:Mn l a with
  | none=>simp[Ll,Lw,h]
  | some p =>
   obtain⟨v,a'⟩:=p
   have hb:=Q6 l a v a' h
   by_cases hv:n<v
   ·simp[Ll,Lw,h,hv]
   ·simp[Ll,Lw,h,hv];exact hb.1
theorem PQ{l:List Nat}{k ax ay bx yy m:Int}{st s1:Option Nat}(hm:m=(Ll (Lw l 6) st).1)(hs:s1=(Ll (Lw l 6) st).2)(h:s1.isNone=true\/¬ (0<=m/\m<=NJ k)):∃ s,Re l k ax ay bx yy st=(ch0,120,s):=by
 have h0:=aBx l 6 st
 have e:=Uy (l:=l) (U8 k) st
 rw[if_pos (by rw[← hm,← hs];rw[← hm] at h0;rcases h with h|h;exact .inl h;exact .inr (by omega))] at e
 exact⟨none,by unfold Re;rw[e];unfold rd1;exact if_pos rfl⟩
theorem aCf{l:List Nat}{k ax ay bx yy m:Int}{st s1:Option Nat}(hm:m=(Ll (Lw l 6) st).1)(hs:s1=(Ll (Lw l 6) st).2)(h1:s1.isNone=false)(h2:0<=m/\m<=NJ k):Re l k ax ay bx yy st=XE l m bx yy (ZK (Nl m) l ax ay s1):=by
 have e:=Uy (l:=l) (U8 k) st
 rw[if_neg (by rw[← hm,← hs,h1];rintro (h|h);cases h;omega)] at e
 unfold Re;rw[e];unfold rd1
 rw[if_neg (by rw[← hs,h1];exact Bool.false_ne_true),← hm,← hs]
theorem aCs(p:Nat)(l:List Nat)(st:Option Nat)(k ax ay bx yy:Int)(T_r:Nat->Prop)(w0:World)(hA:NO w0)(hO:Of w0)(hG:∀ i,T_r i->5<=i)(h_r:Pr w0 T_r p (l) (st)) :
  Calls Tryz.prog 62 #[.pointer (some ⟨p,0,none⟩),.int .i64 (k),.agg #[.int .i64 (ax),.int .i64 (ay)],.agg #[.int .i64 (bx),.int .i64 (yy)]] w0 fun e w'=>∃ (T_r':Nat->Prop),e = .returned (.tuple #[.agg (O1 ((Re l k ax ay bx yy st).1)).toArray,.int .i64 ((Re l k ax ay bx yy st).2.1)])/\KO (T_r) w0 w'/\(Pr w' T_r' p (l) (MT l k ax ay bx yy st)/\KP w0 T_r T_r'):=by
 refine Lr (args:=[pt p 0,iv k,.agg #[iv ax,iv ay],.agg #[iv bx,iv yy]]) 68 Tryz.func62 rfl rfl (Nat.le_of_ble_eq_true rfl) ?_
 obtain⟨m,hm⟩:∃ m,m=(Ll (Lw l 6) st).1:=⟨_,rfl⟩
 obtain⟨s1,hs1⟩:∃ s,s=(Ll (Lw l 6) st).2:=⟨_,rfl⟩
 have g_r:=KP.refl w0 T_r
 refine KJ (KH (Lz (vs:=[iv ax,iv ay]) rfl rfl rfl rfl fun p1 w2 B4 g5 k3=>?_))
 have cy:=KK.new g5 h_r.live
 have B8:=h_r.all k3 KK.none
 refine Lz (vs:=[iv bx,iv yy]) rfl rfl rfl rfl fun ar kS fh fk cA=>?_
 have cB:=KK.new fk B8.live
 obtain⟨cC,fm⟩:=NA cA B8 B4
 have cD:=((KO.refl T_r w0).tr k3).tr cA
 refine LF (n:=21) (vs:=(Oe 0 0 0 0 0 (fun _=>(0:Int)))) rfl rfl rfl (by kernel_rfl) fun ac kT cE cF cG=>?_
 have an:=KP.new cD cF
 have cH:=KK.new cF cC.live
 obtain⟨fo,cI,cJ⟩:=Nu cG cC fm fh
 have cK:=cD.tr cG
 refine KI (iv 0) rfl rfl (KS rfl rfl rr) (KM ?_)
 have aE:=K4 (pt p 0)
 have cL:=K4 (iv k)
 have ao:=K4 (undef)
 have fp:=K4 (pt p1 0)
 have cM:=K4 (pt ar 0)
 have af:=K4 (pt ac 0)
 refine KG (VI (KJ (KJ (KH (KR rfl rfl rfl aE (KI (.bool false) rfl rfl (Ry rfl rfl rfl Tryz.underlying54 rr) (KM ?_)))))))
 have fq:=K4 (.bool false)
 refine KG ?_
 refine K6 (t:=false) fq (fun e=>by cases e) (fun _=>?_)
 refine Lg (KG (KJ ?_))
 obtain⟨g,a,b,hf,hT,hok,hp,hg,hap⟩:=aA1 fo
 have ft:KP w0 T_r (Lf p):=fun i h=>g_r i ((fun i h=>(hT i).2 (Or.inl h)) i h)
 have fu:KK (Lf p) (Lf p1):=fun i h=>cy.symm i ((fun i h=>(hT i).2 (Or.inl h)) i h)
 have fw:KK (Lf p) (Lf ar):=fun i h=>cB.symm i ((fun i h=>(hT i).2 (Or.inl h)) i h)
 have fx:KK (Lf p) (Lf ac):=fun i h=>cH.symm i ((fun i h=>(hT i).2 (Or.inl h)) i h)
 have fy:KP w0 T_r (Lf g):=fun i h=>g_r i ((fun i h=>(hT i).2 (Or.inr h)) i h)
 have fA:KK (Lf g) (Lf p1):=fun i h=>cy.symm i ((fun i h=>(hT i).2 (Or.inr h)) i h)
 have fB:KK (Lf g) (Lf ar):=fun i h=>cB.symm i ((fun i h=>(hT i).2 (Or.inr h)) i h)
 have fC:KK (Lf g) (Lf ac):=fun i h=>cH.symm i ((fun i h=>(hT i).2 (Or.inr h)) i h)
 have fD:KK (Lf p) (Lf g):=hap
 refine KH (KR rfl rfl rfl aE (KI (pt p 0) rfl rfl (Ol rfl rfl rr) (KI (.agg #[.slice (some ⟨g,0,none⟩) l.length l.length,iv ((a:Nat):Int),.bool b]) rfl rfl (KZ ML rfl rfl hp rr) (LF (n:=3) (vs:=[.slice none 0 0,iv ((0:Nat):Int),.bool false]) rfl rfl rfl (by kernel_rfl) fun ae kV fE cN cO=>?_))))
 have cP:=KP.new cK cN
 obtain⟨cQ,cR,cS,cT,cU⟩:=azc cN cI cJ cE hp hg
 obtain⟨fF,fG,fH,fI,fJ⟩:=OU cO cI cJ cE hp hg
 refine Lj (us:=[.slice (some ⟨g,0,none⟩) l.length l.length,iv ((a:Nat):Int),.bool b]) ML rfl rfl rfl rfl rfl fE rfl (KX rfl (KX rfl (KX rfl MG))) fun bA fK aF=>?_
 have fL:=fF.all aF (cQ.symm p1 rfl)
 have cV:=fG.all aF (cR.symm ar rfl)
 have cW:=fH.all aF (cS.symm ac rfl)
 have fM:=fI.all aF (cT.symm p rfl)
 have fN:=fJ.all aF cU.symm
 have cX:=(cK.tr cO).trans aF (KP.ok (S:=T_r) cP K3)
 refine KM ?_
 have ak:=K4 (pt ae 0)
 refine KG (KJ ?_)
 have fO:PJ bA (fun i=>(Lf p) i\/((Lf ae) i\/((Lf g) i))) ae l st ([(p,st)]):=ayT hf hok fM fK fN cT.symm fD cU
 have cY:KP w0 T_r (fun i=>(Lf p) i\/((Lf ae) i\/((Lf g) i))):=fun i h=>h.elim (fun y=>ft i y) (fun y=>y.elim (fun y=>(KP.weak cP (fun _ z=>z.elim)) i y) (fun y=>fy i y))
 have fP:KK (fun i=>(Lf p) i\/((Lf ae) i\/((Lf g) i))) (Lf p1):=fun i h=>h.elim (fun y=>fu i y) (fun y=>y.elim (fun y=>cQ i y) (fun y=>fA i y))
 have cZ:KK (fun i=>(Lf p) i\/((Lf ae) i\/((Lf g) i))) (Lf ar):=fun i h=>h.elim (fun y=>fw i y) (fun y=>y.elim (fun y=>cR i y) (fun y=>fB i y))
 have c5:KK (fun i=>(Lf p) i\/((Lf ae) i\/((Lf g) i))) (Lf ac):=fun i h=>h.elim (fun y=>fx i y) (fun y=>y.elim (fun y=>cS i y) (fun y=>fC i y))
 refine KH (LB (R:=fun v_ w_=>∃ (aj:Nat->Prop),iv m=v_/\KO (fun i=>(Lf p) i\/((Lf ae) i\/((Lf g) i))) bA w_/\(PJ w_ aj ae l ((Ll (Lw l 6) st).2) ([(p,st)])/\KP bA (fun i=>(Lf p) i\/((Lf ae) i\/((Lf g) i))) aj)) rfl rfl (LH rfl rfl rfl (fun _ _=>by kernel_rfl) (K5 _) (Lk ak (Lk rfl LR)) (Ug ae l st ([(p,st)]) 6 (fun i=>(Lf p) i\/((Lf ae) i\/((Lf g) i))) _  fO ) (fun e_ w_ h_=>by obtain⟨T112_,he_,hr_⟩:=h_;exact⟨_,he_,T112_,(congrArg (Value.int .i64) hm.symm).symm,hr_⟩)) ?_)
 rintro _ kW ⟨aj,rfl,a8,⟨c6,c7⟩⟩
 have c9:=fL.all a8 (fP.symm p1 rfl)
 have da:=cV.all a8 (cZ.symm ar rfl)
 have db:=cW.all a8 (c5.symm ac rfl)
 have dc:=cX.trans a8 (fun i hi x=>((KP.ok (S:=T_r) cY (fun _ x=>x)) i hi x))
 have ap:=cY.trans cX c7
 obtain⟨fQ,aq⟩:=VN c7 cZ cV c5 cW
 refine KI (.agg (Oe m 0 0 0 0 (fun _=>(0:Int))).toArray) rfl rfl (LZ (l':=[(0,iv m)]) (cells:=(Oe m 0 0 0 0 (fun _=>(0:Int))).toArray) rfl (S7 rfl Rv) (by kernel_rfl) rfl rr) (LF (n:=21) (vs:=(Oe 0 0 0 0 0 (fun _=>(0:Int)))) rfl rfl rfl (by kernel_rfl) fun ah kX fR dd de=>?_)
 have av:=KP.new dc dd
 obtain⟨fS,df,aw,aB⟩:=Wj dd c9 da db c6
 obtain⟨fT,fU,fV,fW⟩:=OV de c9 da db c6
 refine Lj (us:=(Oe m 0 0 0 0 (fun _=>(0:Int)))) LE rfl rfl rfl rfl rfl fR rfl (KX rfl (KX rfl (KX rfl (KX rfl (KX rfl (KX rfl (KX rfl (KX rfl (KX rfl (KX rfl (KX rfl (KX rfl (KX rfl (KX rfl (KX rfl (KX rfl (KX rfl (KX rfl (KX rfl (KX rfl (KX rfl MG))))))))))))))))))))) fun fX dg aO=>?_
 have fY:=fT.all aO (fS.symm p1 rfl)
 have fZ:=fU.all aO (df.symm ar rfl)
 have f6:=fV.all aO (aw.symm ac rfl)
 have f7:=fW.all aO aB.symm
 have dh:=(dc.tr de).trans aO (KP.ok (S:=T_r) av K3)
 refine KM ?_
 have am:=K4 (pt ah 0)
 refine KG (KJ ?_)
 have f8:PJ fX aj ae l s1 ([(p,st)]):=(by rw[hs1];exact f7)
 refine KH (KI (pt ah 0) rfl rfl (KU (n:=1) rfl am Tryz.underlying71 rfl (by kernel_rfl) (by decide) rfl rr) (KI (iv m) rfl rfl (KY rfl rfl Tryz.underlying3 dg rfl rfl rr) (LW rfl rfl rfl rfl rfl (fun _ _=>by kernel_rfl) (Lk rfl LR) (Vh m  _ (hA.but dh hG)  ) fun bB di=>?_)))
 obtain⟨f9,ga,bC,aG,dj⟩:=OU di fY fZ f6 f8 dg
 have bD:=dh.tr di
 refine KI (.tuple #[.bool (Nl m),.bool (M7 m)]) rfl rfl (KQ rfl rfl rr) (KI (.bool (Nl m)) rfl rfl (LL rfl rfl rfl rr) (KI (.bool (M7 m)) rfl rfl (LL rfl rfl rfl rr) (KI (.bool (Nl m)) rfl rfl (KS rfl rfl rr) (KI (.bool (M7 m)) rfl rfl (KS rfl rfl rr) (KM ?_)))))
 have gb:=K4 (.bool (Nl m))
 have dk:=K4 (.bool (M7 m))
 refine KG (KJ (KH (KI (iv 120) rfl rfl (KS rfl rfl rr) (KM ?_))))
 have dl:=K4 (iv 120)
 refine KG (KJ (KJ ?_))
 rcases Bool.eq_false_or_eq_true (s1.isNone) with a9|a9
 ·skip
  refine KH (LB (R:=fun v_ w_=>v_ = .bool true/\KO (fun _=>False) bB w_) rfl rfl (LH rfl rfl rfl (fun _ _=>by kernel_rfl) (K5 _) (Lk ak LR) (RF ae l s1 ([(p,st)]) aj _  aG ) (fun e_ w_ h_=>⟨_,h_.1,(congrArg Value.bool a9),h_.2⟩)) ?_)
  rintro _ kY ⟨rfl,dm⟩
  obtain⟨gc,gd⟩:=NA dm bC aG
  refine KI (.bool true) rfl rfl (KQ rfl rfl rr) (KN 1 false 30 rfl rfl rfl (Or.inl rfl) rfl (KN 1 false 30 rfl rfl rfl (Or.inl rfl) rfl (KN 1 false 30 rfl rfl rfl (Or.inl rfl) rfl (KN 1 false 30 rfl rfl rfl (Or.inl rfl) rfl (KN 1 false 30 rfl rfl rfl (Or.inl rfl) rfl (KI (.bool true) rfl rfl (Lo rfl rfl rfl rr) (KM ?_)))))))
  have ge:=K4 (.bool true)
  refine KG ?_
  refine K6 (t:=true) ge (fun _=>?_) (fun e=>by cases e)
  refine Ns (Mi ?_)
  refine MO ⟨_,rfl,?_⟩
  refine KJ (Lg (KG (KJ ?_)))
  first|have hR:=h1.trans (by unfold XE;exact if_neg (by assumption))|have hR:=h1.trans (by unfold UO;exact if_neg (by assumption))|have hR:=h1.trans (by unfold Yi;exact if_neg (by assumption))|(have hRR:=PQ (l:=l) (k:=k) (ax:=ax) (ay:=ay) (bx:=bx) (yy:=yy) hm hs1 (by first|exact Or.inl (by assumption)|exact Or.inr (by assumption));obtain⟨s9,hR⟩:=hRR)
  have hT0:MT l k ax ay bx yy st=st:=by unfold MT;rw[hR];exact if_neg (by first|assumption|(intro z;exact absurd (show (120:Int)=0 from z) (by decide)))
  obtain⟨g2,a1,b1,a2,b2,hf2,hT2,ho1,ho2,ai,hq2,hg2,ap1_,ap2_,ap3_⟩:=NS gd
  have gh:KP w0 T_r (Lf p):=fun i h=>ap i ((fun i h=>(hT2 i).2 (Or.inl h)) i h)
  have gi:KK (Lf p) (Lf ac):=fun i h=>aq i ((fun i h=>(hT2 i).2 (Or.inl h)) i h)
  have gj:KP w0 T_r (Lf g2):=fun i h=>ap i ((fun i h=>(hT2 i).2 (Or.inr (Or.inr h))) i h)
  have gl:KK (Lf g2) (Lf ac):=fun i h=>aq i ((fun i h=>(hT2 i).2 (Or.inr (Or.inr h))) i h)
  have dn:KK (Lf p) (Lf g2):=ap2_
  refine KH (KI (.agg (Oe 0 0 0 0 0 (fun _=>(0:Int))).toArray) rfl rfl (LZ (l':=[]) (cells:=(Oe 0 0 0 0 0 (fun _=>(0:Int))).toArray) rfl Rv (by kernel_rfl) rfl rr) (KR rfl rfl rfl dl (Lj (us:=(Oe 0 0 0 0 0 (fun _=>(0:Int)))) LE rfl rfl rfl af rfl gc rfl (KX rfl (KX rfl (KX rfl (KX rfl (KX rfl (KX rfl (KX rfl (KX rfl (KX rfl (KX rfl (KX rfl (KX rfl (KX rfl (KX rfl (KX rfl (KX rfl (KX rfl (KX rfl (KX rfl (KX rfl (KX rfl MG))))))))))))))))))))) fun gm gn bE=>?_)))
  have dp:=ai.all bE (gi p rfl)
  have dq:=hg2.all bE gl
  refine KI (iv 120) rfl rfl (KS rfl rfl rr) (KM ?_)
  have go:=K4 (iv 120)
  refine KG (Lb (M0 ?_))
  have gp:Pr gm (fun i=>(Lf p) i\/((Lf g2) i)) p l (MT l k ax ay bx yy st):=(by rw[hT0];first|exact Mo hf2 ho1 dp dq dn|exact Mo hf2 ho2 dp dq dn)
  have gq:KP w0 T_r (fun i=>(Lf p) i\/((Lf g2) i)):=fun i h=>h.elim (fun y=>gh i y) (fun y=>gj i y)
  exact L7 ao rfl (MK (vs:=(Oe 0 0 0 0 0 (fun _=>(0:Int)))) LE rfl af gn) (Ly (v:=iv 120) rfl go) ⟨(fun i=>(Lf p) i\/((Lf g2) i)),(by rw[hR] <;> rfl),((bD.tr dm).trans bE (KP.ok (S:=T_r) an K3)),⟨gp,gq⟩⟩
 ·skip
  by_cases dr:0<=m/\m<=NJ k
  ·skip
   refine KH (LB (R:=fun v_ w_=>v_ = .bool false/\KO (fun _=>False) bB w_) rfl rfl (LH rfl rfl rfl (fun _ _=>by kernel_rfl) (K5 _) (Lk ak LR) (RF ae l s1 ([(p,st)]) aj _  aG ) (fun e_ w_ h_=>⟨_,h_.1,(congrArg Value.bool a9),h_.2⟩)) ?_)
   rintro _ gr ⟨rfl,dt⟩
   obtain⟨gt,gu,gv,gw,du⟩:=OU dt f9 ga bC aG dj
   have dv:=bD.tr dt
   refine KI (.bool false) rfl rfl (KQ rfl rfl rr) (KT (iv k) 1 false 30 rfl rfl rfl rfl rfl (KQ rfl cL rr) (KT (pt ah 0) 1 false 30 rfl rfl rfl rfl rfl (KU (n:=1) rfl am Tryz.underlying71 rfl (by kernel_rfl) (by decide) rfl rr) (KT (iv m) 1 false 30 rfl rfl rfl rfl rfl (KY rfl rfl Tryz.underlying3 du rfl rfl rr) (LN (R:=fun v_ w_=>v_ = .bool true/\KO (fun _=>False) gr w_) 1 false 30 rfl rfl rfl rfl rfl (LH rfl rfl rfl (fun _ _=>by kernel_rfl) (K5 _) (Lk rfl (Lk rfl LR)) (aBc k m  _ (hA.but dv hG)  ) (fun e_ w_ h_=>⟨_,h_.1,(congrArg Value.bool (decide_eq_true dr)),h_.2⟩)) ?_))))
   rintro _ aH ⟨rfl,dw⟩
   obtain⟨gz,dy,aI,bF,aJ⟩:=OU dw gt gu gv gw du
   have aC:=dv.tr dw
   refine KT (.bool false) 1 false 30 rfl rfl rfl rfl rfl (L9 rfl rfl rfl rr) (KI (.bool false) rfl rfl (Li rfl rfl rfl rr) (KM ?_))
   have gA:=K4 (.bool false)
   refine KG ?_
   refine K6 (t:=false) gA (fun e=>by cases e) (fun _=>?_)
   refine Lg (KG (KJ (KJ ?_)))
   have h1:=aCf (l:=l) (k:=k) (ax:=ax) (ay:=ay) (bx:=bx) (yy:=yy) hm hs1 (by assumption) (by assumption)
   refine KH (KR rfl rfl rfl gb (KM ?_))
   have gB:=K4 (.bool (Nl m))
   refine KG ?_
   refine K6 gB (fun gC=>?_) (fun gC=>?_)
   ·skip
    refine KJ ?_
    rw[RC (has:=Nl m) (by assumption)] at h1
    refine KH (KI (.agg #[iv ax,iv ay]) rfl rfl (KZ LO rfl fp gz rr) (LB (R:=fun v_ w_=>∃ (au:Nat->Prop),.tuple #[.agg #[iv (Rh l ax ay s1),iv (Ri l ax ay s1)],iv (PN l ax ay s1)]=v_/\KO aj aH w_/\(PJ w_ au ae l (MQ l ax ay s1) ([(p,st)])/\KP aH aj au)) rfl rfl (LH rfl rfl rfl (fun _ _=>by kernel_rfl) (K5 _) (Lk ak (Lk rfl LR)) (Vu ae l s1 ([(p,st)]) ax ay aj _  bF ) (fun e_ w_ h_=>by obtain⟨T325_,he_,hr_⟩:=h_;exact⟨_,he_,T325_,rfl,hr_⟩)) ?_))
    rintro _ kZ ⟨au,rfl,ba,⟨gD,dz⟩⟩
    have gE:=dy.all ba (fQ.symm ar rfl)
    have gF:=aI.all ba (aq.symm ac rfl)
    have gG:=aJ.all ba (aB ah rfl)
    have aD:=ap.trans aC dz
    obtain⟨aK,aP⟩:=VN dz aq aI (aB.symm) aJ
    refine KI (.tuple #[.agg #[iv (Rh l ax ay s1),iv (Ri l ax ay s1)],iv (PN l ax ay s1)]) rfl rfl (KQ rfl rfl rr) (KI (.agg #[iv (Rh l ax ay s1),iv (Ri l ax ay s1)]) rfl rfl (LL rfl rfl rfl rr) (KI (iv (PN l ax ay s1)) rfl rfl (LL rfl rfl rfl rr) (KI (pt ah 1) rfl rfl (KU (n:=2) rfl am Tryz.underlying71 rfl (by kernel_rfl) (by decide) rfl rr) (OH (us:=[iv (Rh l ax ay s1),iv (Ri l ax ay s1)]) (ns:=(Oe m (Rh l ax ay s1) (Ri l ax ay s1) 0 0 (fun _=>(0:Int)))) LO rfl rfl rfl rfl rfl gG (Nat.le_of_ble_eq_true rfl) (KX rfl (KX rfl MG)) rfl fun bb bc bd=>?_))))
    have gH:=gE.all bd (df.symm ar rfl)
    have aQ:=gF.all bd (aw.symm ac rfl)
    have bG:=gD.all bd aP
    have aL:=(aC.trans ba (fun i hi x=>((KP.ok (S:=T_r) ap (fun _ x=>x)) i hi x))).trans bd (KP.ok (S:=T_r) av K3)
    refine KI (iv (PN l ax ay s1)) rfl rfl (KS rfl rfl rr) (KM ?_)
    have dA:=K4 (iv (PN l ax ay s1))
    refine KG (KJ (KH (KR rfl rfl rfl dA (KI (.bool (decide ((PN l ax ay s1)≠0))) rfl rfl (Mb rfl rfl rfl rfl rr) (KM ?_)))))
    have gI:=K4 (.bool (decide ((PN l ax ay s1)≠0)))
    refine KG ?_
    refine K6 gI (fun aR=>?_) (fun aR=>?_)
    ·replace aR:=of_decide_eq_true aR
     refine Ns (Mi ?_)
     refine MO ⟨_,rfl,?_⟩
     refine KJ (Lg (KG (KJ ?_)))
     first|have hR:=h1.trans (by unfold XE;exact if_neg (by assumption))|have hR:=h1.trans (by unfold UO;exact if_neg (by assumption))|have hR:=h1.trans (by unfold Yi;exact if_neg (by assumption))|(have hRR:=PQ (l:=l) (k:=k) (ax:=ax) (ay:=ay) (bx:=bx) (yy:=yy) hm hs1 (by first|exact Or.inl (by assumption)|exact Or.inr (by assumption));obtain⟨s9,hR⟩:=hRR)
     have hT0:MT l k ax ay bx yy st=st:=by unfold MT;rw[hR];exact if_neg (by first|assumption|(intro z;exact absurd (show (120:Int)=0 from z) (by decide)))
     obtain⟨g2,a1,b1,a2,b2,hf2,hT2,ho1,ho2,ai,hq2,hg2,ap1_,ap2_,ap3_⟩:=NS bG
     have gJ:KP w0 T_r (Lf p):=fun i h=>aD i ((fun i h=>(hT2 i).2 (Or.inl h)) i h)
     have gK:KK (Lf p) (Lf ac):=fun i h=>aK i ((fun i h=>(hT2 i).2 (Or.inl h)) i h)
     have gL:KP w0 T_r (Lf g2):=fun i h=>aD i ((fun i h=>(hT2 i).2 (Or.inr (Or.inr h))) i h)
     have gM:KK (Lf g2) (Lf ac):=fun i h=>aK i ((fun i h=>(hT2 i).2 (Or.inr (Or.inr h))) i h)
     have dB:KK (Lf p) (Lf g2):=ap2_
     refine KH (KI (.agg (Oe 0 0 0 0 0 (fun _=>(0:Int))).toArray) rfl rfl (LZ (l':=[]) (cells:=(Oe 0 0 0 0 0 (fun _=>(0:Int))).toArray) rfl Rv (by kernel_rfl) rfl rr) (KR rfl rfl rfl dA (Lj (us:=(Oe 0 0 0 0 0 (fun _=>(0:Int)))) LE rfl rfl rfl af rfl aQ rfl (KX rfl (KX rfl (KX rfl (KX rfl (KX rfl (KX rfl (KX rfl (KX rfl (KX rfl (KX rfl (KX rfl (KX rfl (KX rfl (KX rfl (KX rfl (KX rfl (KX rfl (KX rfl (KX rfl (KX rfl (KX rfl MG))))))))))))))))))))) fun gN gO bH=>?_)))
     have dC:=ai.all bH (gK p rfl)
     have dD:=hg2.all bH gM
     refine KI (iv (PN l ax ay s1)) rfl rfl (KS rfl rfl rr) (KM ?_)
     have gP:=K4 (iv (PN l ax ay s1))
     refine KG (Lb (M0 ?_))
     have gQ:Pr gN (fun i=>(Lf p) i\/((Lf g2) i)) p l (MT l k ax ay bx yy st):=(by rw[hT0];first|exact Mo hf2 ho1 dC dD dB|exact Mo hf2 ho2 dC dD dB)
     have gR:KP w0 T_r (fun i=>(Lf p) i\/((Lf g2) i)):=fun i h=>h.elim (fun y=>gJ i y) (fun y=>gL i y)
     exact L7 ao rfl (MK (vs:=(Oe 0 0 0 0 0 (fun _=>(0:Int)))) LE rfl af gO) (Ly (v:=iv (PN l ax ay s1)) rfl gP) ⟨(fun i=>(Lf p) i\/((Lf g2) i)),(by rw[hR] <;> rfl),(aL.trans bH (KP.ok (S:=T_r) an K3)),⟨gQ,gR⟩⟩
    ·replace aR:=of_decide_eq_false aR
     refine Lg (KG (KJ (KJ ?_)))
     first|(rw[SN (has:=Nl m) (by assumption)] at h1;replace h1:=h1.trans (by unfold XE;exact if_pos rfl);(try dsimp only at h1))|(have hv1:PN l ax ay s1=0:=(by first|assumption|(apply Decidable.byContradiction;assumption));replace h1:=h1.trans (by unfold XE;exact if_pos hv1);(try dsimp only at h1);rw[← QK hv1] at h1)
     refine KH (KR rfl rfl rfl dk (KM ?_))
     have gS:=K4 (.bool (M7 m))
     refine KG ?_
     refine K6 gS (fun gT=>?_) (fun gT=>?_)
     ·skip
      refine KJ ?_
      rw[RC (has:=M7 m) (by assumption)] at h1
      refine KH (KI (.agg #[iv bx,iv yy]) rfl rfl (KZ LO rfl cM gH rr) (LB (R:=fun v_ w_=>∃ (aM:Nat->Prop),.tuple #[.agg #[iv (Rh l bx yy (MQ l ax ay s1)),iv (Ri l bx yy (MQ l ax ay s1))],iv (PN l bx yy (MQ l ax ay s1))]=v_/\KO au bb w_/\(PJ w_ aM ae l (MQ l bx yy (MQ l ax ay s1)) ([(p,st)])/\KP bb au aM)) rfl rfl (LH rfl rfl rfl (fun _ _=>by kernel_rfl) (K5 _) (Lk ak (Lk rfl LR)) (Vu ae l (MQ l ax ay s1) ([(p,st)]) bx yy au _  bG ) (fun e_ w_ h_=>by obtain⟨T449_,he_,hr_⟩:=h_;exact⟨_,he_,T449_,rfl,hr_⟩)) ?_))
      rintro _ k8 ⟨aM,rfl,bI,⟨gU,dE⟩⟩
      have gV:=aQ.all bI (aK.symm ac rfl)
      have gW:=bc.all bI (aP.symm ah rfl)
      have aS:=aD.trans aL dE
      obtain⟨be,bJ⟩:=VN dE aK aQ aP bc
      refine KI (.tuple #[.agg #[iv (Rh l bx yy (MQ l ax ay s1)),iv (Ri l bx yy (MQ l ax ay s1))],iv (PN l bx yy (MQ l ax ay s1))]) rfl rfl (KQ rfl rfl rr) (KI (.agg #[iv (Rh l bx yy (MQ l ax ay s1)),iv (Ri l bx yy (MQ l ax ay s1))]) rfl rfl (LL rfl rfl rfl rr) (KI (iv (PN l bx yy (MQ l ax ay s1))) rfl rfl (LL rfl rfl rfl rr) (KI (pt ah 3) rfl rfl (KU (n:=2) rfl am Tryz.underlying71 rfl (by kernel_rfl) (by decide) rfl rr) (OH (us:=[iv (Rh l bx yy (MQ l ax ay s1)),iv (Ri l bx yy (MQ l ax ay s1))]) (ns:=(Oe m (Rh l ax ay s1) (Ri l ax ay s1) (Rh l bx yy (MQ l ax ay s1)) (Ri l bx yy (MQ l ax ay s1)) (fun _=>(0:Int)))) LO rfl rfl rfl rfl rfl gW (Nat.le_of_ble_eq_true rfl) (KX rfl (KX rfl MG)) rfl fun dF dG bK=>?_))))
      have bL:=gV.all bK (aw.symm ac rfl)
      have dH:=gU.all bK bJ
      have bf:=(aL.trans bI (fun i hi x=>((KP.ok (S:=T_r) aD (fun _ x=>x)) i hi x))).trans bK (KP.ok (S:=T_r) av K3)
      refine KI (iv (PN l bx yy (MQ l ax ay s1))) rfl rfl (KS rfl rfl rr) (KM ?_)
      have dI:=K4 (iv (PN l bx yy (MQ l ax ay s1)))
      refine KG (KJ (KH (KR rfl rfl rfl dI (KI (.bool (decide ((PN l bx yy (MQ l ax ay s1))≠0))) rfl rfl (Mb rfl rfl rfl rfl rr) (KM ?_)))))
      have gZ:=K4 (.bool (decide ((PN l bx yy (MQ l ax ay s1))≠0)))
      refine KG ?_
      refine K6 gZ (fun aT=>?_) (fun aT=>?_)
      ·replace aT:=of_decide_eq_true aT
       refine Ns (Mi ?_)
       refine MO ⟨_,rfl,?_⟩
       refine KJ (Lg (KG (KJ ?_)))
       first|have hR:=h1.trans (by unfold XE;exact if_neg (by assumption))|have hR:=h1.trans (by unfold UO;exact if_neg (by assumption))|have hR:=h1.trans (by unfold Yi;exact if_neg (by assumption))|(have hRR:=PQ (l:=l) (k:=k) (ax:=ax) (ay:=ay) (bx:=bx) (yy:=yy) hm hs1 (by first|exact Or.inl (by assumption)|exact Or.inr (by assumption));obtain⟨s9,hR⟩:=hRR)
       have hT0:MT l k ax ay bx yy st=st:=by unfold MT;rw[hR];exact if_neg (by first|assumption|(intro z;exact absurd (show (120:Int)=0 from z) (by decide)))
       obtain⟨g2,a1,b1,a2,b2,hf2,hT2,ho1,ho2,ai,hq2,hg2,ap1_,ap2_,ap3_⟩:=NS dH
       have hP:KP w0 T_r (Lf p):=fun i h=>aS i ((fun i h=>(hT2 i).2 (Or.inl h)) i h)
       have hQ:KK (Lf p) (Lf ac):=fun i h=>be i ((fun i h=>(hT2 i).2 (Or.inl h)) i h)
       have hZ:KP w0 T_r (Lf g2):=fun i h=>aS i ((fun i h=>(hT2 i).2 (Or.inr (Or.inr h))) i h)
       have ia:KK (Lf g2) (Lf ac):=fun i h=>be i ((fun i h=>(hT2 i).2 (Or.inr (Or.inr h))) i h)
       have dJ:KK (Lf p) (Lf g2):=ap2_
       refine KH (KI (.agg (Oe 0 0 0 0 0 (fun _=>(0:Int))).toArray) rfl rfl (LZ (l':=[]) (cells:=(Oe 0 0 0 0 0 (fun _=>(0:Int))).toArray) rfl Rv (by kernel_rfl) rfl rr) (KR rfl rfl rfl dI (Lj (us:=(Oe 0 0 0 0 0 (fun _=>(0:Int)))) LE rfl rfl rfl af rfl bL rfl (KX rfl (KX rfl (KX rfl (KX rfl (KX rfl (KX rfl (KX rfl (KX rfl (KX rfl (KX rfl (KX rfl (KX rfl (KX rfl (KX rfl (KX rfl (KX rfl (KX rfl (KX rfl (KX rfl (KX rfl (KX rfl MG))))))))))))))))))))) fun ib ie bM=>?_)))
       have dK:=ai.all bM (hQ p rfl)
       have dL:=hg2.all bM ia
       refine KI (iv (PN l bx yy (MQ l ax ay s1))) rfl rfl (KS rfl rfl rr) (KM ?_)
       have ig:=K4 (iv (PN l bx yy (MQ l ax ay s1)))
       refine KG (Lb (M0 ?_))
       have ii:Pr ib (fun i=>(Lf p) i\/((Lf g2) i)) p l (MT l k ax ay bx yy st):=(by rw[hT0];first|exact Mo hf2 ho1 dK dL dJ|exact Mo hf2 ho2 dK dL dJ)
       have ij:KP w0 T_r (fun i=>(Lf p) i\/((Lf g2) i)):=fun i h=>h.elim (fun y=>hP i y) (fun y=>hZ i y)
       exact L7 ao rfl (MK (vs:=(Oe 0 0 0 0 0 (fun _=>(0:Int)))) LE rfl af ie) (Ly (v:=iv (PN l bx yy (MQ l ax ay s1))) rfl ig) ⟨(fun i=>(Lf p) i\/((Lf g2) i)),(by rw[hR] <;> rfl),(bf.trans bM (KP.ok (S:=T_r) an K3)),⟨ii,ij⟩⟩
      ·replace aT:=of_decide_eq_false aT
       refine Lg (KG (KJ (KJ ?_)))
       first|(rw[SN (has:=M7 m) (by assumption)] at h1;replace h1:=h1.trans (by unfold UO;exact if_pos rfl);(try dsimp only at h1))|(have hv2:PN l bx yy (MQ l ax ay s1)=0:=(by first|assumption|(apply Decidable.byContradiction;assumption));replace h1:=h1.trans (by unfold UO;exact if_pos hv2);(try dsimp only at h1);rw[← QK hv2] at h1)|(have hv2:PN l bx yy s1=0:=(by first|assumption|(apply Decidable.byContradiction;assumption));replace h1:=h1.trans (by unfold UO;exact if_pos hv2);(try dsimp only at h1);rw[← QK hv2] at h1)
       refine KH (LB (R:=fun v_ w_=>∃ (bN:Nat->Prop),.tuple #[LJ ((LI l (MQ l bx yy (MQ l ax ay s1))).1),iv ((LI l (MQ l bx yy (MQ l ax ay s1))).2.1)]=v_/\KO aM dF w_/\(PJ w_ bN ae l (Xp l (MQ l bx yy (MQ l ax ay s1))) ([(p,st)])/\KP dF aM bN)) rfl rfl (LH rfl rfl rfl (fun _ _=>by kernel_rfl) (K5 _) (Lk ak LR) (RD ae l (MQ l bx yy (MQ l ax ay s1)) ([(p,st)]) aM _ (hO.but bf (ovO hG)) (ovO (U4 aS hG hA)) dH ) (fun e_ w_ h_=>by obtain⟨T556_,he_,hr_⟩:=h_;exact⟨_,he_,T556_,rfl,hr_⟩)) ?_)
       rintro _ la ⟨bN,rfl,bO,⟨ik,dM⟩⟩
       have io:=bL.all bO (be.symm ac rfl)
       have ip:=dG.all bO (bJ.symm ah rfl)
       have bg:=aS.trans bf dM
       obtain⟨bh,dN⟩:=VN dM be bL bJ dG
       refine KI (.tuple #[LJ ((LI l (MQ l bx yy (MQ l ax ay s1))).1),iv ((LI l (MQ l bx yy (MQ l ax ay s1))).2.1)]) rfl rfl (KQ rfl rfl rr) (KI (LJ ((LI l (MQ l bx yy (MQ l ax ay s1))).1)) rfl rfl (LL rfl rfl rfl rr) (KI (iv ((LI l (MQ l bx yy (MQ l ax ay s1))).2.1)) rfl rfl (LL rfl rfl rfl rr) (KI (pt ah 5) rfl rfl (KU (n:=16) rfl am Tryz.underlying71 rfl (by kernel_rfl) (by decide) rfl rr) (OH (us:=L8 16 ((LI l (MQ l bx yy (MQ l ax ay s1))).1)) (ns:=(Oe m (Rh l ax ay s1) (Ri l ax ay s1) (Rh l bx yy (MQ l ax ay s1)) (Ri l bx yy (MQ l ax ay s1)) ((LI l (MQ l bx yy (MQ l ax ay s1))).1))) Qd rfl rfl rfl rfl rfl ip (Nat.le_of_ble_eq_true rfl) (RW _ _) rfl fun lc iq bP=>?_))))
       have dO:=io.all bP (aw.symm ac rfl)
       have dP:=ik.all bP dN
       have dQ:=(bf.trans bO (fun i hi x=>((KP.ok (S:=T_r) aS (fun _ x=>x)) i hi x))).trans bP (KP.ok (S:=T_r) av K3)
       refine KI (iv ((LI l (MQ l bx yy (MQ l ax ay s1))).2.1)) rfl rfl (KS rfl rfl rr) (KM ?_)
       have dR:=K4 (iv ((LI l (MQ l bx yy (MQ l ax ay s1))).2.1))
       refine KG (KJ (KH (KR rfl rfl rfl dR (KI (.bool (decide (((LI l (MQ l bx yy (MQ l ax ay s1))).2.1)≠0))) rfl rfl (Mb rfl rfl rfl rfl rr) (KM ?_)))))
       have ir:=K4 (.bool (decide (((LI l (MQ l bx yy (MQ l ax ay s1))).2.1)≠0)))
       refine KG ?_
       refine K6 ir (fun aU=>?_) (fun aU=>?_)
       ·replace aU:=of_decide_eq_true aU
        refine Ns (Mi ?_)
        refine MO ⟨_,rfl,?_⟩
        refine KJ (Lg (KG (KJ ?_)))
        first|have hR:=h1.trans (by unfold XE;exact if_neg (by assumption))|have hR:=h1.trans (by unfold UO;exact if_neg (by assumption))|have hR:=h1.trans (by unfold Yi;exact if_neg (by assumption))|(have hRR:=PQ (l:=l) (k:=k) (ax:=ax) (ay:=ay) (bx:=bx) (yy:=yy) hm hs1 (by first|exact Or.inl (by assumption)|exact Or.inr (by assumption));obtain⟨s9,hR⟩:=hRR)
        have hT0:MT l k ax ay bx yy st=st:=by unfold MT;rw[hR];exact if_neg (by first|assumption|(intro z;exact absurd (show (120:Int)=0 from z) (by decide)))
        obtain⟨g2,a1,b1,a2,b2,hf2,hT2,ho1,ho2,ai,hq2,hg2,ap1_,ap2_,ap3_⟩:=NS dP
        have iu:KP w0 T_r (Lf p):=fun i h=>bg i ((fun i h=>(hT2 i).2 (Or.inl h)) i h)
        have iw:KK (Lf p) (Lf ac):=fun i h=>bh i ((fun i h=>(hT2 i).2 (Or.inl h)) i h)
        have iy:KP w0 T_r (Lf g2):=fun i h=>bg i ((fun i h=>(hT2 i).2 (Or.inr (Or.inr h))) i h)
        have iz:KK (Lf g2) (Lf ac):=fun i h=>bh i ((fun i h=>(hT2 i).2 (Or.inr (Or.inr h))) i h)
        have dS:KK (Lf p) (Lf g2):=ap2_
        refine KH (KI (.agg (Oe 0 0 0 0 0 (fun _=>(0:Int))).toArray) rfl rfl (LZ (l':=[]) (cells:=(Oe 0 0 0 0 0 (fun _=>(0:Int))).toArray) rfl Rv (by kernel_rfl) rfl rr) (KR rfl rfl rfl dR (Lj (us:=(Oe 0 0 0 0 0 (fun _=>(0:Int)))) LE rfl rfl rfl af rfl dO rfl (KX rfl (KX rfl (KX rfl (KX rfl (KX rfl (KX rfl (KX rfl (KX rfl (KX rfl (KX rfl (KX rfl (KX rfl (KX rfl (KX rfl (KX rfl (KX rfl (KX rfl (KX rfl (KX rfl (KX rfl (KX rfl MG))))))))))))))))))))) fun iA iB bQ=>?_)))
        have dT:=ai.all bQ (iw p rfl)
        have dU:=hg2.all bQ iz
        refine KI (iv ((LI l (MQ l bx yy (MQ l ax ay s1))).2.1)) rfl rfl (KS rfl rfl rr) (KM ?_)
        have iC:=K4 (iv ((LI l (MQ l bx yy (MQ l ax ay s1))).2.1))
        refine KG (Lb (M0 ?_))
        have iD:Pr iA (fun i=>(Lf p) i\/((Lf g2) i)) p l (MT l k ax ay bx yy st):=(by rw[hT0];first|exact Mo hf2 ho1 dT dU dS|exact Mo hf2 ho2 dT dU dS)
        have iE:KP w0 T_r (fun i=>(Lf p) i\/((Lf g2) i)):=fun i h=>h.elim (fun y=>iu i y) (fun y=>iy i y)
        exact L7 ao rfl (MK (vs:=(Oe 0 0 0 0 0 (fun _=>(0:Int)))) LE rfl af iB) (Ly (v:=iv ((LI l (MQ l bx yy (MQ l ax ay s1))).2.1)) rfl iC) ⟨(fun i=>(Lf p) i\/((Lf g2) i)),(by rw[hR] <;> rfl),(dQ.trans bQ (KP.ok (S:=T_r) an K3)),⟨iD,iE⟩⟩
       ·replace aU:=of_decide_eq_false aU
        refine Lg (KG (KJ ?_))
        have hR:=h1.trans (by unfold Yi;exact if_pos (by first|assumption|(apply Decidable.byContradiction;assumption)))
        have hT0:=(show MT l k ax ay bx yy st=(Re l k ax ay bx yy st).2.2 from if_pos (by rw[hR]))
        rw[hR] at hT0
        dsimp only at hT0
        rw[← U1 (by first|assumption|(apply Decidable.byContradiction;assumption))] at hT0
        obtain⟨g2,a1,b1,a2,b2,hf2,hT2,ho1,ho2,ai,hq2,hg2,ap1_,ap2_,ap3_⟩:=NS dP
        have dV:KP w0 T_r (Lf p):=fun i h=>bg i ((fun i h=>(hT2 i).2 (Or.inl h)) i h)
        have dW:KK (Lf p) (Lf ac):=fun i h=>bh i ((fun i h=>(hT2 i).2 (Or.inl h)) i h)
        have iF:KK (Lf p) (Lf ah):=fun i h=>dN i ((fun i h=>(hT2 i).2 (Or.inl h)) i h)
        have iG:KP w0 T_r (Lf g2):=fun i h=>bg i ((fun i h=>(hT2 i).2 (Or.inr (Or.inr h))) i h)
        have iH:KK (Lf g2) (Lf ac):=fun i h=>bh i ((fun i h=>(hT2 i).2 (Or.inr (Or.inr h))) i h)
        have bR:KK (Lf p) (Lf g2):=ap2_
        refine KH (KR rfl rfl rfl aE (KI (.agg #[.slice (some ⟨g2,0,none⟩) l.length l.length,iv ((a2:Nat):Int),.bool b2]) rfl rfl (KZ ML rfl ak hq2 rr) (KI (pt p 0) rfl rfl (Ol rfl rfl rr) (Lj (us:=[.slice (some ⟨g2,0,none⟩) l.length l.length,iv ((a2:Nat):Int),.bool b2]) ML rfl rfl rfl rfl rfl ai rfl (KX rfl (KX rfl (KX rfl MG))) fun ld iI bi=>?_))))
        have iJ:=dO.all bi (dW.symm ac rfl)
        have iK:=iq.all bi (iF.symm ah rfl)
        have iL:=hg2.all bi bR.symm
        refine KM ?_
        refine KG (KJ (KJ (KH (KI (.agg (Oe m (Rh l ax ay s1) (Ri l ax ay s1) (Rh l bx yy (MQ l ax ay s1)) (Ri l bx yy (MQ l ax ay s1)) ((LI l (MQ l bx yy (MQ l ax ay s1))).1)).toArray) rfl rfl (KZ LE rfl am iK rr) (Lj (us:=(Oe m (Rh l ax ay s1) (Ri l ax ay s1) (Rh l bx yy (MQ l ax ay s1)) (Ri l bx yy (MQ l ax ay s1)) ((LI l (MQ l bx yy (MQ l ax ay s1))).1))) LE rfl rfl rfl af rfl iJ rfl (KX rfl (KX rfl (KX rfl (KX rfl (KX rfl (KX rfl (KX rfl (KX rfl (KX rfl (KX rfl (KX rfl (KX rfl (KX rfl (KX rfl (KX rfl (KX rfl (KX rfl (KX rfl (KX rfl (KX rfl (KX rfl MG))))))))))))))))))))) fun iM iN bS=>?_)))))
        have dX:=iI.all bS (dW p rfl)
        have dY:=iL.all bS iH
        refine KI (iv 0) rfl rfl (KS rfl rfl rr) (KM ?_)
        have iO:=K4 (iv 0)
        refine KG (Lb (Lq (O9 ?_)))
        have iP:Pr iM (fun i=>(Lf p) i\/((Lf g2) i)) p l (MT l k ax ay bx yy st):=(by rw[hT0];first|exact Mo hf2 ho1 dX dY bR|exact Mo hf2 ho2 dX dY bR)
        have iQ:KP w0 T_r (fun i=>(Lf p) i\/((Lf g2) i)):=fun i h=>h.elim (fun y=>dV i y) (fun y=>iG i y)
        exact L7 ao rfl (MK (vs:=(Oe m (Rh l ax ay s1) (Ri l ax ay s1) (Rh l bx yy (MQ l ax ay s1)) (Ri l bx yy (MQ l ax ay s1)) ((LI l (MQ l bx yy (MQ l ax ay s1))).1))) LE rfl af iN) (Ly (v:=iv 0) rfl iO) ⟨(fun i=>(Lf p) i\/((Lf g2) i)),(by rw[hR] <;> rfl),((dQ.trans bi (KP.ok (S:=T_r) dV (fun _ x=>x))).trans bS (KP.ok (S:=T_r) an K3)),⟨iP,iQ⟩⟩
     ·skip
      refine Lg (KG (KJ (KJ ?_)))
      first|(rw[SN (has:=M7 m) (by assumption)] at h1;replace h1:=h1.trans (by unfold UO;exact if_pos rfl);(try dsimp only at h1))|(have hv2:PN l bx yy (MQ l ax ay s1)=0:=(by first|assumption|(apply Decidable.byContradiction;assumption));replace h1:=h1.trans (by unfold UO;exact if_pos hv2);(try dsimp only at h1);rw[← QK hv2] at h1)|(have hv2:PN l bx yy s1=0:=(by first|assumption|(apply Decidable.byContradiction;assumption));replace h1:=h1.trans (by unfold UO;exact if_pos hv2);(try dsimp only at h1);rw[← QK hv2] at h1)
      refine KH (LB (R:=fun v_ w_=>∃ (bT:Nat->Prop),.tuple #[LJ ((LI l (MQ l ax ay s1)).1),iv ((LI l (MQ l ax ay s1)).2.1)]=v_/\KO au bb w_/\(PJ w_ bT ae l (Xp l (MQ l ax ay s1)) ([(p,st)])/\KP bb au bT)) rfl rfl (LH rfl rfl rfl (fun _ _=>by kernel_rfl) (K5 _) (Lk ak LR) (RD ae l (MQ l ax ay s1) ([(p,st)]) au _ (hO.but aL (ovO hG)) (ovO (U4 aD hG hA)) bG ) (fun e_ w_ h_=>by obtain⟨T720_,he_,hr_⟩:=h_;exact⟨_,he_,T720_,rfl,hr_⟩)) ?_)
      rintro _ le ⟨bT,rfl,bU,⟨iR,dZ⟩⟩
      have iS:=aQ.all bU (aK.symm ac rfl)
      have iT:=bc.all bU (aP.symm ah rfl)
      have bj:=aD.trans aL dZ
      obtain⟨bl,d8⟩:=VN dZ aK aQ aP bc
      refine KI (.tuple #[LJ ((LI l (MQ l ax ay s1)).1),iv ((LI l (MQ l ax ay s1)).2.1)]) rfl rfl (KQ rfl rfl rr) (KI (LJ ((LI l (MQ l ax ay s1)).1)) rfl rfl (LL rfl rfl rfl rr) (KI (iv ((LI l (MQ l ax ay s1)).2.1)) rfl rfl (LL rfl rfl rfl rr) (KI (pt ah 5) rfl rfl (KU (n:=16) rfl am Tryz.underlying71 rfl (by kernel_rfl) (by decide) rfl rr) (OH (us:=L8 16 ((LI l (MQ l ax ay s1)).1)) (ns:=(Oe m (Rh l ax ay s1) (Ri l ax ay s1) 0 0 ((LI l (MQ l ax ay s1)).1))) Qd rfl rfl rfl rfl rfl iT (Nat.le_of_ble_eq_true rfl) (RW _ _) rfl fun lf iU bV=>?_))))
      have d9:=iS.all bV (aw.symm ac rfl)
      have eb:=iR.all bV d8
      have ee:=(aL.trans bU (fun i hi x=>((KP.ok (S:=T_r) aD (fun _ x=>x)) i hi x))).trans bV (KP.ok (S:=T_r) av K3)
      refine KI (iv ((LI l (MQ l ax ay s1)).2.1)) rfl rfl (KS rfl rfl rr) (KM ?_)
      have eh:=K4 (iv ((LI l (MQ l ax ay s1)).2.1))
      refine KG (KJ (KH (KR rfl rfl rfl eh (KI (.bool (decide (((LI l (MQ l ax ay s1)).2.1)≠0))) rfl rfl (Mb rfl rfl rfl rfl rr) (KM ?_)))))
      have iV:=K4 (.bool (decide (((LI l (MQ l ax ay s1)).2.1)≠0)))
      refine KG ?_
      refine K6 iV (fun aV=>?_) (fun aV=>?_)
      ·replace aV:=of_decide_eq_true aV
       refine Ns (Mi ?_)
       refine MO ⟨_,rfl,?_⟩
       refine KJ (Lg (KG (KJ ?_)))
       first|have hR:=h1.trans (by unfold XE;exact if_neg (by assumption))|have hR:=h1.trans (by unfold UO;exact if_neg (by assumption))|have hR:=h1.trans (by unfold Yi;exact if_neg (by assumption))|(have hRR:=PQ (l:=l) (k:=k) (ax:=ax) (ay:=ay) (bx:=bx) (yy:=yy) hm hs1 (by first|exact Or.inl (by assumption)|exact Or.inr (by assumption));obtain⟨s9,hR⟩:=hRR)
       have hT0:MT l k ax ay bx yy st=st:=by unfold MT;rw[hR];exact if_neg (by first|assumption|(intro z;exact absurd (show (120:Int)=0 from z) (by decide)))
       obtain⟨g2,a1,b1,a2,b2,hf2,hT2,ho1,ho2,ai,hq2,hg2,ap1_,ap2_,ap3_⟩:=NS eb
       have iW:KP w0 T_r (Lf p):=fun i h=>bj i ((fun i h=>(hT2 i).2 (Or.inl h)) i h)
       have iX:KK (Lf p) (Lf ac):=fun i h=>bl i ((fun i h=>(hT2 i).2 (Or.inl h)) i h)
       have iY:KP w0 T_r (Lf g2):=fun i h=>bj i ((fun i h=>(hT2 i).2 (Or.inr (Or.inr h))) i h)
       have iZ:KK (Lf g2) (Lf ac):=fun i h=>bl i ((fun i h=>(hT2 i).2 (Or.inr (Or.inr h))) i h)
       have ei:KK (Lf p) (Lf g2):=ap2_
       refine KH (KI (.agg (Oe 0 0 0 0 0 (fun _=>(0:Int))).toArray) rfl rfl (LZ (l':=[]) (cells:=(Oe 0 0 0 0 0 (fun _=>(0:Int))).toArray) rfl Rv (by kernel_rfl) rfl rr) (KR rfl rfl rfl eh (Lj (us:=(Oe 0 0 0 0 0 (fun _=>(0:Int)))) LE rfl rfl rfl af rfl d9 rfl (KX rfl (KX rfl (KX rfl (KX rfl (KX rfl (KX rfl (KX rfl (KX rfl (KX rfl (KX rfl (KX rfl (KX rfl (KX rfl (KX rfl (KX rfl (KX rfl (KX rfl (KX rfl (KX rfl (KX rfl (KX rfl MG))))))))))))))))))))) fun ja jb bW=>?_)))
       have ek:=ai.all bW (iX p rfl)
       have en:=hg2.all bW iZ
       refine KI (iv ((LI l (MQ l ax ay s1)).2.1)) rfl rfl (KS rfl rfl rr) (KM ?_)
       have jc:=K4 (iv ((LI l (MQ l ax ay s1)).2.1))
       refine KG (Lb (M0 ?_))
       have jd:Pr ja (fun i=>(Lf p) i\/((Lf g2) i)) p l (MT l k ax ay bx yy st):=(by rw[hT0];first|exact Mo hf2 ho1 ek en ei|exact Mo hf2 ho2 ek en ei)
       have je:KP w0 T_r (fun i=>(Lf p) i\/((Lf g2) i)):=fun i h=>h.elim (fun y=>iW i y) (fun y=>iY i y)
       exact L7 ao rfl (MK (vs:=(Oe 0 0 0 0 0 (fun _=>(0:Int)))) LE rfl af jb) (Ly (v:=iv ((LI l (MQ l ax ay s1)).2.1)) rfl jc) ⟨(fun i=>(Lf p) i\/((Lf g2) i)),(by rw[hR] <;> rfl),(ee.trans bW (KP.ok (S:=T_r) an K3)),⟨jd,je⟩⟩
      ·replace aV:=of_decide_eq_false aV
       refine Lg (KG (KJ ?_))
       have hR:=h1.trans (by unfold Yi;exact if_pos (by first|assumption|(apply Decidable.byContradiction;assumption)))
       have hT0:=(show MT l k ax ay bx yy st=(Re l k ax ay bx yy st).2.2 from if_pos (by rw[hR]))
       rw[hR] at hT0
       dsimp only at hT0
       rw[← U1 (by first|assumption|(apply Decidable.byContradiction;assumption))] at hT0
       obtain⟨g2,a1,b1,a2,b2,hf2,hT2,ho1,ho2,ai,hq2,hg2,ap1_,ap2_,ap3_⟩:=NS eb
       have eo:KP w0 T_r (Lf p):=fun i h=>bj i ((fun i h=>(hT2 i).2 (Or.inl h)) i h)
       have ep:KK (Lf p) (Lf ac):=fun i h=>bl i ((fun i h=>(hT2 i).2 (Or.inl h)) i h)
       have jf:KK (Lf p) (Lf ah):=fun i h=>d8 i ((fun i h=>(hT2 i).2 (Or.inl h)) i h)
       have jg:KP w0 T_r (Lf g2):=fun i h=>bj i ((fun i h=>(hT2 i).2 (Or.inr (Or.inr h))) i h)
       have jh:KK (Lf g2) (Lf ac):=fun i h=>bl i ((fun i h=>(hT2 i).2 (Or.inr (Or.inr h))) i h)
       have bX:KK (Lf p) (Lf g2):=ap2_
       refine KH (KR rfl rfl rfl aE (KI (.agg #[.slice (some ⟨g2,0,none⟩) l.length l.length,iv ((a2:Nat):Int),.bool b2]) rfl rfl (KZ ML rfl ak hq2 rr) (KI (pt p 0) rfl rfl (Ol rfl rfl rr) (Lj (us:=[.slice (some ⟨g2,0,none⟩) l.length l.length,iv ((a2:Nat):Int),.bool b2]) ML rfl rfl rfl rfl rfl ai rfl (KX rfl (KX rfl (KX rfl MG))) fun lg ji bm=>?_))))
       have jj:=d9.all bm (ep.symm ac rfl)
       have jk:=iU.all bm (jf.symm ah rfl)
       have jl:=hg2.all bm bX.symm
       refine KM ?_
       refine KG (KJ (KJ (KH (KI (.agg (Oe m (Rh l ax ay s1) (Ri l ax ay s1) 0 0 ((LI l (MQ l ax ay s1)).1)).toArray) rfl rfl (KZ LE rfl am jk rr) (Lj (us:=(Oe m (Rh l ax ay s1) (Ri l ax ay s1) 0 0 ((LI l (MQ l ax ay s1)).1))) LE rfl rfl rfl af rfl jj rfl (KX rfl (KX rfl (KX rfl (KX rfl (KX rfl (KX rfl (KX rfl (KX rfl (KX rfl (KX rfl (KX rfl (KX rfl (KX rfl (KX rfl (KX rfl (KX rfl (KX rfl (KX rfl (KX rfl (KX rfl (KX rfl MG))))))))))))))))))))) fun jm jn bY=>?_)))))
       have er:=ji.all bY (ep p rfl)
       have et:=jl.all bY jh
       refine KI (iv 0) rfl rfl (KS rfl rfl rr) (KM ?_)
       have jo:=K4 (iv 0)
       refine KG (Lb (Lq (O9 ?_)))
       have jp:Pr jm (fun i=>(Lf p) i\/((Lf g2) i)) p l (MT l k ax ay bx yy st):=(by rw[hT0];first|exact Mo hf2 ho1 er et bX|exact Mo hf2 ho2 er et bX)
       have jq:KP w0 T_r (fun i=>(Lf p) i\/((Lf g2) i)):=fun i h=>h.elim (fun y=>eo i y) (fun y=>jg i y)
       exact L7 ao rfl (MK (vs:=(Oe m (Rh l ax ay s1) (Ri l ax ay s1) 0 0 ((LI l (MQ l ax ay s1)).1))) LE rfl af jn) (Ly (v:=iv 0) rfl jo) ⟨(fun i=>(Lf p) i\/((Lf g2) i)),(by rw[hR] <;> rfl),((ee.trans bm (KP.ok (S:=T_r) eo (fun _ x=>x))).trans bY (KP.ok (S:=T_r) an K3)),⟨jp,jq⟩⟩
   ·skip
    refine Lg (KG (KJ (KJ ?_)))
    first|(rw[SN (has:=Nl m) (by assumption)] at h1;replace h1:=h1.trans (by unfold XE;exact if_pos rfl);(try dsimp only at h1))|(have hv1:PN l ax ay s1=0:=(by first|assumption|(apply Decidable.byContradiction;assumption));replace h1:=h1.trans (by unfold XE;exact if_pos hv1);(try dsimp only at h1);rw[← QK hv1] at h1)
    refine KH (KR rfl rfl rfl dk (KM ?_))
    have jr:=K4 (.bool (M7 m))
    refine KG ?_
    refine K6 jr (fun js=>?_) (fun js=>?_)
    ·skip
     refine KJ ?_
     rw[RC (has:=M7 m) (by assumption)] at h1
     refine KH (KI (.agg #[iv bx,iv yy]) rfl rfl (KZ LO rfl cM dy rr) (LB (R:=fun v_ w_=>∃ (aN:Nat->Prop),.tuple #[.agg #[iv (Rh l bx yy s1),iv (Ri l bx yy s1)],iv (PN l bx yy s1)]=v_/\KO aj aH w_/\(PJ w_ aN ae l (MQ l bx yy s1) ([(p,st)])/\KP aH aj aN)) rfl rfl (LH rfl rfl rfl (fun _ _=>by kernel_rfl) (K5 _) (Lk ak (Lk rfl LR)) (Vu ae l s1 ([(p,st)]) bx yy aj _  bF ) (fun e_ w_ h_=>by obtain⟨T902_,he_,hr_⟩:=h_;exact⟨_,he_,T902_,rfl,hr_⟩)) ?_))
     rintro _ lh ⟨aN,rfl,bZ,⟨jt,eu⟩⟩
     have ju:=aI.all bZ (aq.symm ac rfl)
     have jv:=aJ.all bZ (aB ah rfl)
     have aW:=ap.trans aC eu
     obtain⟨bn,b7⟩:=VN eu aq aI (aB.symm) aJ
     refine KI (.tuple #[.agg #[iv (Rh l bx yy s1),iv (Ri l bx yy s1)],iv (PN l bx yy s1)]) rfl rfl (KQ rfl rfl rr) (KI (.agg #[iv (Rh l bx yy s1),iv (Ri l bx yy s1)]) rfl rfl (LL rfl rfl rfl rr) (KI (iv (PN l bx yy s1)) rfl rfl (LL rfl rfl rfl rr) (KI (pt ah 3) rfl rfl (KU (n:=2) rfl am Tryz.underlying71 rfl (by kernel_rfl) (by decide) rfl rr) (OH (us:=[iv (Rh l bx yy s1),iv (Ri l bx yy s1)]) (ns:=(Oe m 0 0 (Rh l bx yy s1) (Ri l bx yy s1) (fun _=>(0:Int)))) LO rfl rfl rfl rfl rfl jv (Nat.le_of_ble_eq_true rfl) (KX rfl (KX rfl MG)) rfl fun ew ex b8=>?_))))
     have b9:=ju.all b8 (aw.symm ac rfl)
     have ey:=jt.all b8 b7
     have bo:=(aC.trans bZ (fun i hi x=>((KP.ok (S:=T_r) ap (fun _ x=>x)) i hi x))).trans b8 (KP.ok (S:=T_r) av K3)
     refine KI (iv (PN l bx yy s1)) rfl rfl (KS rfl rfl rr) (KM ?_)
     have ez:=K4 (iv (PN l bx yy s1))
     refine KG (KJ (KH (KR rfl rfl rfl ez (KI (.bool (decide ((PN l bx yy s1)≠0))) rfl rfl (Mb rfl rfl rfl rfl rr) (KM ?_)))))
     have jw:=K4 (.bool (decide ((PN l bx yy s1)≠0)))
     refine KG ?_
     refine K6 jw (fun aX=>?_) (fun aX=>?_)
     ·replace aX:=of_decide_eq_true aX
      refine Ns (Mi ?_)
      refine MO ⟨_,rfl,?_⟩
      refine KJ (Lg (KG (KJ ?_)))
      first|have hR:=h1.trans (by unfold XE;exact if_neg (by assumption))|have hR:=h1.trans (by unfold UO;exact if_neg (by assumption))|have hR:=h1.trans (by unfold Yi;exact if_neg (by assumption))|(have hRR:=PQ (l:=l) (k:=k) (ax:=ax) (ay:=ay) (bx:=bx) (yy:=yy) hm hs1 (by first|exact Or.inl (by assumption)|exact Or.inr (by assumption));obtain⟨s9,hR⟩:=hRR)
      have hT0:MT l k ax ay bx yy st=st:=by unfold MT;rw[hR];exact if_neg (by first|assumption|(intro z;exact absurd (show (120:Int)=0 from z) (by decide)))
      obtain⟨g2,a1,b1,a2,b2,hf2,hT2,ho1,ho2,ai,hq2,hg2,ap1_,ap2_,ap3_⟩:=NS ey
      have jx:KP w0 T_r (Lf p):=fun i h=>aW i ((fun i h=>(hT2 i).2 (Or.inl h)) i h)
      have jy:KK (Lf p) (Lf ac):=fun i h=>bn i ((fun i h=>(hT2 i).2 (Or.inl h)) i h)
      have jz:KP w0 T_r (Lf g2):=fun i h=>aW i ((fun i h=>(hT2 i).2 (Or.inr (Or.inr h))) i h)
      have jA:KK (Lf g2) (Lf ac):=fun i h=>bn i ((fun i h=>(hT2 i).2 (Or.inr (Or.inr h))) i h)
      have eA:KK (Lf p) (Lf g2):=ap2_
      refine KH (KI (.agg (Oe 0 0 0 0 0 (fun _=>(0:Int))).toArray) rfl rfl (LZ (l':=[]) (cells:=(Oe 0 0 0 0 0 (fun _=>(0:Int))).toArray) rfl Rv (by kernel_rfl) rfl rr) (KR rfl rfl rfl ez (Lj (us:=(Oe 0 0 0 0 0 (fun _=>(0:Int)))) LE rfl rfl rfl af rfl b9 rfl (KX rfl (KX rfl (KX rfl (KX rfl (KX rfl (KX rfl (KX rfl (KX rfl (KX rfl (KX rfl (KX rfl (KX rfl (KX rfl (KX rfl (KX rfl (KX rfl (KX rfl (KX rfl (KX rfl (KX rfl (KX rfl MG))))))))))))))))))))) fun jB jC cd=>?_)))
      have eB:=ai.all cd (jy p rfl)
      have eC:=hg2.all cd jA
      refine KI (iv (PN l bx yy s1)) rfl rfl (KS rfl rfl rr) (KM ?_)
      have jD:=K4 (iv (PN l bx yy s1))
      refine KG (Lb (M0 ?_))
      have jE:Pr jB (fun i=>(Lf p) i\/((Lf g2) i)) p l (MT l k ax ay bx yy st):=(by rw[hT0];first|exact Mo hf2 ho1 eB eC eA|exact Mo hf2 ho2 eB eC eA)
      have jF:KP w0 T_r (fun i=>(Lf p) i\/((Lf g2) i)):=fun i h=>h.elim (fun y=>jx i y) (fun y=>jz i y)
      exact L7 ao rfl (MK (vs:=(Oe 0 0 0 0 0 (fun _=>(0:Int)))) LE rfl af jC) (Ly (v:=iv (PN l bx yy s1)) rfl jD) ⟨(fun i=>(Lf p) i\/((Lf g2) i)),(by rw[hR] <;> rfl),(bo.trans cd (KP.ok (S:=T_r) an K3)),⟨jE,jF⟩⟩
     ·replace aX:=of_decide_eq_false aX
      refine Lg (KG (KJ (KJ ?_)))
      first|(rw[SN (has:=M7 m) (by assumption)] at h1;replace h1:=h1.trans (by unfold UO;exact if_pos rfl);(try dsimp only at h1))|(have hv2:PN l bx yy (MQ l ax ay s1)=0:=(by first|assumption|(apply Decidable.byContradiction;assumption));replace h1:=h1.trans (by unfold UO;exact if_pos hv2);(try dsimp only at h1);rw[← QK hv2] at h1)|(have hv2:PN l bx yy s1=0:=(by first|assumption|(apply Decidable.byContradiction;assumption));replace h1:=h1.trans (by unfold UO;exact if_pos hv2);(try dsimp only at h1);rw[← QK hv2] at h1)
      refine KH (LB (R:=fun v_ w_=>∃ (ce:Nat->Prop),.tuple #[LJ ((LI l (MQ l bx yy s1)).1),iv ((LI l (MQ l bx yy s1)).2.1)]=v_/\KO aN ew w_/\(PJ w_ ce ae l (Xp l (MQ l bx yy s1)) ([(p,st)])/\KP ew aN ce)) rfl rfl (LH rfl rfl rfl (fun _ _=>by kernel_rfl) (K5 _) (Lk ak LR) (RD ae l (MQ l bx yy s1) ([(p,st)]) aN _ (hO.but bo (ovO hG)) (ovO (U4 aW hG hA)) ey ) (fun e_ w_ h_=>by obtain⟨T1007_,he_,hr_⟩:=h_;exact⟨_,he_,T1007_,rfl,hr_⟩)) ?_)
      rintro _ lj ⟨ce,rfl,cf,⟨jG,eD⟩⟩
      have jH:=b9.all cf (bn.symm ac rfl)
      have jI:=ex.all cf (b7.symm ah rfl)
      have bp:=aW.trans bo eD
      obtain⟨bq,eE⟩:=VN eD bn b9 b7 ex
      refine KI (.tuple #[LJ ((LI l (MQ l bx yy s1)).1),iv ((LI l (MQ l bx yy s1)).2.1)]) rfl rfl (KQ rfl rfl rr) (KI (LJ ((LI l (MQ l bx yy s1)).1)) rfl rfl (LL rfl rfl rfl rr) (KI (iv ((LI l (MQ l bx yy s1)).2.1)) rfl rfl (LL rfl rfl rfl rr) (KI (pt ah 5) rfl rfl (KU (n:=16) rfl am Tryz.underlying71 rfl (by kernel_rfl) (by decide) rfl rr) (OH (us:=L8 16 ((LI l (MQ l bx yy s1)).1)) (ns:=(Oe m 0 0 (Rh l bx yy s1) (Ri l bx yy s1) ((LI l (MQ l bx yy s1)).1))) Qd rfl rfl rfl rfl rfl jI (Nat.le_of_ble_eq_true rfl) (RW _ _) rfl fun lk jJ cg=>?_))))
      have eF:=jH.all cg (aw.symm ac rfl)
      have eG:=jG.all cg eE
      have eH:=(bo.trans cf (fun i hi x=>((KP.ok (S:=T_r) aW (fun _ x=>x)) i hi x))).trans cg (KP.ok (S:=T_r) av K3)
      refine KI (iv ((LI l (MQ l bx yy s1)).2.1)) rfl rfl (KS rfl rfl rr) (KM ?_)
      have eI:=K4 (iv ((LI l (MQ l bx yy s1)).2.1))
      refine KG (KJ (KH (KR rfl rfl rfl eI (KI (.bool (decide (((LI l (MQ l bx yy s1)).2.1)≠0))) rfl rfl (Mb rfl rfl rfl rfl rr) (KM ?_)))))
      have jK:=K4 (.bool (decide (((LI l (MQ l bx yy s1)).2.1)≠0)))
      refine KG ?_
      refine K6 jK (fun aY=>?_) (fun aY=>?_)
      ·replace aY:=of_decide_eq_true aY
       refine Ns (Mi ?_)
       refine MO ⟨_,rfl,?_⟩
       refine KJ (Lg (KG (KJ ?_)))
       first|have hR:=h1.trans (by unfold XE;exact if_neg (by assumption))|have hR:=h1.trans (by unfold UO;exact if_neg (by assumption))|have hR:=h1.trans (by unfold Yi;exact if_neg (by assumption))|(have hRR:=PQ (l:=l) (k:=k) (ax:=ax) (ay:=ay) (bx:=bx) (yy:=yy) hm hs1 (by first|exact Or.inl (by assumption)|exact Or.inr (by assumption));obtain⟨s9,hR⟩:=hRR)
       have hT0:MT l k ax ay bx yy st=st:=by unfold MT;rw[hR];exact if_neg (by first|assumption|(intro z;exact absurd (show (120:Int)=0 from z) (by decide)))
       obtain⟨g2,a1,b1,a2,b2,hf2,hT2,ho1,ho2,ai,hq2,hg2,ap1_,ap2_,ap3_⟩:=NS eG
       have jL:KP w0 T_r (Lf p):=fun i h=>bp i ((fun i h=>(hT2 i).2 (Or.inl h)) i h)
       have jM:KK (Lf p) (Lf ac):=fun i h=>bq i ((fun i h=>(hT2 i).2 (Or.inl h)) i h)
       have jN:KP w0 T_r (Lf g2):=fun i h=>bp i ((fun i h=>(hT2 i).2 (Or.inr (Or.inr h))) i h)
       have jO:KK (Lf g2) (Lf ac):=fun i h=>bq i ((fun i h=>(hT2 i).2 (Or.inr (Or.inr h))) i h)
       have eJ:KK (Lf p) (Lf g2):=ap2_
       refine KH (KI (.agg (Oe 0 0 0 0 0 (fun _=>(0:Int))).toArray) rfl rfl (LZ (l':=[]) (cells:=(Oe 0 0 0 0 0 (fun _=>(0:Int))).toArray) rfl Rv (by kernel_rfl) rfl rr) (KR rfl rfl rfl eI (Lj (us:=(Oe 0 0 0 0 0 (fun _=>(0:Int)))) LE rfl rfl rfl af rfl eF rfl (KX rfl (KX rfl (KX rfl (KX rfl (KX rfl (KX rfl (KX rfl (KX rfl (KX rfl (KX rfl (KX rfl (KX rfl (KX rfl (KX rfl (KX rfl (KX rfl (KX rfl (KX rfl (KX rfl (KX rfl (KX rfl MG))))))))))))))))))))) fun jP jQ ci=>?_)))
       have eK:=ai.all ci (jM p rfl)
       have eL:=hg2.all ci jO
       refine KI (iv ((LI l (MQ l bx yy s1)).2.1)) rfl rfl (KS rfl rfl rr) (KM ?_)
       have jR:=K4 (iv ((LI l (MQ l bx yy s1)).2.1))
       refine KG (Lb (M0 ?_))
       have jS:Pr jP (fun i=>(Lf p) i\/((Lf g2) i)) p l (MT l k ax ay bx yy st):=(by rw[hT0];first|exact Mo hf2 ho1 eK eL eJ|exact Mo hf2 ho2 eK eL eJ)
       have jT:KP w0 T_r (fun i=>(Lf p) i\/((Lf g2) i)):=fun i h=>h.elim (fun y=>jL i y) (fun y=>jN i y)
       exact L7 ao rfl (MK (vs:=(Oe 0 0 0 0 0 (fun _=>(0:Int)))) LE rfl af jQ) (Ly (v:=iv ((LI l (MQ l bx yy s1)).2.1)) rfl jR) ⟨(fun i=>(Lf p) i\/((Lf g2) i)),(by rw[hR] <;> rfl),(eH.trans ci (KP.ok (S:=T_r) an K3)),⟨jS,jT⟩⟩
      ·replace aY:=of_decide_eq_false aY
       refine Lg (KG (KJ ?_))
       have hR:=h1.trans (by unfold Yi;exact if_pos (by first|assumption|(apply Decidable.byContradiction;assumption)))
       have hT0:=(show MT l k ax ay bx yy st=(Re l k ax ay bx yy st).2.2 from if_pos (by rw[hR]))
       rw[hR] at hT0
       dsimp only at hT0
       rw[← U1 (by first|assumption|(apply Decidable.byContradiction;assumption))] at hT0
       obtain⟨g2,a1,b1,a2,b2,hf2,hT2,ho1,ho2,ai,hq2,hg2,ap1_,ap2_,ap3_⟩:=NS eG
       have eM:KP w0 T_r (Lf p):=fun i h=>bp i ((fun i h=>(hT2 i).2 (Or.inl h)) i h)
       have eN:KK (Lf p) (Lf ac):=fun i h=>bq i ((fun i h=>(hT2 i).2 (Or.inl h)) i h)
       have jU:KK (Lf p) (Lf ah):=fun i h=>eE i ((fun i h=>(hT2 i).2 (Or.inl h)) i h)
       have jV:KP w0 T_r (Lf g2):=fun i h=>bp i ((fun i h=>(hT2 i).2 (Or.inr (Or.inr h))) i h)
       have jW:KK (Lf g2) (Lf ac):=fun i h=>bq i ((fun i h=>(hT2 i).2 (Or.inr (Or.inr h))) i h)
       have cj:KK (Lf p) (Lf g2):=ap2_
       refine KH (KR rfl rfl rfl aE (KI (.agg #[.slice (some ⟨g2,0,none⟩) l.length l.length,iv ((a2:Nat):Int),.bool b2]) rfl rfl (KZ ML rfl ak hq2 rr) (KI (pt p 0) rfl rfl (Ol rfl rfl rr) (Lj (us:=[.slice (some ⟨g2,0,none⟩) l.length l.length,iv ((a2:Nat):Int),.bool b2]) ML rfl rfl rfl rfl rfl ai rfl (KX rfl (KX rfl (KX rfl MG))) fun ll jX bt=>?_))))
       have jY:=eF.all bt (eN.symm ac rfl)
       have jZ:=jJ.all bt (jU.symm ah rfl)
       have j0:=hg2.all bt cj.symm
       refine KM ?_
       refine KG (KJ (KJ (KH (KI (.agg (Oe m 0 0 (Rh l bx yy s1) (Ri l bx yy s1) ((LI l (MQ l bx yy s1)).1)).toArray) rfl rfl (KZ LE rfl am jZ rr) (Lj (us:=(Oe m 0 0 (Rh l bx yy s1) (Ri l bx yy s1) ((LI l (MQ l bx yy s1)).1))) LE rfl rfl rfl af rfl jY rfl (KX rfl (KX rfl (KX rfl (KX rfl (KX rfl (KX rfl (KX rfl (KX rfl (KX rfl (KX rfl (KX rfl (KX rfl (KX rfl (KX rfl (KX rfl (KX rfl (KX rfl (KX rfl (KX rfl (KX rfl (KX rfl MG))))))))))))))))))))) fun j1 j2 cm=>?_)))))
       have eO:=jX.all cm (eN p rfl)
       have eP:=j0.all cm jW
       refine KI (iv 0) rfl rfl (KS rfl rfl rr) (KM ?_)
       have j3:=K4 (iv 0)
       refine KG (Lb (Lq (O9 ?_)))
       have j4:Pr j1 (fun i=>(Lf p) i\/((Lf g2) i)) p l (MT l k ax ay bx yy st):=(by rw[hT0];first|exact Mo hf2 ho1 eO eP cj|exact Mo hf2 ho2 eO eP cj)
       have j5:KP w0 T_r (fun i=>(Lf p) i\/((Lf g2) i)):=fun i h=>h.elim (fun y=>eM i y) (fun y=>jV i y)
       exact L7 ao rfl (MK (vs:=(Oe m 0 0 (Rh l bx yy s1) (Ri l bx yy s1) ((LI l (MQ l bx yy s1)).1))) LE rfl af j2) (Ly (v:=iv 0) rfl j3) ⟨(fun i=>(Lf p) i\/((Lf g2) i)),(by rw[hR] <;> rfl),((eH.trans bt (KP.ok (S:=T_r) eM (fun _ x=>x))).trans cm (KP.ok (S:=T_r) an K3)),⟨j4,j5⟩⟩
    ·skip
     refine Lg (KG (KJ (KJ ?_)))
     first|(rw[SN (has:=M7 m) (by assumption)] at h1;replace h1:=h1.trans (by unfold UO;exact if_pos rfl);(try dsimp only at h1))|(have hv2:PN l bx yy (MQ l ax ay s1)=0:=(by first|assumption|(apply Decidable.byContradiction;assumption));replace h1:=h1.trans (by unfold UO;exact if_pos hv2);(try dsimp only at h1);rw[← QK hv2] at h1)|(have hv2:PN l bx yy s1=0:=(by first|assumption|(apply Decidable.byContradiction;assumption));replace h1:=h1.trans (by unfold UO;exact if_pos hv2);(try dsimp only at h1);rw[← QK hv2] at h1)
     refine KH (LB (R:=fun v_ w_=>∃ (cn:Nat->Prop),.tuple #[LJ ((LI l s1).1),iv ((LI l s1).2.1)]=v_/\KO aj aH w_/\(PJ w_ cn ae l (Xp l s1) ([(p,st)])/\KP aH aj cn)) rfl rfl (LH rfl rfl rfl (fun _ _=>by kernel_rfl) (K5 _) (Lk ak LR) (RD ae l s1 ([(p,st)]) aj _ (hO.but aC (ovO hG)) (ovO (U4 ap hG hA)) bF ) (fun e_ w_ h_=>by obtain⟨T1169_,he_,hr_⟩:=h_;exact⟨_,he_,T1169_,rfl,hr_⟩)) ?_)
     rintro _ lm ⟨cn,rfl,co,⟨j6,eQ⟩⟩
     have j7:=aI.all co (aq.symm ac rfl)
     have j8:=aJ.all co (aB ah rfl)
     have bu:=ap.trans aC eQ
     obtain⟨bv,eR⟩:=VN eQ aq aI (aB.symm) aJ
     refine KI (.tuple #[LJ ((LI l s1).1),iv ((LI l s1).2.1)]) rfl rfl (KQ rfl rfl rr) (KI (LJ ((LI l s1).1)) rfl rfl (LL rfl rfl rfl rr) (KI (iv ((LI l s1).2.1)) rfl rfl (LL rfl rfl rfl rr) (KI (pt ah 5) rfl rfl (KU (n:=16) rfl am Tryz.underlying71 rfl (by kernel_rfl) (by decide) rfl rr) (OH (us:=L8 16 ((LI l s1).1)) (ns:=(Oe m 0 0 0 0 ((LI l s1).1))) Qd rfl rfl rfl rfl rfl j8 (Nat.le_of_ble_eq_true rfl) (RW _ _) rfl fun ln j9 cq=>?_))))
     have eS:=j7.all cq (aw.symm ac rfl)
     have eT:=j6.all cq eR
     have eU:=(aC.trans co (fun i hi x=>((KP.ok (S:=T_r) ap (fun _ x=>x)) i hi x))).trans cq (KP.ok (S:=T_r) av K3)
     refine KI (iv ((LI l s1).2.1)) rfl rfl (KS rfl rfl rr) (KM ?_)
     have eV:=K4 (iv ((LI l s1).2.1))
     refine KG (KJ (KH (KR rfl rfl rfl eV (KI (.bool (decide (((LI l s1).2.1)≠0))) rfl rfl (Mb rfl rfl rfl rfl rr) (KM ?_)))))
     have ka:=K4 (.bool (decide (((LI l s1).2.1)≠0)))
     refine KG ?_
     refine K6 ka (fun aZ=>?_) (fun aZ=>?_)
     ·replace aZ:=of_decide_eq_true aZ
      refine Ns (Mi ?_)
      refine MO ⟨_,rfl,?_⟩
      refine KJ (Lg (KG (KJ ?_)))
      first|have hR:=h1.trans (by unfold XE;exact if_neg (by assumption))|have hR:=h1.trans (by unfold UO;exact if_neg (by assumption))|have hR:=h1.trans (by unfold Yi;exact if_neg (by assumption))|(have hRR:=PQ (l:=l) (k:=k) (ax:=ax) (ay:=ay) (bx:=bx) (yy:=yy) hm hs1 (by first|exact Or.inl (by assumption)|exact Or.inr (by assumption));obtain⟨s9,hR⟩:=hRR)
      have hT0:MT l k ax ay bx yy st=st:=by unfold MT;rw[hR];exact if_neg (by first|assumption|(intro z;exact absurd (show (120:Int)=0 from z) (by decide)))
      obtain⟨g2,a1,b1,a2,b2,hf2,hT2,ho1,ho2,ai,hq2,hg2,ap1_,ap2_,ap3_⟩:=NS eT
      have kb:KP w0 T_r (Lf p):=fun i h=>bu i ((fun i h=>(hT2 i).2 (Or.inl h)) i h)
      have kd:KK (Lf p) (Lf ac):=fun i h=>bv i ((fun i h=>(hT2 i).2 (Or.inl h)) i h)
      have ke:KP w0 T_r (Lf g2):=fun i h=>bu i ((fun i h=>(hT2 i).2 (Or.inr (Or.inr h))) i h)
      have kf:KK (Lf g2) (Lf ac):=fun i h=>bv i ((fun i h=>(hT2 i).2 (Or.inr (Or.inr h))) i h)
      have eW:KK (Lf p) (Lf g2):=ap2_
      refine KH (KI (.agg (Oe 0 0 0 0 0 (fun _=>(0:Int))).toArray) rfl rfl (LZ (l':=[]) (cells:=(Oe 0 0 0 0 0 (fun _=>(0:Int))).toArray) rfl Rv (by kernel_rfl) rfl rr) (KR rfl rfl rfl eV (Lj (us:=(Oe 0 0 0 0 0 (fun _=>(0:Int)))) LE rfl rfl rfl af rfl eS rfl (KX rfl (KX rfl (KX rfl (KX rfl (KX rfl (KX rfl (KX rfl (KX rfl (KX rfl (KX rfl (KX rfl (KX rfl (KX rfl (KX rfl (KX rfl (KX rfl (KX rfl (KX rfl (KX rfl (KX rfl (KX rfl MG))))))))))))))))))))) fun kg ki cr=>?_)))
      have eX:=ai.all cr (kd p rfl)
      have eY:=hg2.all cr kf
      refine KI (iv ((LI l s1).2.1)) rfl rfl (KS rfl rfl rr) (KM ?_)
      have kj:=K4 (iv ((LI l s1).2.1))
      refine KG (Lb (M0 ?_))
      have kn:Pr kg (fun i=>(Lf p) i\/((Lf g2) i)) p l (MT l k ax ay bx yy st):=(by rw[hT0];first|exact Mo hf2 ho1 eX eY eW|exact Mo hf2 ho2 eX eY eW)
      have ko:KP w0 T_r (fun i=>(Lf p) i\/((Lf g2) i)):=fun i h=>h.elim (fun y=>kb i y) (fun y=>ke i y)
      exact L7 ao rfl (MK (vs:=(Oe 0 0 0 0 0 (fun _=>(0:Int)))) LE rfl af ki) (Ly (v:=iv ((LI l s1).2.1)) rfl kj) ⟨(fun i=>(Lf p) i\/((Lf g2) i)),(by rw[hR] <;> rfl),(eU.trans cr (KP.ok (S:=T_r) an K3)),⟨kn,ko⟩⟩
     ·replace aZ:=of_decide_eq_false aZ
      refine Lg (KG (KJ ?_))
      have hR:=h1.trans (by unfold Yi;exact if_pos (by first|assumption|(apply Decidable.byContradiction;assumption)))
      have hT0:=(show MT l k ax ay bx yy st=(Re l k ax ay bx yy st).2.2 from if_pos (by rw[hR]))
      rw[hR] at hT0
      dsimp only at hT0
      rw[← U1 (by first|assumption|(apply Decidable.byContradiction;assumption))] at hT0
      obtain⟨g2,a1,b1,a2,b2,hf2,hT2,ho1,ho2,ai,hq2,hg2,ap1_,ap2_,ap3_⟩:=NS eT
      have eZ:KP w0 T_r (Lf p):=fun i h=>bu i ((fun i h=>(hT2 i).2 (Or.inl h)) i h)
      have e6:KK (Lf p) (Lf ac):=fun i h=>bv i ((fun i h=>(hT2 i).2 (Or.inl h)) i h)
      have kp:KK (Lf p) (Lf ah):=fun i h=>eR i ((fun i h=>(hT2 i).2 (Or.inl h)) i h)
      have kq:KP w0 T_r (Lf g2):=fun i h=>bu i ((fun i h=>(hT2 i).2 (Or.inr (Or.inr h))) i h)
      have kr:KK (Lf g2) (Lf ac):=fun i h=>bv i ((fun i h=>(hT2 i).2 (Or.inr (Or.inr h))) i h)
      have ct:KK (Lf p) (Lf g2):=ap2_
      refine KH (KR rfl rfl rfl aE (KI (.agg #[.slice (some ⟨g2,0,none⟩) l.length l.length,iv ((a2:Nat):Int),.bool b2]) rfl rfl (KZ ML rfl ak hq2 rr) (KI (pt p 0) rfl rfl (Ol rfl rfl rr) (Lj (us:=[.slice (some ⟨g2,0,none⟩) l.length l.length,iv ((a2:Nat):Int),.bool b2]) ML rfl rfl rfl rfl rfl ai rfl (KX rfl (KX rfl (KX rfl MG))) fun lp ks bz=>?_))))
      have kt:=eS.all bz (e6.symm ac rfl)
      have ku:=j9.all bz (kp.symm ah rfl)
      have kv:=hg2.all bz ct.symm
      refine KM ?_
      refine KG (KJ (KJ (KH (KI (.agg (Oe m 0 0 0 0 ((LI l s1).1)).toArray) rfl rfl (KZ LE rfl am ku rr) (Lj (us:=(Oe m 0 0 0 0 ((LI l s1).1))) LE rfl rfl rfl af rfl kt rfl (KX rfl (KX rfl (KX rfl (KX rfl (KX rfl (KX rfl (KX rfl (KX rfl (KX rfl (KX rfl (KX rfl (KX rfl (KX rfl (KX rfl (KX rfl (KX rfl (KX rfl (KX rfl (KX rfl (KX rfl (KX rfl MG))))))))))))))))))))) fun kw kx cu=>?_)))))
      have e7:=ks.all cu (e6 p rfl)
      have e8:=kv.all cu kr
      refine KI (iv 0) rfl rfl (KS rfl rfl rr) (KM ?_)
      have ky:=K4 (iv 0)
      refine KG (Lb (Lq (O9 ?_)))
      have kz:Pr kw (fun i=>(Lf p) i\/((Lf g2) i)) p l (MT l k ax ay bx yy st):=(by rw[hT0];first|exact Mo hf2 ho1 e7 e8 ct|exact Mo hf2 ho2 e7 e8 ct)
      have kA:KP w0 T_r (fun i=>(Lf p) i\/((Lf g2) i)):=fun i h=>h.elim (fun y=>eZ i y) (fun y=>kq i y)
      exact L7 ao rfl (MK (vs:=(Oe m 0 0 0 0 ((LI l s1).1))) LE rfl af kx) (Ly (v:=iv 0) rfl ky) ⟨(fun i=>(Lf p) i\/((Lf g2) i)),(by rw[hR] <;> rfl),((eU.trans bz (KP.ok (S:=T_r) eZ (fun _ x=>x))).trans cu (KP.ok (S:=T_r) an K3)),⟨kz,kA⟩⟩
  ·skip
   refine KH (LB (R:=fun v_ w_=>v_ = .bool false/\KO (fun _=>False) bB w_) rfl rfl (LH rfl rfl rfl (fun _ _=>by kernel_rfl) (K5 _) (Lk ak LR) (RF ae l s1 ([(p,st)]) aj _  aG ) (fun e_ w_ h_=>⟨_,h_.1,(congrArg Value.bool a9),h_.2⟩)) ?_)
   rintro _ kB ⟨rfl,e9⟩
   obtain⟨kC,kD,kE⟩:=Nu e9 bC aG dj
   have fa:=bD.tr e9
   refine KI (.bool false) rfl rfl (KQ rfl rfl rr) (KT (iv k) 1 false 30 rfl rfl rfl rfl rfl (KQ rfl cL rr) (KT (pt ah 0) 1 false 30 rfl rfl rfl rfl rfl (KU (n:=1) rfl am Tryz.underlying71 rfl (by kernel_rfl) (by decide) rfl rr) (KT (iv m) 1 false 30 rfl rfl rfl rfl rfl (KY rfl rfl Tryz.underlying3 kE rfl rfl rr) (LN (R:=fun v_ w_=>v_ = .bool false/\KO (fun _=>False) kB w_) 1 false 30 rfl rfl rfl rfl rfl (LH rfl rfl rfl (fun _ _=>by kernel_rfl) (K5 _) (Lk rfl (Lk rfl LR)) (aBc k m  _ (hA.but fa hG)  ) (fun e_ w_ h_=>⟨_,h_.1,(congrArg Value.bool (decide_eq_false dr)),h_.2⟩)) ?_))))
   rintro _ lq ⟨rfl,fb⟩
   obtain⟨kF,kG⟩:=NA fb kC kD
   refine KT (.bool true) 1 false 30 rfl rfl rfl rfl rfl (L9 rfl rfl rfl rr) (KI (.bool true) rfl rfl (Li rfl rfl rfl rr) (KM ?_))
   have kH:=K4 (.bool true)
   refine KG ?_
   refine K6 (t:=true) kH (fun _=>?_) (fun e=>by cases e)
   refine Ns (Mi ?_)
   refine MO ⟨_,rfl,?_⟩
   refine KJ (Lg (KG (KJ ?_)))
   first|have hR:=h1.trans (by unfold XE;exact if_neg (by assumption))|have hR:=h1.trans (by unfold UO;exact if_neg (by assumption))|have hR:=h1.trans (by unfold Yi;exact if_neg (by assumption))|(have hRR:=PQ (l:=l) (k:=k) (ax:=ax) (ay:=ay) (bx:=bx) (yy:=yy) hm hs1 (by first|exact Or.inl (by assumption)|exact Or.inr (by assumption));obtain⟨s9,hR⟩:=hRR)
   have hT0:MT l k ax ay bx yy st=st:=by unfold MT;rw[hR];exact if_neg (by first|assumption|(intro z;exact absurd (show (120:Int)=0 from z) (by decide)))
   obtain⟨g2,a1,b1,a2,b2,hf2,hT2,ho1,ho2,ai,hq2,hg2,ap1_,ap2_,ap3_⟩:=NS kG
   have kI:KP w0 T_r (Lf p):=fun i h=>ap i ((fun i h=>(hT2 i).2 (Or.inl h)) i h)
   have kJ:KK (Lf p) (Lf ac):=fun i h=>aq i ((fun i h=>(hT2 i).2 (Or.inl h)) i h)
   have kK:KP w0 T_r (Lf g2):=fun i h=>ap i ((fun i h=>(hT2 i).2 (Or.inr (Or.inr h))) i h)
   have kL:KK (Lf g2) (Lf ac):=fun i h=>aq i ((fun i h=>(hT2 i).2 (Or.inr (Or.inr h))) i h)
   have fc:KK (Lf p) (Lf g2):=ap2_
   refine KH (KI (.agg (Oe 0 0 0 0 0 (fun _=>(0:Int))).toArray) rfl rfl (LZ (l':=[]) (cells:=(Oe 0 0 0 0 0 (fun _=>(0:Int))).toArray) rfl Rv (by kernel_rfl) rfl rr) (KR rfl rfl rfl dl (Lj (us:=(Oe 0 0 0 0 0 (fun _=>(0:Int)))) LE rfl rfl rfl af rfl kF rfl (KX rfl (KX rfl (KX rfl (KX rfl (KX rfl (KX rfl (KX rfl (KX rfl (KX rfl (KX rfl (KX rfl (KX rfl (KX rfl (KX rfl (KX rfl (KX rfl (KX rfl (KX rfl (KX rfl (KX rfl (KX rfl MG))))))))))))))))))))) fun kM kN cv=>?_)))
   have fd:=ai.all cv (kJ p rfl)
   have fe:=hg2.all cv kL
   refine KI (iv 120) rfl rfl (KS rfl rfl rr) (KM ?_)
   have kO:=K4 (iv 120)
   refine KG (Lb (M0 ?_))
   have kP:Pr kM (fun i=>(Lf p) i\/((Lf g2) i)) p l (MT l k ax ay bx yy st):=(by rw[hT0];first|exact Mo hf2 ho1 fd fe fc|exact Mo hf2 ho2 fd fe fc)
   have kQ:KP w0 T_r (fun i=>(Lf p) i\/((Lf g2) i)):=fun i h=>h.elim (fun y=>kI i y) (fun y=>kK i y)
   exact L7 ao rfl (MK (vs:=(Oe 0 0 0 0 0 (fun _=>(0:Int)))) LE rfl af kN) (Ly (v:=iv 120) rfl kO) ⟨(fun i=>(Lf p) i\/((Lf g2) i)),(by rw[hR] <;> rfl),((fa.tr fb).trans cv (KP.ok (S:=T_r) an K3)),⟨kP,kQ⟩⟩
end Go.Proofs.YtknjpdcpmpfklaaGreatDoor
set_option maxRecDepth 100000
namespace Go.Proofs.YtknjpdcpmpfklaaGreatDoor
open Go.ChangeShapes Go.WideShapes Go.ChangeAt Go.RowKit Go.Deep
def Yr : List (String × DataW Unit) := [("clapboard/quant.steps", Rows.laid_clapboard_quant_steps), ("clapboard/scan.order", Rows.laid_clapboard_scan_order), ("clapboard/wave.waves", Rows.laid_clapboard_wave_waves), ("clapboard/block.acts", Rows.laid_clapboard_block_acts)]
theorem Tryz.gActs : Tryz.prog.globalNamed "clapboard/block.acts" = some 1 := by kernel_rfl
theorem Tryz.tActs:(Tryz.prog.globals[1]?).map (·.type)=some 165:=by kernel_rfl
theorem Tryz.c21a:Tryz.prog.cellsOf 165=21:=by kernel_rfl
theorem Tryz.c3a:Tryz.prog.cellsOf 164=3:=by kernel_rfl
theorem Tryz.c1b:Tryz.prog.cellsOf 4=1:=by kernel_rfl
theorem ay1(os:Os)(args:Array Value):laidMetH Tryz.prog Yr ((World.doorLaid Tryz.prog 400 os).forCall (fun _ _=>0) ⟨#[],args,[]⟩).memory :=
 laidMetH_of_parts3 (fuel:=8) (laidMet_of_run' 8 (by kernel_rfl) (by kernel_rfl)) (by kernel_rfl) (by kernel_rfl)
def aEs{H:Type}(q:Int×Bool×Bool):DataW H:=.agg [.lit (.int .i64 q.1),.lit (.bool q.2.1),.lit (.bool q.2.2)]
def aEJ:List (Int×Bool×Bool):=[(0,false,false),(0,false,false),(0,false,false),(0,false,false),(1,true,false),(2,false,true),(2,true,true)]
theorem azr{W:World}{f:Nat}{l:List (Int×Bool×Bool)}{cs:List Value}{p:List MemPlace}
  (hd:DataW.trod (fun _=>()) Tryz.prog W 0 (fun _=>true) false f 165 cs=some (.agg (l.map aEs),p)):cs.length=21/\∀ u,u<7->∃ q,l[u]? = some q/\cs[u*3]? = some (.int .i64 q.1)/\cs[u*3+1]? = some (.bool q.2.1)/\cs[u*3+2]? = some (.bool q.2.2):=by
 obtain⟨xs,k,rfl,hx,hl,hn,hel⟩:=DataW.trod_array Tryz.underlying165 hd
 rw[Tryz.c21a] at hl
 refine⟨hl,fun u hu=>?_⟩
 simp only[Prod.mk.injEq,DataW.agg.injEq] at hx
 have h1:=hel u hu
 rw[Tryz.c3a,List.getElem?_eq_getElem (by omega)] at h1
 have e1:(xs.map (·.1))[u]? = some xs[u].1:=by rw[List.getElem?_map,List.getElem?_eq_getElem (by omega)];rfl
 rw[← hx.1,List.getElem?_map] at e1
 cases hq:l[u]? with
 | none=>rw[hq] at e1;cases e1
 | some y =>
  rw[hq] at e1
  simp only[Option.map_some,Option.some.injEq] at e1
  obtain⟨y0,y1,y2,n,hagg,hsz,h2,h3,h4⟩:=trod_struct3 Tryz.underlying164 h1
  simp only[Tryz.c1,Tryz.c1b] at h2 h3 h4
  obtain⟨z0,hz0,hd0,_⟩:=DataW.trod_int Tryz.underlying3 h2
  obtain⟨b1,hz1,hd1⟩:=DataW.trod_bool Tryz.underlying4 h3
  obtain⟨b2,hz2,hd2⟩:=DataW.trod_bool Tryz.underlying4 h4
  rw[hagg] at e1
  simp only[aEs,DataW.agg.injEq,List.cons.injEq,and_true] at e1
  rw[hd0,hd1,hd2] at e1
  simp only[DataW.lit.injEq,Lit.int.injEq,Lit.bool.injEq,true_and] at e1
  obtain⟨r0,r1,r2⟩:=e1
  have g0:=congrArg (·[0]?) hz0
  have g1:=congrArg (·[0]?) hz1
  have g2:=congrArg (·[0]?) hz2
  refine⟨y,rfl,?_,?_,?_⟩
  ·rw[r0];simpa [List.getElem?_take,List.getElem?_drop] using g0
  ·rw[r1];simpa [List.getElem?_take,List.getElem?_drop] using g1
  ·rw[r2];simpa [List.getElem?_take,List.getElem?_drop] using g2
theorem aCm{W : World}{f : Nat}{cs : Array Value}{p : List MemPlace}(hv : World.var? Tryz.prog W "clapboard/block.acts" = some cs)
  (hd:DataW.trod (fun _=>()) Tryz.prog W 0 (fun _=>true) false f 165 cs.toList=some (Rows.laid_clapboard_block_acts,p)) (hs:5<=W.heap.size):NO W:=by
 have key:=(azr (l:=aEJ) hd).2
 refine⟨hs,fun i hi=>?_⟩
 rw[World.var?_cell Tryz.gActs hv i,show cs[i]? = cs.toList[i]? by simp]
 obtain⟨q,hq,k0,k1,k2⟩:=key (i/3) (by omega)
 have hc:i/3<7/\(i=i/3*3\/i=i/3*3+1\/i=i/3*3+2):=by omega
 generalize i/3=u at *
 obtain⟨hu,hi3⟩:=hc
 have hu7:u=0\/u=1\/u=2\/u=3\/u=4\/u=5\/u=6:=by omega
 rcases hu7 with rfl|rfl|rfl|rfl|rfl|rfl|rfl <;> obtain rfl:=Option.some.inj hq <;> rcases hi3 with rfl|rfl|rfl <;> first|exact k0.trans rfl|exact k1.trans rfl|exact k2.trans rfl
theorem W8{W:World}(h:laidMetH Tryz.prog Yr W):NU W/\Of W/\Qg W/\NO W:=by
 rw[MakeChecks.laidMetH_plain _ _ _ (by kernel_rfl)] at h
 obtain⟨ps,⟨g0,t0,cs0,f0,p0,q0,hg0,ht0,hv0,hd0,⟨g1,t1,cs1,f1,p1,q1,hg1,ht1,hv1,hd1,⟨g2,t2,cs2,f2,p2,q2,hg2,ht2,hv2,hd2,⟨g3,t3,cs3,f3,p3,q3,hg3,ht3,hv3,hd3,_,_⟩,_⟩,_⟩,_⟩,_,_⟩:=h
 obtain rfl:=Option.some.inj (Tryz.gSteps.symm.trans hg0)
 obtain rfl:=Option.some.inj (Tryz.tSteps.symm.trans ht0)
 obtain rfl:=Option.some.inj (Tryz.gOrder.symm.trans hg1)
 obtain rfl:=Option.some.inj (Tryz.tOrder.symm.trans ht1)
 obtain rfl:=Option.some.inj (Tryz.gWaves.symm.trans hg2)
 obtain rfl:=Option.some.inj (Tryz.tWaves.symm.trans ht2)
 obtain rfl:=Option.some.inj (Tryz.gActs.symm.trans hg3)
 obtain rfl:=Option.some.inj (Tryz.tActs.symm.trans ht3)
 have h0:=aAP hv0 hd0
 have h1:=azR hv1 hd1
 have h2:=aAn hv2 hd2
 obtain⟨t4,f4,h4⟩:=WM Tryz.gActs hv3
 have s0:=h0.1
 have s1:=h1.pos
 have s2:=h2.1
 have s3:=MJ h4
 exact⟨h0,h1,h2,aCm hv3 hd3 (by omega)⟩
end Go.Proofs.YtknjpdcpmpfklaaGreatDoor
set_option maxRecDepth 100000
namespace Go.Proofs.YtknjpdcpmpfklaaGreatDoor
def NN(n:Int):Prop:=8<=n/\n<=64/\n%8=0
instance (n:Int):Decidable (NN n):=by unfold NN;infer_instance
def Pg(W H R B:Int):Prop:=NN W/\NN H/\1<=R/\R<=16777216/\R<=B/\B<=1073741824
instance (W H R B:Int):Decidable (Pg W H R B):=by unfold Pg;infer_instance
def On(K Q D F:Int):Prop:=0<=K/\K<=2/\0<=Q/\Q<=20/\0<=D/\D<16777216/\0<=F/\F<=1073741824
instance (K Q D F:Int):Decidable (On K Q D F):=by unfold On;infer_instance
def OS(W H R B:Int):Int:=if Pg W H R B then 0 else 110
def PP(K Q D F:Int):Int:=if On K Q D F then 0 else 110
def nm(a b c d:Nat):Int:=(a:Int)*16777216+(b:Int)*65536+(c:Int)*256+(d:Int)
def aDV(l:List Nat)(i:Nat):Int:=nm (l.getD i 0) (l.getD (i+1) 0) (l.getD (i+2) 0) (l.getD (i+3) 0)
def nm0(l:List Nat):Int:=(l.getD 0 0:Nat)
def nm1(l:List Nat):Int:=(l.getD 1 0:Nat)
def nm2(l:List Nat):Int:=aDV l 2
def nm3(l:List Nat):Int:=aDV l 6
def aD9(l:List Nat):Prop:=l.length=10/\Pg (nm0 l) (nm1 l) (nm2 l) (nm3 l)
instance (l:List Nat):Decidable (aD9 l):=by unfold aD9;infer_instance
def aCF(l:List Nat):Prop:=10<=l.length/\On (nm0 l) (nm1 l) (nm2 l) (nm3 l)
instance (l:List Nat):Decidable (aCF l):=by unfold aCF;infer_instance
end Go.Proofs.YtknjpdcpmpfklaaGreatDoor
set_option maxRecDepth 100000
namespace Go.Proofs.YtknjpdcpmpfklaaGreatDoor
abbrev chZ:Ch:=⟨0,0,0,0,0,fun _=>0⟩
def pX(w i:Nat):Int:=((i%w:Nat):Int)
def pY(w i:Nat):Int:=((i/w:Nat):Int)
structure XG where
  a:VF
  b:VF
  s:Option Nat
def Ma(l:List Nat)(k:Int)(w i:Nat)(t:XG):Ch×Int×Option Nat:=Re l k (gX t.a (pX w i) (pY w i)) (gY t.a (pX w i) (pY w i)) (gX t.b (pX w i) (pY w i)) (gY t.b (pX w i) (pY w i)) t.s
def YD(l:List Nat)(k:Int)(w i:Nat)(t:XG):XG:=⟨Ud t.a (pX w i) (pY w i) (Ma l k w i t).1.px (Ma l k w i t).1.py,Ud t.b (pX w i) (pY w i) (Ma l k w i t).1.nx (Ma l k w i t).1.ny,(Ma l k w i t).2.2⟩
def Sz(l:List Nat)(k:Int)(w:Nat):Nat->Nat->XG->List Ch->List Ch×Int×Option Nat
 | 0,_,t,o=>(o,0,t.s)
 | m+1,i,t,o=>if (Ma l k w i t).2.1=0 then Sz l k w m (i+1) (YD l k w i t) (o ++ [(Ma l k w i t).1]) else ([],(Ma l k w i t).2.1,t.s)
theorem Sf{l:List Nat}{k:Int}{w m i:Nat}{t:XG}{o:List Ch}(h:(Ma l k w i t).2.1=0):Sz l k w (m+1) i t o=Sz l k w m (i+1) (YD l k w i t) (o ++ [(Ma l k w i t).1]):=if_pos h
theorem UT{l:List Nat}{k:Int}{w m i:Nat}{t:XG}{o:List Ch}(h:(Ma l k w i t).2.1≠0):Sz l k w (m+1) i t o=([],(Ma l k w i t).2.1,t.s):=if_neg h
def Lh(W:Int)(p:Nat):Nat:=if p=0 then (W/4).toNat else (W/8).toNat
def W6(l:List Nat)(k W H:Int)(p:Nat)(s:Option Nat)(o:List Ch):List Ch×Int×Option Nat :=
 Sz l k (Lh W p) (Lh W p*Lh H p) 0 ⟨Qz (Lh W p) (Lh H p),Qz (Lh W p) (Lh H p),s⟩ o
def Nw(l:List Nat)(k W H:Int):Nat->List Ch×Int×Option Nat
 | 0=>([],0,some 0)
 | p+1=>if (Nw l k W H p).2.1=0 then W6 l k W H p (Nw l k W H p).2.2 (Nw l k W H p).1 else Nw l k W H p
theorem Se{l:List Nat}{k W H:Int}{p:Nat}(h:(Nw l k W H p).2.1=0):Nw l k W H (p+1)=W6 l k W H p (Nw l k W H p).2.2 (Nw l k W H p).1:=if_pos h
theorem TG{l:List Nat}{k W H:Int}{p:Nat}(h:(Nw l k W H p).2.1≠0):Nw l k W H (p+1)=Nw l k W H p:=if_neg h
def OT(l:List Nat)(k W H:Int):List Ch×Int :=
 if (Nw l k W H 3).2.1=0 then (if Oa l (Nw l k W H 3).2.2=0 then ((Nw l k W H 3).1,0) else ([],130)) else ([],(Nw l k W H 3).2.1)
def Qy(W H R B K Q D F:Int):Prop:=Pg W H R B/\On K Q D F
instance (W H R B K Q D F:Int):Decidable (Qy W H R B K Q D F):=by unfold Qy;infer_instance
def ME(l:List Nat)(W H R B K Q D F:Int):List Ch×Int:=if Qy W H R B K Q D F then OT l K W H else ([],110)
theorem Xs{l:List Nat}{W H R B K Q D F:Int}(h:¬ Qy W H R B K Q D F):ME l W H R B K Q D F=([],110):=if_neg h
theorem N8{l:List Nat}{W H R B K Q D F:Int}(h:Qy W H R B K Q D F):ME l W H R B K Q D F=OT l K W H:=if_pos h
theorem Tv{l:List Nat}{k W H:Int}{p:Nat}(hp:p<=3)(h:(Nw l k W H p).2.1≠0):OT l k W H=([],(Nw l k W H p).2.1):=by
 have e:∀ q,(Nw l k W H p).2.1=(Nw l k W H (p+q)).2.1:=by
  intro q
  induction q with
  | zero=>rfl
  | succ q ih=>rw[← Nat.add_assoc,TG (by rw[← ih];exact h)];exact ih
 have e3:=e (3-p)
 rw[show p+(3-p)=3 by omega] at e3
 unfold OT;rw[if_neg (by rw[← e3];exact h),← e3]
theorem Ue{l:List Nat}{k W H:Int}(h:(Nw l k W H 3).2.1=0)(h2:Oa l (Nw l k W H 3).2.2≠0):OT l k W H=([],130):=by unfold OT;rw[if_pos h,if_neg h2]
theorem Xe{l:List Nat}{k W H:Int}(h:(Nw l k W H 3).2.1=0)(h2:Oa l (Nw l k W H 3).2.2=0):OT l k W H=((Nw l k W H 3).1,0):=by unfold OT;rw[if_pos h,if_pos h2]
def M5(W H R B:Int)(f:FD):Prop:=Pg W H R B/\QY f/\W=f.W/\H=f.H
instance (W H R B:Int) (f:FD):Decidable (M5 W H R B f):=by unfold M5;infer_instance
def aA2(g h:FD)(q p:Int)(w i:Nat)(c:Ch)(F:FD):FD:=Qi F p (4*pX w i) (4*pY w i) (buB (Xd F g h p (4*pX w i) (4*pY w i) c) c.b q)
def aBr(g h:FD)(q p:Int)(w:Nat)(L:List Ch)(a:Nat)(F:FD):Nat->FD
 | 0=>F
 | i+1=>aA2 g h q p w i (L.getD (a+i) chZ) (aBr g h q p w L a F i)
def N4(W H:Int):Nat->Nat
 | 0=>0
 | p+1=>N4 W H p+Lh W p*Lh H p
def aBM(g h:FD)(q W H:Int)(L:List Ch):Nat->FD
 | 0=>LG W H 0
 | p+1=>aBr g h q p (Lh W p) L (N4 W H p) (aBM g h q W H L p) (Lh W p*Lh H p)
def Qw(l:List Nat)(W H R B K Q D F:Int)(g h:FD):Int:=if Qy W H R B K Q D F then (if (K≠0/\¬ M5 W H R B g)\/(K=2/\¬ M5 W H R B h) then 130 else (OT l K W H).2) else 110
def OC(l:List Nat)(W H R B K Q D F:Int)(g h:FD):FD:=if Qw l W H R B K Q D F g h=0 then aBM g h Q W H (OT l K W H).1 3 else FD.none
theorem aAz{l:List Nat}{W H R B K Q D F:Int}{g h:FD}(hn:¬ Qy W H R B K Q D F):Qw l W H R B K Q D F g h=110:=if_neg hn
theorem aA0{l:List Nat}{W H R B K Q D F:Int}{g h:FD}(hm:Qy W H R B K Q D F)(hn:(K≠0/\¬ M5 W H R B g)\/(K=2/\¬ M5 W H R B h)):Qw l W H R B K Q D F g h=130:=by unfold Qw;rw[if_pos hm,if_pos hn]
theorem azJ{l:List Nat}{W H R B K Q D F:Int}{g h:FD}(hm:Qy W H R B K Q D F)(hn:¬ ((K≠0/\¬ M5 W H R B g)\/(K=2/\¬ M5 W H R B h))):Qw l W H R B K Q D F g h=(OT l K W H).2:=by unfold Qw;rw[if_pos hm,if_neg hn]
theorem WY{l:List Nat}{W H R B K Q D F:Int}{g h:FD}(hn:Qw l W H R B K Q D F g h≠0):OC l W H R B K Q D F g h=FD.none:=if_neg hn
theorem az4{l:List Nat}{W H R B K Q D F:Int}{g h:FD}(hn:Qw l W H R B K Q D F g h=0):OC l W H R B K Q D F g h=aBM g h Q W H (OT l K W H).1 3:=if_pos hn
theorem aBy{l:List Nat}{k:Int}{w:Nat}:∀ (m i:Nat) (t:XG) (o:List Ch),(Sz l k w m i t o).2.1=0->(Sz l k w m i t o).1.length=o.length+m:=by
 intro m
 induction m with
 | zero=>intro i t o _;rfl
 | succ m ih =>
  intro i t o h
  by_cases hc:(Ma l k w i t).2.1=0
  ·rw[Sf hc] at h ⊢
   rw[ih _ _ _ h,List.length_append];simp;omega
  ·rw[UT hc] at h;exact absurd h hc
theorem XK{l:List Nat}{k W H:Int}:∀ p,(Nw l k W H p).2.1=0->(Nw l k W H p).1.length=N4 W H p:=by
 intro p
 induction p with
 | zero=>intro _;rfl
 | succ p ih =>
  intro h
  by_cases hc:(Nw l k W H p).2.1=0
  ·rw[Se hc] at h ⊢
   unfold W6 at h ⊢
   rw[aBy _ _ _ _ h,ih hc];rfl
  ·rw[TG hc] at h;exact absurd h hc
theorem aCH{W:Int}(h:NN W):((Lh W 0:Nat):Int)=W/4/\((Lh W 1:Nat):Int)=W/8/\((Lh W 2:Nat):Int)=W/8/\2<=Lh W 0/\Lh W 0<=16/\1<=Lh W 1/\Lh W 1<=8/\Lh W 2=Lh W 1/\Lh W 0=2*Lh W 1:=by
 unfold NN at h
 have e0:Lh W 0=(W/4).toNat:=rfl
 have e1:Lh W 1=(W/8).toNat:=rfl
 have e2:Lh W 2=(W/8).toNat:=rfl
 rw[e0,e1,e2];omega
end Go.Proofs.YtknjpdcpmpfklaaGreatDoor
set_option maxRecDepth 100000
namespace Go.Proofs.YtknjpdcpmpfklaaGreatDoor
theorem ZW{f:FD}(h:QY f){p:Nat}(hp:p<3):Ld f (p:Int)=(((4*Lh f.W p:Nat):Int),((4*Lh f.H p:Nat):Int)):=by
 have hW:=(Mu _).1 h.1
 have hH:=(Mu _).1 h.2.1
 by_cases h0:p=0
 ·subst h0
  rw[Uv h (by rfl)]
  have e1:Lh f.W 0=(f.W/4).toNat:=rfl
  have e2:Lh f.H 0=(f.H/4).toNat:=rfl
  rw[e1,e2];exact Prod.ext (by simp only;omega) (by simp only;omega)
 ·rw[UF h (by omega) (by omega) (by omega),O8 (by omega),O8 (by omega)]
  have e1:Lh f.W p=(f.W/8).toNat:=if_neg h0
  have e2:Lh f.H p=(f.H/8).toNat:=if_neg h0
  rw[e1,e2];exact Prod.ext (by simp only;omega) (by simp only;omega)
theorem aDH{F:FD}(hF:QY F){p w n i:Nat}(hp:p<3)(hw:0<w)(hs:Ld F (p:Int)=(((4*w:Nat):Int),((4*n:Nat):Int)))(hi:i<w*n):aDG F (p:Int) (4*pX w i) (4*pY w i):=by
 have h1:i%w<w:=Nat.mod_lt _ hw
 have h2:i/w<n:=by rw[Nat.div_lt_iff_lt_mul hw,Nat.mul_comm];exact hi
 refine⟨hF,by omega,by omega,?_,?_,?_,?_⟩
 ·unfold pX;omega
 ·rw[hs];simp only;unfold pX;omega
 ·exact Int.mul_nonneg (by decide) (Int.natCast_nonneg _)
 ·rw[hs];simp only;unfold pY;omega
end Go.Proofs.YtknjpdcpmpfklaaGreatDoor
set_option maxRecDepth 100000
namespace Go.Proofs.YtknjpdcpmpfklaaGreatDoor
theorem azW{W H R B:Int}{f:FD}:M5 W H R B f↔OS W H R B=0/\Nn f=0/\W=f.W/\H=f.H:=by
 unfold M5 OS
 rw[Mv]
 by_cases h:Pg W H R B
 ·rw[if_pos h];simp[h]
 ·rw[if_neg h];simp[h]
theorem PC{n:Int}(h:NN n):Mk n=true:=(Mu _).2 h
def OA:List Nat:=Sa (List.replicate 12 true++PS 12)
set_option maxRecDepth 1000000 in
theorem aAe:(OT OA 0 8 8).2=0/\(OT OA 0 8 8).1.length=6:=by decide +kernel
set_option maxRecDepth 1000000 in
theorem aCV:Qw OA 8 8 100 1000 0 0 0 0 FD.none FD.none=0:=by decide +kernel
set_option maxRecDepth 1000000 in
theorem aAr:Qw OA 8 8 100 1000 1 0 0 0 FD.none FD.none=130/\(OT (OA ++ [0]) 0 8 8).2=130:=by decide +kernel
set_option maxRecDepth 1000000 in
theorem aEn:RL (OC OA 8 8 100 1000 0 0 0 0 FD.none FD.none) (LG 8 8 128)=true:=by decide +kernel
end Go.Proofs.YtknjpdcpmpfklaaGreatDoor
set_option maxRecDepth 100000
namespace Go.Proofs.YtknjpdcpmpfklaaGreatDoor
theorem Wt{l r:List Nat}{i:Nat}(h:i<8*l.length):QZ (l++r) i=QZ l i:=by
 unfold QZ
 rw[List.getD_eq_getElem?_getD,List.getD_eq_getElem?_getD,List.getElem?_append_left (by omega)]
theorem azz{l r:List Nat}{a:Nat}:∀ k,a+k<=8*l.length->O7 (l++r) a k=O7 l a k:=by
 intro k
 induction k with
 | zero=>intro _;rfl
 | succ k ih=>intro h;unfold O7;rw[ih (by omega),Wt (by omega)]
theorem SG{l r:List Nat}{a:Nat}:∀ (f z:Nat) (x:Int×Nat),Ov l a f z=some x->Ov (l++r) a f z=some x:=by
 intro f
 induction f with
 | zero=>intro z x h;cases h
 | succ f ih =>
  intro z x h
  unfold Ov at h ⊢
  have hl:(l++r).length=l.length+r.length:=List.length_append
  by_cases h1:a+z<8*l.length
  ·rw[if_pos h1] at h
   rw[if_pos (by omega),Wt h1]
   by_cases h2:QZ l (a+z)=true
   ·rw[if_pos h2] at h ⊢
    by_cases h3:a+z+1+z<=8*l.length
    ·rw[if_pos h3] at h;rw[if_pos (by omega),azz z (by omega)];exact h
    ·rw[if_neg h3] at h;cases h
   ·rw[if_neg h2] at h ⊢
    by_cases h3:31<z+1
    ·rw[if_pos h3] at h;cases h
    ·rw[if_neg h3] at h ⊢;exact ih _ _ h
  ·rw[if_neg h1] at h;cases h
theorem R7{l r:List Nat}{m:Int}{st:Option Nat}(h:(Ll (Lw l m) st).2≠none):Ll (Lw (l++r) m) st=Ll (Lw l m) st:=by
 cases st with
 | none=>rfl
 | some a =>
  rw[Sv] at h ⊢
  rw[Sv l m a]
  cases hq:Mn l a with
  | none=>rw[hq] at h;exact absurd rfl h
  | some x=>rw[show Mn (l++r) a=some x from SG 33 0 x hq]
theorem Wx(l:List Nat)(n:Int)(a:Nat):Ll (LK l n) (some a)=match Mn l a with
  | some (v,a')=>if n<Mw v\/n < -Mw v then (0,none) else (Mw v,some a')
  | none=>(0,none):=by
 cases hq:Mn l a with
 | none=>simp[Ll,LK,hq]
 | some x =>
  obtain⟨v,a'⟩:=x
  by_cases h:n<Mw v\/n < -Mw v
  ·simp[Ll,LK,hq,h]
  ·simp[Ll,LK,hq,h]
theorem RH{l r:List Nat}{m:Int}{st:Option Nat}(h:(Ll (LK l m) st).2≠none):Ll (LK (l++r) m) st=Ll (LK l m) st:=by
 cases st with
 | none=>rfl
 | some a =>
  rw[Wx] at h ⊢
  rw[Wx l m a]
  cases hq:Mn l a with
  | none=>rw[hq] at h;exact absurd rfl h
  | some x=>rw[show Mn (l++r) a=some x from SG 33 0 x hq]
theorem azv{l r:List Nat}{a:Nat}{st:Option Nat}(h:¬ RN (OZ l a st)):OZ (l++r) a st=OZ l a st:=by
 have h1:(OZ l a st).2.2≠none:=fun e=>h (.inl (by rw[e];rfl))
 have h2:(Ll (Lw l 15) st).2≠none:=fun e=>h1 (by unfold OZ;simp only;rw[e];rfl)
 unfold OZ at h1 ⊢
 simp only at h1
 rw[R7 h2,RH h1]
theorem Zv{l r:List Nat}:∀ (k a:Nat) (b:Nat->Int) (st:Option Nat),(Qo l k a b st).2.1=0->Qo (l++r) k a b st=Qo l k a b st:=by
 intro k
 induction k with
 | zero=>intro a b st _;rfl
 | succ k ih =>
  intro a b st h
  unfold Qo at h ⊢
  by_cases hb:RN (OZ l a st)
  ·rw[if_pos hb] at h;exact absurd (show (60:Int)=0 from h) (by decide)
  ·rw[if_neg hb] at h
   rw[azv hb,if_neg hb,if_neg hb]
   exact ih _ _ _ h
theorem Yv{l:List Nat}:∀ (k a:Nat) (b:Nat->Int),(Qo l k a b none).2.1≠0:=by
 intro k a b
 cases k with
 | zero=>unfold Qo;simp
 | succ k=>unfold Qo;rw[if_pos (.inl rfl)];exact(by decide:(60:Int)≠0)
theorem Zc{l r:List Nat}{st:Option Nat}(h:(LI l st).2.1=0):LI (l++r) st=LI l st:=by
 have h1:(Ll (Lw l 16) st).2≠none:=fun e=>by unfold LI at h;rw[e] at h;exact Yv _ _ _ h
 unfold LI at h ⊢
 rw[R7 h1]
 exact Zv _ _ _ _ h
theorem aCT{l r:List Nat}{A B:Int}{st:Option Nat}(h:PN l A B st=0):Rh (l++r) A B st=Rh l A B st/\Ri (l++r) A B st=Ri l A B st/\PN (l++r) A B st=PN l A B st/\vrS (l++r) st=vrS l st:=by
 have hk:RR l A B st:=Decidable.byContradiction fun hn=>by rw[(XQ hn).2.2] at h;exact absurd h (by decide)
 have h2:(Ob l (Ob l st).2).2≠none:=hk.1
 have h1:(Ob l st).2≠none:=fun e=>h2 (by rw[e];rfl)
 have e1:Ob (l++r) st=Ob l st:=RH h1
 have e2:Ob (l++r) (Ob l st).2=Ob l (Ob l st).2:=RH h2
 have hk':RR (l++r) A B st:=by unfold RR;rw[e1,e2];exact hk
 obtain⟨a1,a2,a3⟩:=VM hk
 obtain⟨b1,b2,b3⟩:=VM hk'
 refine⟨?_,?_,by rw[a3,b3],?_⟩
 ·rw[a1,b1,e1]
 ·rw[a2,b2,e1,e2]
 ·unfold vrS;rw[e1,e2]
theorem Z5{has:Bool}{l r:List Nat}{gx gy:Int}{s:Option Nat}(h:(ZK has l gx gy s).2.2.1=0):ZK has (l++r) gx gy s=ZK has l gx gy s:=by
 cases has with
 | false=>rfl
 | true =>
  rw[RC rfl] at h
  obtain⟨h1,h2,h3,h4⟩:=aCT (r:=r) h
  rw[RC rfl,RC rfl,h1,h2,h3,h4]
theorem aAJ{l r:List Nat}{k ax ay bx yy:Int}{st:Option Nat}(h:(Re l k ax ay bx yy st).2.1=0):Re (l++r) k ax ay bx yy st=Re l k ax ay bx yy st:=by
 unfold Re at h ⊢
 have h1:(Ll (Lw l (NJ k)) st).2≠none:=fun e=>by unfold rd1 at h;rw[if_pos (by rw[e];rfl)] at h;exact absurd (show (120:Int)=0 from h) (by decide)
 rw[R7 h1]
 generalize Ll (Lw l (NJ k)) st=m at h h1 ⊢
 have hn:¬ (m.2.isNone=true):=fun e=>h1 (Option.isNone_iff_eq_none.1 e)
 unfold rd1 at h ⊢
 rw[if_neg hn] at h ⊢
 rw[if_neg hn]
 have h2:(ZK (Nl m.1) l ax ay m.2).2.2.1=0:=Decidable.byContradiction fun hc=>by unfold XE at h;rw[if_neg hc] at h;exact hc h
 rw[Z5 h2]
 generalize ZK (Nl m.1) l ax ay m.2=p at h h2 ⊢
 unfold XE at h ⊢
 rw[if_pos h2] at h ⊢
 rw[if_pos h2]
 have h3:(ZK (M7 m.1) l bx yy p.2.2.2).2.2.1=0:=Decidable.byContradiction fun hc=>by unfold UO at h;rw[if_neg hc] at h;exact hc h
 rw[Z5 h3]
 generalize ZK (M7 m.1) l bx yy p.2.2.2=n at h h3 ⊢
 unfold UO at h ⊢
 rw[if_pos h3] at h ⊢
 rw[if_pos h3]
 have h4:(LI l n.2.2.2).2.1=0:=Decidable.byContradiction fun hc=>by unfold Yi at h;rw[if_neg hc] at h;exact hc h
 unfold Yi
 rw[Zc h4]
theorem VK{l r:List Nat}{k:Int}{w i:Nat}{t:XG}(h:(Ma l k w i t).2.1=0):Ma (l++r) k w i t=Ma l k w i t:=aAJ h
theorem aAY{l r:List Nat}{k:Int}{w i:Nat}{t:XG}(h:(Ma l k w i t).2.1=0):YD (l++r) k w i t=YD l k w i t:=by unfold YD;rw[VK h]
theorem aAc{l r:List Nat}{k:Int}{w:Nat}:∀ (m i:Nat) (t:XG) (o:List Ch),(Sz l k w m i t o).2.1=0->Sz (l++r) k w m i t o=Sz l k w m i t o:=by
 intro m
 induction m with
 | zero=>intro i t o _;rfl
 | succ m ih =>
  intro i t o h
  by_cases hc:(Ma l k w i t).2.1=0
  ·rw[Sf hc] at h ⊢
   rw[Sf (by rw[VK hc];exact hc),VK hc,aAY hc]
   exact ih _ _ _ h
  ·rw[UT hc] at h;exact absurd h hc
theorem azL{l r:List Nat}{k W H:Int}:∀ p,(Nw l k W H p).2.1=0->Nw (l++r) k W H p=Nw l k W H p:=by
 intro p
 induction p with
 | zero=>intro _;rfl
 | succ p ih =>
  intro h
  by_cases hc:(Nw l k W H p).2.1=0
  ·rw[Se hc] at h ⊢
   rw[Se (by rw[ih hc];exact hc),ih hc]
   exact aAc _ _ _ _ h
  ·rw[TG hc] at h;exact absurd h hc
theorem VD{l:List Nat}{st:Option Nat}(h:Oa l st=0):∃ a,st=some a/\a/8+1=l.length:=by
 cases st with
 | none=>exact absurd (show (10:Int)=0 from h) (by decide)
 | some a =>
  refine⟨a,rfl,?_⟩
  unfold Oa at h
  simp only at h
  split at h
  ·rename_i he
   unfold R6 at he
   exact(of_decide_eq_true he).1
  ·cases h
theorem Sx{l:List Nat}{k W H:Int}(h:(OT l k W H).2=0):(Nw l k W H 3).2.1=0/\Oa l (Nw l k W H 3).2.2=0/\(OT l k W H).1=(Nw l k W H 3).1:=by
 by_cases h1:(Nw l k W H 3).2.1=0
 ·by_cases h2:Oa l (Nw l k W H 3).2.2=0
  ·exact⟨h1,h2,by rw[Xe h1 h2]⟩
  ·rw[Ue h1 h2] at h;exact absurd h (by decide)
 ·rw[Tv (Nat.le_refl 3) h1] at h;exact absurd h h1
theorem Ut{l r:List Nat}{k W H:Int}(hr:r ≠ [])(h:(OT l k W H).2=0):(OT (l++r) k W H).2≠0:=fun h'=>by
 obtain⟨a1,a2,_⟩:=Sx h
 obtain⟨b1,b2,_⟩:=Sx h'
 rw[azL 3 a1] at b2
 obtain⟨a,e1,e2⟩:=VD a2
 obtain⟨b,e3,e4⟩:=VD b2
 rw[e1] at e3
 cases e3
 rw[List.length_append] at e4
 have:0<r.length:=List.length_pos_iff.2 hr
 omega
theorem W7{l:List Nat}{n:Nat}{k W H:Int}(hn:n<l.length)(h:(OT l k W H).2=0):(OT (l.take n) k W H).2≠0:=fun h'=>by
 have e:l.take n++l.drop n=l:=List.take_append_drop n l
 have:=Ut (r:=l.drop n) (by intro z;have:=congrArg List.length z;rw[List.length_drop] at this;simp at this;omega) h'
 rw[e] at this
 exact this h
theorem ay8{l:List Nat}{k W H:Int}(h:(OT l k W H).2=0):0<l.length:=by
 obtain⟨_,a2,_⟩:=Sx h
 obtain⟨a,_,e⟩:=VD a2
 omega
end Go.Proofs.YtknjpdcpmpfklaaGreatDoor
set_option maxRecDepth 100000
namespace Go.Proofs.YtknjpdcpmpfklaaGreatDoor
theorem azd{f:FD}(h:QY f){p i:Nat}(hp:p<3)(hi:i<Lh f.W p*Lh f.H p)(hw:0<Lh f.W p):MU f (p:Int) (4*pX (Lh f.W p) i) (4*pY (Lh f.W p) i):=by
 have hI:=aDH (n:=Lh f.H p) h hp hw (ZW h hp) hi
 have hs:=ZW h hp
 have hW:=(Mu _).1 h.1
 have hH:=(Mu _).1 h.2.1
 have h4:=aCH (W:=f.W) hW
 have h4':=aCH (W:=f.H) hH
 have x1:=hI.x1
 have y1:=hI.y1
 rw[hs] at x1 y1
 simp only at x1 y1
 have bw:Lh f.W p<=16/\Lh f.H p<=16:=by
  rcases (show p=0\/p=1\/p=2 by omega) with rfl|rfl|rfl <;> omega
 exact⟨h,by omega,by omega,hI.x0,by omega,hI.y0,by omega⟩
theorem aDA{W H:Int}{p i:Nat}(hp:p<3)(hi:i<Lh W p*Lh H p):N4 W H p+i<N4 W H 3:=by
 have e3:N4 W H 3=N4 W H 2+Lh W 2*Lh H 2:=rfl
 have e2:N4 W H 2=N4 W H 1+Lh W 1*Lh H 1:=rfl
 have e1:N4 W H 1=N4 W H 0+Lh W 0*Lh H 0:=rfl
 rcases (show p=0\/p=1\/p=2 by omega) with rfl|rfl|rfl <;> omega
end Go.Proofs.YtknjpdcpmpfklaaGreatDoor
set_option maxRecDepth 100000
namespace Go.Proofs.YtknjpdcpmpfklaaGreatDoor
open Go.RowKit
section
variable {P:Program} {ρ:Operand->Value} {o:Oper} {w:World} {R:Value->World->Prop}
theorem Xm{t:TypeId}(ho:o.op = .alloc t)(hz:∀ w,(zeroValue t).run P w = .ok (.agg (L8 16 (fun _=>0)).toArray) w)(h:R (.pointer (some ⟨w.heap.size,0,none⟩)) (w.alloc (.cells (L8 16 (fun _=>0)).toArray t))):Le P ρ o w R :=
 N1 (v:=.pointer (some ⟨w.heap.size,0,none⟩)) (w':=w.alloc (.cells (L8 16 (fun _=>0)).toArray t)) (by simp[execOp,ho,hz,go_sem]) h
end
end Go.Proofs.YtknjpdcpmpfklaaGreatDoor
set_option maxRecDepth 100000
namespace Go.Proofs.YtknjpdcpmpfklaaGreatDoor
open Go.RowKit
structure Thm where
  B:Value->(Nat->Prop)->World->Prop
  st:∀ (v:Value) (w w':World) (S T:Nat->Prop),B v T w->KO S w w'->KK T S->B v T w'
  li:∀ (v:Value) (w:World) (T:Nat->Prop),B v T w->Pe w T
inductive Pm where
  | eq (v:Value)
  | new (t:Thm)
def Pm.none:Pm:=.eq undef
def Pm.isNew:Pm->Bool
 | .eq _=>false
 | .new _=>true
structure Wg where
  A:World->Prop
  T:Nat->Prop
  st:∀ (w w':World) (S:Nat->Prop),A w->KO S w w'->KK T S->A w'
  li:∀ w,A w->Pe w T
def UK(Uz:List (Option (Bool×Nat)))(i:Nat):Option (Bool×Nat):=Uz.getD i none
def Qh(Uz:List (Option (Bool×Nat)))(L:Nat->Bool)(q:Bool×Nat):Prop:=∃ i,UK Uz i=some q/\L i=true
structure JM (S:Nat->Prop) (w0:World) (Gs:List Pm) (Uz:List (Option (Bool×Nat))) (Es:List Wg) (Bs:List (Nat->Prop)) (M:List (Nat×Nat)) (L:Nat->Bool) (v:Nat->Value) (Tf:Nat->Nat->Prop) (w:World):Prop where
  kept:KO S w0 w
  vals:∀ i x,L i=true->Gs.getD i Pm.none = .eq x->v i=x
  things:∀ i t,L i=true->Gs.getD i Pm.none = .new t->¬ Qh Uz L (true,i)->t.B (v i) (Tf i) w
  olds:∀ (e:Nat) (E:Wg),Es[e]? = some E->¬ Qh Uz L (false,e)->E.A w
  grew:∀ i t,L i=true->Gs.getD i Pm.none = .new t->KP w0 (Bs.getD i LX) (Tf i)
  tt:∀ i j t t',i≠j->L i=true->L j=true->Gs.getD i Pm.none = .new t->Gs.getD j Pm.none = .new t'->¬ Qh Uz L (true,i)->¬ Qh Uz L (true,j)->KK (Tf i) (Tf j)
  te:∀ (i e:Nat) (t:Thm) (E:Wg),L i=true->Gs.getD i Pm.none = .new t->¬ Qh Uz L (true,i)->Es[e]? = some E->¬ Qh Uz L (false,e)->KK (Tf i) E.T
  clos:∀ j i,(j,i)∈M->L j=true->L i=true
def Z2(Uz:List (Option (Bool×Nat))):Bool:=(List.range Uz.length).all fun i=>(List.range Uz.length).all fun j=>match UK Uz i with
 | some q=>i==j || !(UK Uz j==some q)
 | none=>true
def wfU(os:List Oper)(Gs:List Pm)(nE:Nat)(Uz:List (Option (Bool×Nat))):Bool:=Z2 Uz && (List.range Uz.length).all fun i=>match UK Uz i with
 | none=>true
 | some (true,j)=>(Gs.getD j Pm.none).isNew && (match os[i]? with|some o=>o.after.toList.any (fun e=>Region.binds .any e && e.on==j)|none=>false)
 | some (false,e)=>Nat.blt e nE
def BsL(Es:List Wg)(Bs:List (Nat->Prop)):List (Option (Bool×Nat))->List (Nat->Prop)->Prop
 | [],_=>True
 | none::r,b::bs=>b=LX/\BsL Es Bs r bs
 | some (true,j)::r,b::bs=>b=Bs.getD j LX/\BsL Es Bs r bs
 | some (false,e)::r,b::bs=>(∀ E,Es[e]? = some E->b=E.T)/\BsL Es Bs r bs
 | _::_,[]=>False
def azy(S:Nat->Prop):List (Nat->Prop)->Prop
 | []=>True
 | b::r=>(∀ x,b x->S x)/\azy S r
def Ti(S:Nat->Prop)(w0:World):List Wg->Prop
 | []=>True
 | E::r=>((∀ b,E.T b->S b)/\E.A w0/\(∀ (k:Nat) (E':Wg),r[k]? = some E'->KK E.T E'.T))/\Ti S w0 r
theorem X4{Uz:List (Option (Bool×Nat))}{i:Nat}{q:Bool×Nat}(h:UK Uz i=some q):i<Uz.length:=by
 unfold UK at h
 rcases Nat.lt_or_ge i Uz.length with h'|h'
 ·exact h'
 ·simp[List.getD,List.getElem?_eq_none h'] at h
theorem ZP{Uz:List (Option (Bool×Nat))}(h:Z2 Uz=true){i j:Nat}{q:Bool×Nat}(hi:UK Uz i=some q)(hj:UK Uz j=some q):i=j:=by
 have:=List.all_eq_true.1 (List.all_eq_true.1 h i (List.mem_range.2 (X4 hi))) j (List.mem_range.2 (X4 hj))
 rw[hi,hj] at this
 simpa using this
theorem aDY{Es:List Wg}{Bs:List (Nat->Prop)}:∀ {Uz:List (Option (Bool×Nat))} {bs:List (Nat->Prop)},BsL Es Bs Uz bs->∀ i,i<Uz.length->match UK Uz i with
  | none=>bs.getD i LX=LX
  | some (true,j)=>bs.getD i LX=Bs.getD j LX
  | some (false,e)=>∀ E,Es[e]? = some E->bs.getD i LX=E.T:=by
 intro Uz
 induction Uz with
 | nil=>intro bs _ i hi;exact absurd hi (Nat.not_lt_zero _)
 | cons u r ih =>
  intro bs h i hi
  cases bs with
  | nil=>exact(by cases u with|none=>exact h.elim|some q=>obtain⟨b,j⟩:=q;cases b <;> exact h.elim)
  | cons b bs =>
   cases i with
   | zero =>
    cases u with
    | none=>exact h.1
    | some q=>obtain⟨x,j⟩:=q;cases x <;> exact h.1
   | succ i =>
    have hr:BsL Es Bs r bs:=by
     cases u with
     | none=>exact h.2
     | some q=>obtain⟨x,j⟩:=q;cases x <;> exact h.2
    exact ih hr i (Nat.lt_of_succ_lt_succ hi)
theorem aDp{S:Nat->Prop}:∀ {Bs:List (Nat->Prop)},azy S Bs->∀ i x,Bs.getD i LX x->S x:=by
 intro Bs
 induction Bs with
 | nil=>intro _ i x h;exact absurd h (by simp[List.getD,LX])
 | cons b r ih =>
  intro h i x hx
  cases i with
  | zero=>exact h.1 x hx
  | succ i=>exact ih h.2 i x hx
theorem Ti.at{S:Nat->Prop}{w0:World}:∀ {Es:List Wg},Ti S w0 Es->∀ (e:Nat) (E:Wg),Es[e]? = some E->(∀ b,E.T b->S b)/\E.A w0:=by
 intro Es
 induction Es with
 | nil=>intro _ e E h;simp at h
 | cons x r ih =>
  intro h e E he
  cases e with
  | zero=>simp at he;subst he;exact⟨h.1.1,h.1.2.1⟩
  | succ e=>exact ih h.2 e E (by simpa using he)
theorem Ti.far{S:Nat->Prop}{w0:World}:∀ {Es:List Wg},Ti S w0 Es->∀ (e e':Nat) (E E':Wg),e≠e'->Es[e]? = some E->Es[e']? = some E'->KK E.T E'.T:=by
 intro Es
 induction Es with
 | nil=>intro _ e e' E E' _ h;simp at h
 | cons x r ih =>
  intro h e e' E E' hne he he'
  cases e with
  | zero =>
   cases e' with
   | zero=>exact absurd rfl hne
   | succ k=>simp at he;subst he;exact h.1.2.2 k E' (by simpa using he')
  | succ k =>
   cases e' with
   | zero=>simp at he';subst he';exact(h.1.2.2 k E (by simpa using he)).symm
   | succ k'=>exact ih h.2 k k' E E' (fun z=>hne (by rw[z])) (by simpa using he) (by simpa using he')
def UC(Gs:List Pm)(i:Nat)(Tu:Nat->Prop)(w:World)(v:Value)(w':World):Prop:=match Gs.getD i Pm.none with
 | .eq x=>v=x/\KO Tu w w'
 | .new t=>KO Tu w w'/\∃ T',t.B v T' w'/\KP w Tu T'
def Y6(Uz:List (Option (Bool×Nat)))(Es:List Wg)(Tf:Nat->Nat->Prop)(i:Nat)(Tu:Nat->Prop):Prop:=match UK Uz i with
 | none=>Tu=LX
 | some (true,j)=>Tu=Tf j
 | some (false,e)=>∀ E,Es[e]? = some E->Tu=E.T
theorem W3{os:List Oper}{Gs:List Pm}{nE:Nat}{Uz:List (Option (Bool×Nat))}(h:wfU os Gs nE Uz=true){i:Nat}{q:Bool×Nat}(hi:UK Uz i=some q):match q with
  | (true,j)=>(∃ t,Gs.getD j Pm.none = .new t)/\∃ o,os[i]? = some o/\∃ e∈o.after.toList,Region.binds .any e=true/\e.on=j
  | (false,e)=>e<nE:=by
 unfold wfU at h
 simp only[Bool.and_eq_true] at h
 have:=List.all_eq_true.1 h.2 i (List.mem_range.2 (X4 hi))
 rw[hi] at this
 obtain⟨b,j⟩:=q
 cases b with
 | false=>simpa [Nat.blt_eq] using this
 | true =>
  simp only[Bool.and_eq_true] at this
  refine⟨?_,?_⟩
  ·cases hg:Gs.getD j Pm.none with
   | eq x=>rw[hg] at this;simp[Pm.isNew] at this
   | new t=>exact⟨t,rfl⟩
  ·cases ho:os[i]? with
   | none=>rw[ho] at this;simp at this
   | some o =>
    rw[ho] at this
    obtain⟨e,he,hb⟩:=List.any_eq_true.1 this.2
    simp only[Bool.and_eq_true,beq_iff_eq] at hb
    exact⟨o,rfl,e,he,hb.1,hb.2⟩
theorem NF{Uz:List (Option (Bool×Nat))}{L:Nat->Bool}{i:Nat}{q:Bool×Nat}(h:¬ Qh Uz (Py L i) q):¬ Qh Uz L q:=fun ⟨k,hk,hl⟩=>h ⟨k,hk,by unfold Py;split <;> first|rfl|exact hl⟩
theorem NI{L:Nat->Bool}{i j:Nat}(h:Py L i j=true):j=i\/(j≠i/\L j=true):=by
 by_cases e:j=i
 ·exact .inl e
 ·exact .inr ⟨e,by rwa [show Py L i j=L j from if_neg e] at h⟩
def aDh(Tf:Nat->Nat->Prop)(i:Nat)(T':Nat->Prop):Nat->Nat->Prop:=fun c=>if c=i then T' else Tf c
theorem JM.more{S:Nat->Prop}{w0 w w':World}{os:List Oper}{Gs:List Pm}{Uz:List (Option (Bool×Nat))}{Es:List Wg}{Bs:List (Nat->Prop)}{M:List (Nat×Nat)}{L:Nat->Bool}{v:Nat->Value}{Tf:Nat->Nat->Prop}{i:Nat}{x:Value}{Tu:Nat->Prop}
  (hwf:wfU os Gs Es.length Uz=true) (hlen:Uz.length=os.length) (hio:i<os.length) (hBs:BsL Es Bs Uz Bs) (hSub:azy S Bs) (hE:Ti S w0 Es) (h:JM S w0 Gs Uz Es Bs M L v Tf w) (hi:L i=false) (hM:∀ k,(i,k)∈M->L k=true) (hU:∀ j,UK Uz i=some (true,j)->L j=true) (hT:Y6 Uz Es Tf i Tu) (hx:UC Gs i Tu w x w'):∃ Tf',JM S w0 Gs Uz Es Bs M (Py L i) (SE v i x) Tf' w':=by
 have huq:Z2 Uz=true:=by unfold wfU at hwf;simp only[Bool.and_eq_true] at hwf;exact hwf.1
 have hcl:∀ j k,(j,k)∈M->Py L i j=true->Py L i k=true:=fun j k hm hj=>by
  have hk:L k=true:=by
   rcases NI hj with rfl | ⟨_,hj⟩
   ·exact hM k hm
   ·exact h.clos j k hm hj
  unfold Py;split <;> first|rfl|exact hk
 have free:∀ q,UK Uz i=some q->¬ Qh Uz L q:=fun q hq ⟨k,hk,hl⟩=>by
  rw[ZP huq hk hq,hi] at hl;cases hl
 have hgu:KP w0 (Bs.getD i LX) Tu:=by
  have hb:=aDY hBs i (by omega)
  unfold Y6 at hT
  cases hu:UK Uz i with
  | none=>rw[hu] at hT;simp only at hT;subst hT;exact fun _ z=>z.elim
  | some q =>
   have hq:=W3 hwf hu
   obtain⟨b,j⟩:=q
   cases b with
   | true =>
    rw[hu] at hT hb
    simp only at hT hb hq
    obtain⟨⟨t,ht⟩,_⟩:=hq
    subst hT;rw[hb];exact h.grew j t (hU j hu) ht
   | false =>
    rw[hu] at hT hb
    simp only at hT hb hq
    obtain⟨E,hE'⟩:∃ E,Es[j]? = some E:=⟨Es[j],List.getElem?_eq_getElem hq⟩
    rw[hT E hE',hb E hE'];exact KP.refl _ _
 have hkS:KO Tu w w'->KO S w0 w':=fun hk=>h.kept.trans hk (fun b hb hTb=>(hgu b hTb).elim (fun z=>aDp hSub i b z) (fun z=>absurd hb (Nat.not_lt.2 z)))
 have farT:∀ j t,L j=true->Gs.getD j Pm.none = .new t->¬ Qh Uz (Py L i) (true,j)->KK (Tf j) Tu:=fun j t hj ht hn=>by
  unfold Y6 at hT
  cases hu:UK Uz i with
  | none=>rw[hu] at hT;simp only at hT;subst hT;exact fun _ _ z=>z
  | some q =>
   have hq:=W3 hwf hu
   obtain⟨b,k⟩:=q
   cases b with
   | true =>
    rw[hu] at hT
    simp only at hT hq
    obtain⟨⟨t',ht'⟩,_⟩:=hq
    subst hT
    exact h.tt j k t t' (fun e=>hn ⟨i,by rw[hu,e],by unfold Py;simp⟩) hj (hU k hu) ht ht' (NF hn) (free _ hu)
   | false =>
    rw[hu] at hT
    simp only at hT hq
    obtain⟨E,hE'⟩:∃ E,Es[k]? = some E:=⟨Es[k],List.getElem?_eq_getElem hq⟩
    rw[hT E hE'];exact h.te j k t E hj ht (NF hn) hE' (free _ hu)
 have farE:∀ (e:Nat) (E:Wg),Es[e]? = some E->¬ Qh Uz (Py L i) (false,e)->KK E.T Tu:=fun e E he hn=>by
  unfold Y6 at hT
  cases hu:UK Uz i with
  | none=>rw[hu] at hT;simp only at hT;subst hT;exact fun _ _ z=>z
  | some q =>
   have hq:=W3 hwf hu
   obtain⟨b,k⟩:=q
   cases b with
   | true =>
    rw[hu] at hT
    simp only at hT hq
    obtain⟨⟨t',ht'⟩,_⟩:=hq
    subst hT
    exact(h.te k e t' E (hU k hu) ht' (free _ hu) he (NF hn)).symm
   | false =>
    rw[hu] at hT
    simp only at hT hq
    obtain⟨E',hE'⟩:∃ E,Es[k]? = some E:=⟨Es[k],List.getElem?_eq_getElem hq⟩
    rw[hT E' hE'];exact hE.far e k E E' (fun z=>hn ⟨i,by rw[hu,z],by unfold Py;simp⟩) he hE'
 unfold UC at hx
 cases eg:Gs.getD i Pm.none with
 | eq y =>
  rw[eg] at hx
  obtain⟨hv,kU⟩:=hx
  refine⟨Tf,hkS kU,fun j z hj hz=>?_,fun j t hj ht hn=>?_,fun e E he hn=>(E.st w w' Tu (h.olds e E he (NF hn)) kU (farE e E he hn)),fun j t hj ht=>?_,fun a b t t' hab ha hb hta htb hna hnb=>?_,fun a e t E ha hta hna he hne=>?_,hcl⟩
  ·rcases NI hj with rfl | ⟨hji,hj⟩
   ·rw[show SE v j x j=x from if_pos rfl,hv];rw[eg] at hz;cases hz;rfl
   ·rw[show SE v i x j=v j from if_neg hji];exact h.vals j z hj hz
  ·rcases NI hj with rfl | ⟨hji,hj⟩
   ·rw[eg] at ht;cases ht
   ·rw[show SE v i x j=v j from if_neg hji];exact t.st _ w w' Tu _ (h.things j t hj ht (NF hn)) kU (farT j t hj ht hn)
  ·rcases NI hj with rfl | ⟨_,hj⟩
   ·rw[eg] at ht;cases ht
   ·exact h.grew j t hj ht
  ·rcases NI ha with rfl | ⟨_,ha⟩
   ·rw[eg] at hta;cases hta
   ·rcases NI hb with rfl | ⟨_,hb⟩
    ·rw[eg] at htb;cases htb
    ·exact h.tt a b t t' hab ha hb hta htb (NF hna) (NF hnb)
  ·rcases NI ha with rfl | ⟨_,ha⟩
   ·rw[eg] at hta;cases hta
   ·exact h.te a e t E ha hta (NF hna) he (NF hne)
 | new y =>
  rw[eg] at hx
  obtain⟨kU,T',hB,hG⟩:=hx
  have fi:aDh Tf i T' i=T':=if_pos rfl
  have fj:∀ c,c≠i->aDh Tf i T' c=Tf c:=fun c hc=>if_neg hc
  have nT:∀ j t,L j=true->Gs.getD j Pm.none = .new t->¬ Qh Uz (Py L i) (true,j)->KK T' (Tf j):=fun j t hj ht hn=>((farT j t hj ht hn).symm).grew hG (t.li _ w _ (h.things j t hj ht (NF hn)))
  refine⟨aDh Tf i T',hkS kU,fun j z hj hz=>?_,fun j t hj ht hn=>?_,fun e E he hn=>(E.st w w' Tu (h.olds e E he (NF hn)) kU (farE e E he hn)),fun j t hj ht=>?_,fun a b t t' hab ha hb hta htb hna hnb=>?_,fun a e t E ha hta hna he hne=>?_,hcl⟩
  ·rcases NI hj with rfl | ⟨hji,hj⟩
   ·rw[eg] at hz;cases hz
   ·rw[show SE v i x j=v j from if_neg hji];exact h.vals j z hj hz
  ·rcases NI hj with rfl | ⟨hji,hj⟩
   ·rw[eg] at ht;cases ht
    rw[show SE v j x j=x from if_pos rfl,fi];exact hB
   ·rw[show SE v i x j=v j from if_neg hji,fj j hji];exact t.st _ w w' Tu _ (h.things j t hj ht (NF hn)) kU (farT j t hj ht hn)
  ·rcases NI hj with rfl | ⟨hji,hj⟩
   ·rw[fi]
    exact fun b hb=>(hG b hb).elim (fun z=>hgu b z) (fun z=>.inr (Nat.le_trans h.kept.size z))
   ·rw[fj j hji];exact h.grew j t hj ht
  ·rcases NI ha with rfl | ⟨hai,ha2⟩
   ·rcases NI hb with rfl | ⟨hbi,hb2⟩
    ·exact absurd rfl hab
    ·rw[fi,fj b hbi];exact nT b t' hb2 htb hnb
   ·rcases NI hb with rfl | ⟨hbi,hb2⟩
    ·rw[fi,fj a hai];exact(nT a t ha2 hta hna).symm
    ·rw[fj a hai,fj b hbi];exact h.tt a b t t' hab ha2 hb2 hta htb (NF hna) (NF hnb)
  ·rcases NI ha with rfl | ⟨hai,ha⟩
   ·rw[fi];exact((farE e E he hne).symm).grew hG (E.li w (h.olds e E he (NF hne)))
   ·rw[fj a hai];exact h.te a e t E ha hta (NF hna) he (NF hne)
def aA6(Uz:List (Option (Bool×Nat)))(M:List (Nat×Nat))(i:Nat)(q:Bool×Nat):Bool:=(List.range Uz.length).all fun k => !(UK Uz k==some q) || k==i || M.contains (k,i)
def WP(w0:World)(Gs:List Pm)(Uz:List (Option (Bool×Nat)))(Bs:List (Nat->Prop))(M:List (Nat×Nat))(i j:Nat)(x:Value)(w:World):Prop:=match Gs.getD j Pm.none with
 | .eq _=>True
 | .new t=>aA6 Uz M i (true,j)=true->∃ T,t.B x T w/\KP w0 (Bs.getD j LX) T
def aCp(Gs:List Pm)(j:Nat)(x:Value):Prop:=match Gs.getD j Pm.none with
 | .eq y=>x=y
 | .new _=>True
def ZO(w0:World)(Gs:List Pm)(Uz:List (Option (Bool×Nat)))(Bs:List (Nat->Prop))(M:List (Nat×Nat))(i:Nat):Nat->Value->World->Prop:=fun j x w=>aCp Gs j x/\WP w0 Gs Uz Bs M i j x w/\∀ k,(j,k)∈M->∃ y,WP w0 Gs Uz Bs M i k y w
def Zf(Uz:List (Option (Bool×Nat)))(Es:List Wg)(M:List (Nat×Nat))(i:Nat)(w:World):Prop:=∀ (e:Nat) (E:Wg),Es[e]? = some E->aA6 Uz M i (false,e)=true->E.A w
def aAN(w0:World)(D:List (Option Tmp))(Gs:List Pm)(Uz:List (Option (Bool×Nat)))(Es:List Wg)(Bs:List (Nat->Prop))(F:Nat->Value)(w:World)(i:Nat)(Tu:Nat->Prop):Prop:=match UK Uz i with
 | none=>Tu=LX
 | some (true,j)=>∀ t,Gs.getD j Pm.none = .new t->∃ x,t.B x Tu w/\KP w0 (Bs.getD j LX) Tu/\∀ d,D.getD j none=some d->F d=x
 | some (false,e)=>∀ E,Es[e]? = some E->Tu=E.T/\E.A w
section
variable {P:Program} {N:Nat} {F:Nat->Value} {w:World} {Q:Exit->(Nat->Value)->World->Prop} {S:Nat->Prop} {M:List (Nat×Nat)} {D:List (Option Tmp)} {Gs:List Pm} {Uz:List (Option (Bool×Nat))} {Es:List Wg} {Bs:List (Nat->Prop)}
def Nx(S:Nat->Prop)(M:List (Nat×Nat))(N:Nat)(P:Program)(D:List (Option Tmp))(Gs:List Pm)(Uz:List (Option (Bool×Nat)))(Es:List Wg)(Bs:List (Nat->Prop))(F0:Nat->Value)(w0:World)(i:Nat)(o:Oper):Prop :=
 ∀ (F:Nat->Value) (w:World) (Tu:Nat->Prop),KO S w0 w->(∀ t,Nat.blt t N=true->some t∉D->F t=F0 t)->N3 D (ZO w0 Gs Uz Bs M i) F w o.after.toList->Zf Uz Es M i w->aAN w0 D Gs Uz Es Bs F w i Tu →
  match o.guard with
  | none=>Le P (ev F) o w (UC Gs i Tu w)
  | some (j,want)=>∃ d,D.getD j none=some d ∧
   ((F d = .bool want/\Le P (ev F) o w (UC Gs i Tu w))\/((F d = .bool (!want)\/F d=undef)/\Gs.getD i Pm.none = .eq undef))
def Rw(S:Nat->Prop)(M:List (Nat×Nat))(N:Nat)(P:Program)(D:List (Option Tmp))(Gs:List Pm)(Uz:List (Option (Bool×Nat)))(Es:List Wg)(Bs:List (Nat->Prop))(F0:Nat->Value)(w0:World):Nat->List Oper->Prop
 | _,[]=>True
 | i,o::r=>Nx S M N P D Gs Uz Es Bs F0 w0 i o/\Rw S M N P D Gs Uz Es Bs F0 w0 (i+1) r
theorem YB{F0:Nat->Value}{w0:World}{i:Nat}:Rw S M N P D Gs Uz Es Bs F0 w0 i []:=trivial
theorem MF{F0:Nat->Value}{w0:World}{i:Nat}{o:Oper}{r:List Oper}(h:Nx S M N P D Gs Uz Es Bs F0 w0 i o)(k:Rw S M N P D Gs Uz Es Bs F0 w0 (i+1) r):Rw S M N P D Gs Uz Es Bs F0 w0 i (o::r):=⟨h,k⟩
theorem Nx.one{F0:Nat->Value}{w0:World}{i:Nat}{o:Oper}(hg:o.guard=none)(hu:UK Uz i=none)
  (h:∀ (F:Nat->Value) (w:World),KO S w0 w->(∀ t,Nat.blt t N=true->some t∉D->F t=F0 t)->N3 D (ZO w0 Gs Uz Bs M i) F w o.after.toList->Zf Uz Es M i w->Le P (ev F) o w (UC Gs i LX w)):Nx S M N P D Gs Uz Es Bs F0 w0 i o:=by
 intro F w Tu h1 h2 h3 h4 h5
 unfold aAN at h5
 rw[hu] at h5;simp only at h5;subst h5
 rw[hg];exact h F w h1 h2 h3 h4
theorem Nx.uses{F0:Nat->Value}{w0:World}{i:Nat}{o:Oper}(j:Nat)(d:Tmp){t:Thm}(hg:o.guard=none)(hu:UK Uz i=some (true,j))(ht:Gs.getD j Pm.none = .new t)(hd:D.getD j none=some d)
  (h:∀ (F:Nat->Value) (w:World) (Tu:Nat->Prop),KO S w0 w->(∀ t,Nat.blt t N=true->some t∉D->F t=F0 t)->N3 D (ZO w0 Gs Uz Bs M i) F w o.after.toList->Zf Uz Es M i w->t.B (F d) Tu w->KP w0 (Bs.getD j LX) Tu->Le P (ev F) o w (UC Gs i Tu w)):Nx S M N P D Gs Uz Es Bs F0 w0 i o:=by
 intro F w Tu h1 h2 h3 h4 h5
 unfold aAN at h5
 rw[hu] at h5;simp only at h5
 obtain⟨x,hB,hG,hx⟩:=h5 t ht
 rw[hg];exact h F w Tu h1 h2 h3 h4 (by rw[hx d hd];exact hB) hG
theorem X9{L:Nat->Bool}{i:Nat}{q:Bool×Nat}(hi:L i=false)(hc:∀ j k,(j,k)∈M->L j=true->L k=true)(h:aA6 Uz M i q=true):¬ Qh Uz L q:=fun ⟨k,hk,hl⟩=>by
 have:=List.all_eq_true.1 h k (List.mem_range.2 (X4 hk))
 simp only[hk,beq_self_eq_true,Bool.not_true,Bool.false_or,Bool.or_eq_true,beq_iff_eq] at this
 rcases this with e|e
 ·rw[e,hi] at hl;cases hl
 ·have:=hc k i (by simpa using e) hl;rw[hi] at this;cases this
theorem Nx.step{os:List Oper}{w0:World}{i:Nat}{o:Oper}{a0:Act}(hwf:wfU os Gs Es.length Uz=true)(hlen:Uz.length=os.length)(hBs:BsL Es Bs Uz Bs)(hSub:azy S Bs)(hE:Ti S w0 Es)(hmo:Rk os M=true)(hio:os[i]? = some o)(ha:Fr N F a0)(h:Nx S M N P D Gs Uz Es Bs F w0 i o):Wu os P D (fun L v w=>∃ Tf,JM S w0 Gs Uz Es Bs M L v Tf w) a0 i o:=by
 rintro L v a w ⟨Tf,hJ⟩ hi hdone hout hhere _
 have hi':i<os.length:=by
  rcases Nat.lt_or_ge i os.length with h'|h'
  ·exact h'
  ·rw[List.getElem?_eq_none h'] at hio;cases hio
 have key:∀ c,L c=true->∀ x,(∀ d,D[c]? = some (some d)->x=v c)->(x=v c)->WP w0 Gs Uz Bs M i c x w:=fun c hc x _ hx=>by
  unfold WP
  cases e':Gs.getD c Pm.none with
  | eq y=>trivial
  | new t =>
   intro hf
   rw[hx]
   exact⟨Tf c,hJ.things c t hc e' (X9 hi hJ.clos hf),hJ.grew c t hc e'⟩
 have hDe:∀ c d,D.getD c none=some d->D[c]? = some (some d):=fun c d hd=>by
  unfold List.getD at hd
  cases hq:D[c]? with
  | none=>rw[hq] at hd;cases hd
  | some y=>rw[hq] at hd;simp at hd;rw[hd]
 have hdeps:N3 D (ZO w0 Gs Uz Bs M i) (fun t=>a.tmps.getD t undef) w o.after.toList:=by
  refine Q3.toF (Q3.mk fun e he hb d hd=>?_)
  have hl:=hdone e he hb
  rw[hhere e.on d hl (hDe e.on d hd)]
  refine⟨?_,key e.on hl _ (fun _ _=>rfl) rfl,fun c hc=>⟨v c,key c (hJ.clos _ _ hc hl) _ (fun _ _=>rfl) rfl⟩⟩
  unfold aCp
  cases e':Gs.getD e.on Pm.none with
  | eq y=>exact hJ.vals e.on y hl e'
  | new t=>trivial
 have hM:∀ k,(i,k)∈M->L k=true:=fun k hk=>by
  have:=List.all_eq_true.1 hmo _ hk
  simp only[hio] at this
  obtain⟨e,he,hb⟩:=List.any_eq_true.1 this
  simp only[Bool.and_eq_true,Bool.or_eq_true,beq_iff_eq] at hb
  have hl:=hdone e he hb.1
  rcases hb.2 with h1|h1
  ·rw[← h1];exact hl
  ·exact hJ.clos _ _ (by simpa using h1) hl
 have hU:∀ j,UK Uz i=some (true,j)->L j=true:=fun j hj=>by
  obtain⟨_,o',ho',e,he,hb,hej⟩:=W3 hwf hj
  rw[hio] at ho';cases ho'
  rw[← hej];exact hdone e he hb
 have huq:Z2 Uz=true:=by unfold wfU at hwf;simp only[Bool.and_eq_true] at hwf;exact hwf.1
 have free:∀ q,UK Uz i=some q->¬ Qh Uz L q:=fun q hq ⟨k,hk,hl⟩=>by
  rw[ZP huq hk hq,hi] at hl;cases hl
 obtain⟨Tu,hTu⟩:∃ Tu,Y6 Uz Es Tf i Tu:=by
  unfold Y6
  cases UK Uz i with
  | none=>exact⟨LX,rfl⟩
  | some q =>
   obtain⟨b,j⟩:=q
   cases b with
   | true=>exact⟨Tf j,rfl⟩
   | false =>
    cases he:Es[j]? with
    | none=>exact⟨LX,fun E hE=>by rw[he] at hE;cases hE⟩
    | some E=>exact⟨E.T,fun E' hE'=>by rw[he] at hE';cases hE';rfl⟩
 have huse:aAN w0 D Gs Uz Es Bs (fun t=>a.tmps.getD t undef) w i Tu:=by
  have hTu':=hTu
  unfold Y6 at hTu'
  unfold aAN
  cases hu:UK Uz i with
  | none=>rw[hu] at hTu';exact hTu'
  | some q =>
   obtain⟨b,j⟩:=q
   rw[hu] at hTu'
   cases b with
   | true =>
    simp only at hTu' ⊢
    subst hTu'
    exact fun t ht=>⟨v j,hJ.things j t (hU j hu) ht (free _ hu),hJ.grew j t (hU j hu) ht,fun d hd=>hhere j d (hU j hu) (hDe j d hd)⟩
   | false=>exact fun E hE'=>⟨hTu' E hE',hJ.olds j E hE' (free _ hu)⟩
 have h1:=h (fun t=>a.tmps.getD t undef) w Tu hJ.kept (fun t hb ht=>by rw[← ha.at' t hb];exact hout t ht) hdeps (fun e E he hf=>hJ.olds e E he (X9 hi hJ.clos hf)) huse
 have more:∀ (x:Value) (w':World),UC Gs i Tu w x w'->∃ Tf',JM S w0 Gs Uz Es Bs M (Py L i) (SE v i x) Tf' w':=fun x w' hx=>JM.more hwf hlen hi' hBs hSub hE hJ hi hM hU hTu hx
 rw[← Rq a] at h1
 unfold PH
 cases hg:o.guard with
 | none=>rw[hg] at h1;exact⟨fun _=>h1.mono' fun x w' hx=>more x w' hx,fun e=>by cases e⟩
 | some g =>
  obtain⟨j,want⟩:=g
  rw[hg] at h1
  obtain⟨d,hd,h1⟩:=h1
  simp only[hd]
  have hev:a.eval (.tmp d)=a.tmps.getD d undef:=rfl
  rcases h1 with ⟨hv,hy⟩ | ⟨hv,hs⟩
  ·rw[hev,hv];exact⟨fun _=>hy.mono' fun x w' hx=>more x w' hx,fun e=>by simp at e⟩
  ·refine⟨fun e=>?_,fun _=>more undef w (by unfold UC;rw[hs];exact⟨rfl,KO.refl _ _⟩)⟩
   rcases hv with hv|hv
   ·rw[hev,hv] at e;cases want <;> simp at e
   ·rw[hev,hv] at e;simp[undef] at e
theorem Rw.steps{all:List Oper}{w0:World}{a0:Act}(hwf:wfU all Gs Es.length Uz=true)(hlen:Uz.length=all.length)(hBs:BsL Es Bs Uz Bs)(hSub:azy S Bs)(hE:Ti S w0 Es)(hmo:Rk all M=true)(ha:Fr N F a0):∀ {os:List Oper} {i:Nat},(∀ k o,os[k]? = some o->all[i+k]? = some o)->Rw S M N P D Gs Uz Es Bs F w0 i os->Qm all P D (fun L v w=>∃ Tf,JM S w0 Gs Uz Es Bs M L v Tf w) a0 i os:=by
 intro os
 induction os with
 | nil=>intro i _ _;exact trivial
 | cons o r ih =>
  intro i hat h
  exact⟨h.1.step hwf hlen hBs hSub hE hmo (hat 0 o rfl) ha,ih (fun k o' hk=>by have:=hat (k+1) o' hk;rwa [show i+(k+1)=i+1+k by omega] at this) h.2⟩
def ZC(Uz:List (Option (Bool×Nat)))(i:Nat):Bool:=(List.range Uz.length).all fun k => !(UK Uz k==some (true,i))
theorem V4{L:Nat->Bool}{i:Nat}(h:ZC Uz i=true):¬ Qh Uz L (true,i):=fun ⟨k,hk,_⟩=>by
 have:=List.all_eq_true.1 h k (List.mem_range.2 (X4 hk))
 simp[hk] at this
theorem aB2{id:Nat}{ops:Array Oper}(M:List (Nat×Nat))(D:List (Option Tmp))(Gs:List Pm)(Uz:List (Option (Bool×Nat)))(Es:List Wg)(Bs:List (Nat->Prop))(hm:P.follows .mixedOrders=true)(hpl:plain N 0 D ops.toList=true)(hmo:Rk ops.toList M=true)(hsz:Gs.length=ops.size)(hlen:Uz.length=ops.toList.length)(hwf:wfU ops.toList Gs Es.length Uz=true)(hBs:BsL Es Bs Uz Bs)(hSub:azy S Bs)(hE:Ti S w Es)(hsteps:Rw S M N P D Gs Uz Es Bs F w 0 ops.toList)
  (hend:∀ (v:Nat->Value) (Tf:Nat->Nat->Prop) (F':Nat->Value) (w':World),KO S w w'->(∀ i,i<ops.size->aCp Gs i (v i))->(∀ i t,Gs.getD i Pm.none = .new t->ZC Uz i=true->t.B (v i) (Tf i) w'/\KP w (Bs.getD i LX) (Tf i))->(∀ i j t t',i≠j->Gs.getD i Pm.none = .new t->Gs.getD j Pm.none = .new t'->ZC Uz i=true->ZC Uz j=true->KK (Tf i) (Tf j))->(∀ t,F' t=Ql v 0 D F t)->Q .normal F' w'):wq none P N (.region id ops true) Q F w:=by
 intro a ha
 refine wpIn_wide.2 ?_
 refine QP D (fun L v w'=>∃ Tf,JM S w Gs Uz Es Bs M L v Tf w') hm (by rw[ha.size];exact hpl) ⟨fun _=>LX,(KO.refl _ w).drew,fun _ _ e=>(by cases e),fun _ _ e=>(by cases e),fun e E he _=>E.st w _ (fun _=>False) (hE.at e E he).2 (KO.refl _ w).drew (fun _ _ z=>z),fun _ _ e=>(by cases e),fun _ _ _ _ _ e=>(by cases e),fun _ _ _ _ e=>(by cases e),fun _ _ _ e=>(by cases e)⟩ (hsteps.steps hwf hlen hBs hSub hE hmo ha (fun k o hk=>by rw[Nat.zero_add];exact hk)) fun L v w' ⟨Tf,hJ⟩ hL=>?_
 have hlt:∀ i t,Gs.getD i Pm.none = .new t->L i=true:=fun i t e=>by
  refine hL i ?_
  rw[← hsz]
  rcases Nat.lt_or_ge i Gs.length with h'|h'
  ·exact h'
  ·have:Gs.getD i Pm.none=Pm.none:=by simp[List.getD,List.getElem?_eq_none h']
   rw[this] at e;cases e
 refine⟨Ql v 0 D F,OM v D 0 F a ha (Oj hpl),hend v Tf _ w' hJ.kept (fun i hi=>?_) (fun i t e hl=>⟨hJ.things i t (hlt i t e) e (V4 hl),hJ.grew i t (hlt i t e) e⟩) (fun i j t t' hij e1 e2 h1 h2=>hJ.tt i j t t' hij (hlt i t e1) (hlt j t' e2) e1 e2 (V4 h1) (V4 h2)) fun _=>rfl⟩
 unfold aCp
 cases e':Gs.getD i Pm.none with
 | eq y=>exact hJ.vals i y (hL i hi) e'
 | new t=>trivial
end
end Go.Proofs.YtknjpdcpmpfklaaGreatDoor
set_option maxRecDepth 100000
namespace Go.Proofs.YtknjpdcpmpfklaaGreatDoor
open Go.RowKit
section
variable {ρ:Operand->Value} {w:World} {o:Oper} {R:Value->World->Prop}
theorem ayJ{parts:Array (Nat×Operand)}{n:Nat}{xs:List Operand}{vs:List Value}{l:List Nat}(ho:o.op = .buildSlice 26 n parts)(hn:n=l.length)(hp:parts.toList=(xs.zipIdx 0).map fun x=>(x.2,x.1))(hx:xs.map ρ=vs)(hv:vs=Lx l)(h0:0<l.length)(hsz:l.length<=65536)(hb:∀ x∈l,x<256)
  (h:∀ v w' T,L3 w' T v l->KP w LX T->KO (fun _=>False) w w'->R v w'):Le Tryz.prog ρ o w R:=by
 subst hn;subst hx
 obtain⟨i0,hi0,hz0,hz1,hz2⟩:=info_parts Tryz.info_u8
 have hlb:(Lx l).length=l.length:=by simp[Lx]
 have hlen:xs.length=l.length:=by have:=congrArg List.length hv;rw[hlb] at this;simpa using this
 have hcells:∀ m:List Nat,(Lx m).flatMap (fun v=>v.cells.toList)=Lx m:=fun m=>by
  induction m with
  | nil=>rfl
  | cons a m ih=>exact congrArg (Value.int .u8 ((a:Nat):Int) :: ·) ih
 have hsize:∀ v∈xs.map ρ,v.cells.size=1:=by
  intro v hv'
  rw[hv] at hv'
  obtain⟨x,_,rfl⟩:=List.mem_map.1 hv'
  rfl
 have hrun:=run_buildSlice (P:=Tryz.prog) w 26 5 l.length (parts.map fun (i,x)=>(i,ρ x)) (Lx l).toArray i0 (.int .u8 0) Tryz.underlying26 hi0 hz0 (by rw[hz1];omega) (by rw[hz1];omega) (by
  rw[hz1]
  have e:(parts.map fun (i,x)=>(i,ρ x)).toList=((xs.map ρ).zipIdx 0).map fun x=>(x.2,x.1):=by
   rw[Array.toList_map,hp,List.zipIdx_map,List.map_map,List.map_map];rfl
  rw[e,Great.fill_whole (by decide) _ _ hsize (by rw[List.length_map,hlen];simp),hv,hcells])
 refine MI (v:=.slice (some ⟨w.heap.size,0,none⟩) l.length l.length) (w':=w.alloc (.cells (Lx l).toArray 5)) (by simp[execOp,ho,hrun]) (h _ _ _ (L3.of (TU.of_new (B:=0) (l:=l) (heap_alloc_new w _) (Nat.zero_le _) (show l.length<=maxLen by unfold maxLen;omega) hb)) (fun i hi=>.inr ?_) ((KO.refl _ _).alloc _))
 cases hi;exact Nat.le_refl _
theorem azb(ho:o.op = .buildSlice 26 0 #[])
  (h:∀ v w' T,L3 w' T v []->KP w LX T->KO (fun _=>False) w w'->R v w'):Le Tryz.prog ρ o w R:=by
 refine MI (v:=.slice (some ⟨w.heap.size,0,none⟩) 0 0) (w':=w.alloc (.cells (Lx []).toArray 5)) (by simp[execOp,ho,go_sem];rfl) (h _ _ _ (L3.of (TU.of_new (B:=0) (l:=[]) (heap_alloc_new w _) (Nat.zero_le _) (Nat.zero_le _) (by simp))) (fun i hi=>.inr ?_) ((KO.refl _ _).alloc _))
 cases hi;exact Nat.le_refl _
theorem WE{c:Call}{x y:Operand}{T U:Nat->Prop}{v u:Value}{l m:List Nat}(ho:o.op = .call c)(hc:c={ callee:=.builtin .append,args:=#[x,y],argTypes:=#[26,26] })(hx:ρ x=v)(hy:ρ y=u)(hv:L3 w T v l)(hu:Mh w U u m)(hl:l.length+m.length<1099511627776)
  (h:∀ v' w' T',L3 w' T' v' (l++m)->KP w T T'->KO T w w'->R v' w'):Le Tryz.prog ρ o w R:=by
 subst hc
 obtain⟨v',w',hr,hA,hw⟩:=Rc w o.type v u l m hv.1 hu.1 hl
 refine MI (v:=v') (w':=w') (by simp[execOp,ho,resolve,invoke,builtin,hx,hy,hr]) (h v' w' _ (L3.of hA.1) (fun i hi=>?_) ((KO.refl T w).grown hA.2 (fun k e _=>(hv.2 k).2 e)))
 rcases hw with hw|hw
 ·exact .inl ((hv.2 i).2 (hw ▸ hi))
 ·exact .inr (hw i hi)
end
def ayE(l:List Nat):Thm:=⟨fun v T w=>L3 w T v l,fun _ _ _ _ _ h k ha=>h.all k ha,fun _ _ _ h=>h.live⟩
end Go.Proofs.YtknjpdcpmpfklaaGreatDoor
set_option maxRecDepth 100000
namespace Go.Proofs.YtknjpdcpmpfklaaGreatDoor
open Go.RowKit
theorem My:QC Tryz.prog 23 4:=⟨_,Tryz.underlying23,rfl,by kernel_rfl⟩
theorem Pj:QC Tryz.prog 25 4:=⟨_,Tryz.underlying25,rfl,by kernel_rfl⟩
theorem aD8{n:Int}(h:8<=n):Int.tmod n 8=n%8:=Int.tmod_eq_emod_of_nonneg (by omega)
end Go.Proofs.YtknjpdcpmpfklaaGreatDoor
set_option maxRecDepth 100000
namespace Go.Proofs.YtknjpdcpmpfklaaGreatDoor
open Go.RowKit
def TL:Te Ch:={ t:=32,e:=71,k:=21,by_:=168,enc:=chV,d:=⟨0,0,0,0,0,fun _=>0⟩,z:=.agg (chV ⟨0,0,0,0,0,fun _=>0⟩).toArray }
instance rCh_ok:Te.Ok TL:=⟨Tryz.underlying32,by kernel_rfl,rfl,by decide,fun _=>rfl,fun c=>aDn c,by decide⟩
end Go.Proofs.YtknjpdcpmpfklaaGreatDoor
set_option maxRecDepth 100000
namespace Go.Proofs.YtknjpdcpmpfklaaGreatDoor
open Go.RowKit
theorem aDJ{W H R B:Int}(h:OS W H R B=0):Pg W H R B:=Decidable.byContradiction fun hn=>by unfold OS at h;rw[if_neg hn] at h;cases h
theorem Q4{W H R B:Int}(h:Pg W H R B):8<=W/\W<=64/\W%8=0/\8<=H/\H<=64/\H%8=0:=by
 obtain⟨h1,h2,_⟩:=h;unfold NN at h1 h2;omega
theorem aCD{W:Int}{p:Nat}(h0:0<=W)(hp:p=0):Int.tdiv W 4=((Lh W p:Nat):Int):=by
 rw[Int.tdiv_eq_ediv_of_nonneg h0];unfold Lh;rw[if_pos hp];omega
theorem OB{W:Int}{p:Nat}(h:W<=64):Lh W p<=16:=by unfold Lh;split <;> omega
theorem aBi{w i:Nat}(hw:0<w)(h16:w<=16)(hi:i<=256):0<=pX w i/\pX w i<=16/\0<=pY w i/\pY w i<=256:=by
 have h1:=Nat.mod_lt i hw
 have h2:=Nat.div_le_self i w
 refine⟨Int.natCast_nonneg _,Int.ofNat_le.2 (show i%w<=16 by omega),Int.natCast_nonneg _,Int.ofNat_le.2 (show i/w<=256 by omega)⟩
theorem Tg{W H R B:Int}{f:FD}{b:Bool}(h:b=true↔OS W H R B=0/\Nn f=0/\W=f.W/\H=f.H):b=decide (M5 W H R B f):=by
 rw[Bool.eq_iff_iff,decide_eq_true_iff];exact h.trans azW.symm
end Go.Proofs.YtknjpdcpmpfklaaGreatDoor
set_option maxRecDepth 100000
namespace Go.Proofs.YtknjpdcpmpfklaaGreatDoor
open Go.RowKit
theorem QF(n:Int):IntKind.u8.wrap (max 0 (min n 255))=((LU n:Nat):Int):=by rw[show max 0 (min n 255)=min (max n 0) 255 by omega];exact aBW n
theorem WV(b:Nat->Int)(i:Nat)(w0:World)(hi:i<4) :
  Calls Tryz.prog 79 #[LJ (b),.int .i64 (((i:Nat):Int))] w0 fun e w'=>e = .returned (.agg #[.int .u8 (((LU (b (i*4)):Nat):Int)),.int .u8 (((LU (b (i*4+1)):Nat):Int)),.int .u8 (((LU (b (i*4+2)):Nat):Int)),.int .u8 (((LU (b (i*4+3)):Nat):Int))])/\KO (fun _=>False) w0 w':=by
 refine Lr (args:=[LJ b,iv ((i:Nat):Int)]) 22 Tryz.func79 rfl rfl (Nat.le_of_ble_eq_true rfl) ?_
 refine KJ (KH (M3 rfl rfl rfl rfl fun p1 w2 e5 B3 k4=>?_))
 have g6:=LS (Nat.le_of_eq e5.symm)
 clear e5 g6
 have K8:=(KO.refl (fun _=>False) w0).tr k4
 refine LF (n:=4) (vs:=[.int .u8 0,.int .u8 0,.int .u8 0,.int .u8 0]) rfl rfl rfl (by kernel_rfl) fun p9 bL aD aZ aE=>?_
 have aF:=B3.all aE id
 have aG:=K8.tr aE
 refine KM ?_
 have af:=K4 (iv ((i:Nat):Int))
 have a8:=K4 (undef)
 have ah:=K4 (pt p1 0)
 have aH:=K4 (pt p9 0)
 refine KG (KJ (KH (LF (n:=4) (vs:=[.int .u8 0,.int .u8 0,.int .u8 0,.int .u8 0]) rfl rfl rfl (by kernel_rfl) fun aa bM a9 aI aJ=>?_)))
 have ai:=KP.new aG aI
 obtain⟨ak,aj⟩:=TQ aI aF aD
 obtain⟨aK,ba⟩:=NA aJ aF aD
 refine KM ?_
 have ae:=K4 (pt aa 0)
 refine KG (KJ (KJ (KH (KI (iv 0) rfl rfl (KQ rfl rfl rr) (KM ?_)))))
 have am:=K4 (iv 0)
 refine KG (Lm (Oy 5 (Mc (KJ (KH (KI (.bool true) rfl rfl (L4 rfl am rfl rfl rr) (KM ?_)))))))
 have bb:=K4 (.bool true)
 refine KG (KJ ?_)
 refine K6 (t:=true) bb (fun _=>?_) (fun e=>by cases e)
 refine Lg (KG (KJ (Lm (KJ (KH (KR rfl rfl rfl am (KI (iv 0) rfl rfl (KS rfl rfl rr) (KM ?_))))))))
 have aL:=K4 (iv 0)
 refine KG (KH (KR rfl rfl rfl aL (KR rfl rfl rfl af (KI (iv (((i*4):Nat):Int)) rfl rfl (Nj rfl rfl rfl (L6 (by omega) (by omega)) rr) (KR rfl rfl rfl aL (KI (iv (((i*4+0):Nat):Int)) rfl rfl (LP rfl rfl rfl (L6 (by omega) (by omega)) rr) (KI (.pointer (some ⟨p1,(i*4+0),none⟩)) rfl rfl (LV (i*4+0) (s:=1) rfl ah rfl (by omega) Tryz.underlying69 (by omega) (by kernel_rfl) (by omega) rr) (KI (iv (b (i*4+0))) rfl rfl (OD rfl rfl Tryz.underlying3 (aK.cell (by omega)) rr) (LW rfl rfl rfl rfl rfl (fun _ _=>by kernel_rfl) (Lk rfl (Lk rfl (Lk rfl LR))) (NY (b (i*4+0)) 0 255  _   ) fun bN aM=>?_)))))))))
 obtain⟨bc,bd,be⟩:=Nu aM aK ba a9
 refine KI (.int .u8 ((LU (b (i*4+0)):Nat):Int)) rfl rfl (QD rfl rfl Tryz.underlying3 Tryz.underlying5 (by first|exact QF _|exact QF (b (i*4+0))) rr) (KI (pt aa 0) rfl rfl (LV 0 (s:=1) rfl ae rfl (by omega) Tryz.underlying123 (by omega) (by kernel_rfl) (by omega) rr) (OJ rfl rfl rfl rfl rfl be rfl rfl (by kernel_rfl) fun bf an ao=>?_))
 replace an:Mz bf aa 123 [.int .u8 ((LU (b (i*4+0)):Nat):Int),.int .u8 0,.int .u8 0,.int .u8 0]:=an
 have aN:=bc.all ao (ak.symm p1 rfl)
 have bg:=bd.all ao (aj.symm p9 rfl)
 refine KM ?_
 refine LC (KG (KH (KI (iv ((1:Nat):Int)) rfl rfl (LP rfl am rfl (L6 (by omega) (by omega)) rr) (KI (iv ((1:Nat):Int)) rfl rfl (KQ rfl rfl rr) (KM ?_)))))
 have ap:=K4 (iv ((1:Nat):Int))
 refine KG (Mc (KJ (KH (KI (.bool true) rfl rfl (L4 rfl ap rfl rfl rr) (KM ?_)))))
 have bh:=K4 (.bool true)
 refine KG (KJ ?_)
 refine K6 (t:=true) bh (fun _=>?_) (fun e=>by cases e)
 refine Lg (KG (KJ (Lm (KJ (KH (KR rfl rfl rfl ap (KI (iv ((1:Nat):Int)) rfl rfl (KS rfl rfl rr) (KM ?_))))))))
 have aO:=K4 (iv ((1:Nat):Int))
 refine KG (KH (KR rfl rfl rfl aO (KR rfl rfl rfl af (KI (iv (((i*4):Nat):Int)) rfl rfl (Nj rfl rfl rfl (L6 (by omega) (by omega)) rr) (KR rfl rfl rfl aO (KI (iv (((i*4+1):Nat):Int)) rfl rfl (LP rfl rfl rfl (L6 (by omega) (by omega)) rr) (KI (.pointer (some ⟨p1,(i*4+1),none⟩)) rfl rfl (LV (i*4+1) (s:=1) rfl ah rfl (by omega) Tryz.underlying69 (by omega) (by kernel_rfl) (by omega) rr) (KI (iv (b (i*4+1))) rfl rfl (OD rfl rfl Tryz.underlying3 (aN.cell (by omega)) rr) (LW rfl rfl rfl rfl rfl (fun _ _=>by kernel_rfl) (Lk rfl (Lk rfl (Lk rfl LR))) (NY (b (i*4+1)) 0 255  _   ) fun bO aP=>?_)))))))))
 obtain⟨bi,bj,bl⟩:=Nu aP aN bg an
 refine KI (.int .u8 ((LU (b (i*4+1)):Nat):Int)) rfl rfl (QD rfl rfl Tryz.underlying3 Tryz.underlying5 (by first|exact QF _|exact QF (b (i*4+0))) rr) (KI (pt aa 1) rfl rfl (LV 1 (s:=1) rfl ae rfl (by omega) Tryz.underlying123 (by omega) (by kernel_rfl) (by omega) rr) (OJ rfl rfl rfl rfl rfl bl rfl rfl (by kernel_rfl) fun bm aq ar=>?_))
 replace aq:Mz bm aa 123 [.int .u8 ((LU (b (i*4+0)):Nat):Int),.int .u8 ((LU (b (i*4+1)):Nat):Int),.int .u8 0,.int .u8 0]:=aq
 have aQ:=bi.all ar (ak.symm p1 rfl)
 have bn:=bj.all ar (aj.symm p9 rfl)
 refine KM ?_
 refine LC (KG (KH (KI (iv ((2:Nat):Int)) rfl rfl (LP rfl ap rfl (L6 (by omega) (by omega)) rr) (KI (iv ((2:Nat):Int)) rfl rfl (KQ rfl rfl rr) (KM ?_)))))
 have au:=K4 (iv ((2:Nat):Int))
 refine KG (Mc (KJ (KH (KI (.bool true) rfl rfl (L4 rfl au rfl rfl rr) (KM ?_)))))
 have bo:=K4 (.bool true)
 refine KG (KJ ?_)
 refine K6 (t:=true) bo (fun _=>?_) (fun e=>by cases e)
 refine Lg (KG (KJ (Lm (KJ (KH (KR rfl rfl rfl au (KI (iv ((2:Nat):Int)) rfl rfl (KS rfl rfl rr) (KM ?_))))))))
 have aR:=K4 (iv ((2:Nat):Int))
 refine KG (KH (KR rfl rfl rfl aR (KR rfl rfl rfl af (KI (iv (((i*4):Nat):Int)) rfl rfl (Nj rfl rfl rfl (L6 (by omega) (by omega)) rr) (KR rfl rfl rfl aR (KI (iv (((i*4+2):Nat):Int)) rfl rfl (LP rfl rfl rfl (L6 (by omega) (by omega)) rr) (KI (.pointer (some ⟨p1,(i*4+2),none⟩)) rfl rfl (LV (i*4+2) (s:=1) rfl ah rfl (by omega) Tryz.underlying69 (by omega) (by kernel_rfl) (by omega) rr) (KI (iv (b (i*4+2))) rfl rfl (OD rfl rfl Tryz.underlying3 (aQ.cell (by omega)) rr) (LW rfl rfl rfl rfl rfl (fun _ _=>by kernel_rfl) (Lk rfl (Lk rfl (Lk rfl LR))) (NY (b (i*4+2)) 0 255  _   ) fun bP aS=>?_)))))))))
 obtain⟨bp,bq,bt⟩:=Nu aS aQ bn aq
 refine KI (.int .u8 ((LU (b (i*4+2)):Nat):Int)) rfl rfl (QD rfl rfl Tryz.underlying3 Tryz.underlying5 (by first|exact QF _|exact QF (b (i*4+0))) rr) (KI (pt aa 2) rfl rfl (LV 2 (s:=1) rfl ae rfl (by omega) Tryz.underlying123 (by omega) (by kernel_rfl) (by omega) rr) (OJ rfl rfl rfl rfl rfl bt rfl rfl (by kernel_rfl) fun bu av aw=>?_))
 replace av:Mz bu aa 123 [.int .u8 ((LU (b (i*4+0)):Nat):Int),.int .u8 ((LU (b (i*4+1)):Nat):Int),.int .u8 ((LU (b (i*4+2)):Nat):Int),.int .u8 0]:=av
 have bv:=bp.all aw (ak.symm p1 rfl)
 have bz:=bq.all aw (aj.symm p9 rfl)
 refine KM ?_
 refine LC (KG (KH (KI (iv ((3:Nat):Int)) rfl rfl (LP rfl au rfl (L6 (by omega) (by omega)) rr) (KI (iv ((3:Nat):Int)) rfl rfl (KQ rfl rfl rr) (KM ?_)))))
 have az:=K4 (iv ((3:Nat):Int))
 refine KG (Mc (KJ (KH (KI (.bool true) rfl rfl (L4 rfl az rfl rfl rr) (KM ?_)))))
 have bA:=K4 (.bool true)
 refine KG (KJ ?_)
 refine K6 (t:=true) bA (fun _=>?_) (fun e=>by cases e)
 refine Lg (KG (KJ (Lm (KJ (KH (KR rfl rfl rfl az (KI (iv ((3:Nat):Int)) rfl rfl (KS rfl rfl rr) (KM ?_))))))))
 have aT:=K4 (iv ((3:Nat):Int))
 refine KG (KH (KR rfl rfl rfl aT (KR rfl rfl rfl af (KI (iv (((i*4):Nat):Int)) rfl rfl (Nj rfl rfl rfl (L6 (by omega) (by omega)) rr) (KR rfl rfl rfl aT (KI (iv (((i*4+3):Nat):Int)) rfl rfl (LP rfl rfl rfl (L6 (by omega) (by omega)) rr) (KI (.pointer (some ⟨p1,(i*4+3),none⟩)) rfl rfl (LV (i*4+3) (s:=1) rfl ah rfl (by omega) Tryz.underlying69 (by omega) (by kernel_rfl) (by omega) rr) (KI (iv (b (i*4+3))) rfl rfl (OD rfl rfl Tryz.underlying3 (bv.cell (by omega)) rr) (LW rfl rfl rfl rfl rfl (fun _ _=>by kernel_rfl) (Lk rfl (Lk rfl (Lk rfl LR))) (NY (b (i*4+3)) 0 255  _   ) fun bQ aU=>?_)))))))))
 obtain⟨bB,bC⟩:=NA aU bz av
 have bD:=(((((((aG.tr aJ).tr aM).trans ao (KP.ok (S:=fun _=>False) ai K3)).tr aP).trans ar (KP.ok (S:=fun _=>False) ai K3)).tr aS).trans aw (KP.ok (S:=fun _=>False) ai K3)).tr aU
 refine KI (.int .u8 ((LU (b (i*4+3)):Nat):Int)) rfl rfl (QD rfl rfl Tryz.underlying3 Tryz.underlying5 (by first|exact QF _|exact QF (b (i*4+0))) rr) (KI (pt aa 3) rfl rfl (LV 3 (s:=1) rfl ae rfl (by omega) Tryz.underlying123 (by omega) (by kernel_rfl) (by omega) rr) (OJ rfl rfl rfl rfl rfl bC rfl rfl (by kernel_rfl) fun bE aA aV=>?_))
 replace aA:Mz bE aa 123 [.int .u8 ((LU (b (i*4+0)):Nat):Int),.int .u8 ((LU (b (i*4+1)):Nat):Int),.int .u8 ((LU (b (i*4+2)):Nat):Int),.int .u8 ((LU (b (i*4+3)):Nat):Int)]:=aA
 have bF:=bB.all aV (aj.symm p9 rfl)
 refine KM ?_
 refine LC (KG (KH (KI (iv ((4:Nat):Int)) rfl rfl (LP rfl az rfl (L6 (by omega) (by omega)) rr) (KI (iv ((4:Nat):Int)) rfl rfl (KQ rfl rfl rr) (KM ?_)))))
 have bG:=K4 (iv ((4:Nat):Int))
 refine KG (Mc (KJ (KH (KI (.bool false) rfl rfl (L4 rfl bG rfl rfl rr) (KM ?_)))))
 have bH:=K4 (.bool false)
 refine KG (KJ ?_)
 refine K6 (t:=false) bH (fun e=>by cases e) (fun _=>?_)
 refine Me (Ls (Ls (Mf (KG (KJ (KH (KI (.agg #[.int .u8 ((LU (b (i*4+0)):Nat):Int),.int .u8 ((LU (b (i*4+1)):Nat):Int),.int .u8 ((LU (b (i*4+2)):Nat):Int),.int .u8 ((LU (b (i*4+3)):Nat):Int)]) rfl rfl (KZ Vb rfl ae aA rr) (Lj (us:=[.int .u8 ((LU (b (i*4+0)):Nat):Int),.int .u8 ((LU (b (i*4+1)):Nat):Int),.int .u8 ((LU (b (i*4+2)):Nat):Int),.int .u8 ((LU (b (i*4+3)):Nat):Int)]) Vb rfl rfl rfl aH rfl bF rfl (KX rfl (KX rfl (KX rfl (KX rfl MG)))) fun bR bI bJ=>?_))))))))
 refine KM ?_
 refine KG (Lb ?_)
 exact O2 (vs:=[.int .u8 ((LU (b (i*4+0)):Nat):Int),.int .u8 ((LU (b (i*4+1)):Nat):Int),.int .u8 ((LU (b (i*4+2)):Nat):Int),.int .u8 ((LU (b (i*4+3)):Nat):Int)]) Vb a8 rfl rfl aH bI ⟨rfl,((bD.trans aV (KP.ok (S:=fun _=>False) ai K3)).trans bJ (KP.ok (S:=fun _=>False) (KP.new K8 aZ) K3))⟩
def Za(l:List Nat)(i j:Nat)(x:Int)(c:List Nat):List Nat :=
 l.take (i+(max 0 (min x ((j-i:Nat):Int))).toNat)++((c.drop (max 0 (min (-x) 4)).toNat).take ((j-i)-(max 0 (min x ((j-i:Nat):Int))).toNat)++l.drop (i+(max 0 (min x ((j-i:Nat):Int))).toNat+min ((j-i)-(max 0 (min x ((j-i:Nat):Int))).toNat) (c.drop (max 0 (min (-x) 4)).toNat).length))
theorem Zr(v:Value)(l:List Nat)(i j:Nat)(x:Int)(a b c d:Nat)(T_s:Nat->Prop)(w0:World)(hij:i<=j)(hj:j<=l.length)(hx : -64<=x/\x<=128)(ha:a<256)(hb:b<256)(hc:c<256)(hd:d<256)(h_s:L3 w0 T_s v (l)) :
  Calls Tryz.prog 78 #[Mr (v) (i) (j) (j),.int .i64 (x),.agg #[.int .u8 (((a:Nat):Int)),.int .u8 (((b:Nat):Int)),.int .u8 (((c:Nat):Int)),.int .u8 (((d:Nat):Int))]] w0 fun e w'=>∃ (T_s':Nat->Prop),e = .returned (.tuple #[])/\KO (T_s) w0 w'/\(L3 w' T_s' v (Za l i j x [a,b,c,d])/\KP w0 T_s T_s'):=by
 refine Lr (args:=[Mr v i j j,iv x,.agg #[.int .u8 ((a:Nat):Int),.int .u8 ((b:Nat):Int),.int .u8 ((c:Nat):Int),.int .u8 ((d:Nat):Int)]]) 17 Tryz.func78 rfl rfl (Nat.le_of_ble_eq_true rfl) ?_
 have g_s:=KP.refl w0 T_s
 refine KJ (KH (Lz (vs:=[.int .u8 ((a:Nat):Int),.int .u8 ((b:Nat):Int),.int .u8 ((c:Nat):Int),.int .u8 ((d:Nat):Int)]) rfl rfl rfl rfl fun p1 w2 B4 g5 k3=>?_))
 have B8:=h_s.all k3 KK.none
 refine KM ?_
 have ah:=K4 (Mr v i j j)
 have ai:=K4 (iv x)
 have ao:=K4 (undef)
 have ap:=K4 (pt p1 0)
 refine KG ?_
 refine Na 10 [some 6,some 7,some 8,some 9,some 10,some 11,some 12,some 13,some 14,some 15] [Pd.eq (Mr v i j j),Pd.eq (iv x),Pd.eq (Mr v i j j),Pd.eq (iv ((j-i:Nat):Int)),Pd.eq (iv (max 0 (min x ((j-i:Nat):Int)))),Pd.eq (Mr (Mr v i j j) ((max 0 (min x ((j-i:Nat):Int))).toNat) (j-i) (j-i)),Pd.eq (iv x),Pd.eq (iv (-x)),Pd.eq (iv (max 0 (min (-x) 4))),Pd.eq (Zj p1 ((max 0 (min (-x) 4)).toNat))] (by kernel_rfl) (by kernel_rfl) (by kernel_rfl) ?_ ?_
 ·refine KL ?_ ?_
  ·refine La.one rfl fun F_ w_ hR hout hD=>?_
   exact(KQ rfl ((hout 0 rfl (by decide)).trans ah) ⟨rfl,KO.refl _ _⟩)
  refine KL ?_ ?_
  ·refine La.one rfl fun F_ w_ hR hout hD=>?_
   exact(KQ rfl ((hout 1 rfl (by decide)).trans ai) ⟨rfl,KO.refl _ _⟩)
  refine KL ?_ ?_
  ·refine La.one rfl fun F_ w_ hR hout hD=>?_
   exact(KQ rfl ((hout 0 rfl (by decide)).trans ah) ⟨rfl,KO.refl _ _⟩)
  refine KL ?_ ?_
  ·refine La.one rfl fun F_ w_ hR hout hD=>?_
   have g8:F_ 8=Mr v i j j:=(hD.get 0 rfl rfl rfl)
   exact(aDv rfl rfl g8 (B8.all hR KK.none).byt ⟨rfl,KO.refl _ _⟩)
  refine KL ?_ ?_
  ·refine La.one rfl fun F_ w_ hR hout hD=>?_
   have g7:F_ 7=iv x:=(hD.get 0 rfl rfl rfl)
   have g9:F_ 9=iv ((j-i:Nat):Int):=(hD.get 1 rfl rfl rfl)
   exact(LH rfl rfl rfl (fun _ _=>by kernel_rfl) (K5 _) (Lk g7 (Lk rfl (Lk g9 LR))) (NY x 0 ((j-i:Nat):Int)  _   ) (fun e_ w_ h_=>⟨_,h_.1,rfl,h_.2⟩))
  refine KL ?_ ?_
  ·refine La.one rfl fun F_ w_ hR hout hD=>?_
   have g6:F_ 6=Mr v i j j:=(hD.get 0 rfl rfl rfl)
   have aw:F_ 10=iv (max 0 (min x ((j-i:Nat):Int))):=(hD.get 1 rfl rfl rfl)
   exact(Xk ((max 0 (min x ((j-i:Nat):Int))).toNat) rfl g6 aw (by omega) (B8.all hR KK.none).byt (by omega) ⟨rfl,KO.refl _ _⟩)
  refine KL ?_ ?_
  ·refine La.one rfl fun F_ w_ hR hout hD=>?_
   exact(KQ rfl ((hout 1 rfl (by decide)).trans ai) ⟨rfl,KO.refl _ _⟩)
  refine KL ?_ ?_
  ·refine La.one rfl fun F_ w_ hR hout hD=>?_
   have az:F_ 12=iv x:=(hD.get 0 rfl rfl rfl)
   exact(aD3 rfl az (L2 rfl (by omega)) ⟨rfl,KO.refl _ _⟩)
  refine KL ?_ ?_
  ·refine La.one rfl fun F_ w_ hR hout hD=>?_
   have aA:F_ 13=iv (-x):=(hD.get 0 rfl rfl rfl)
   exact(LH rfl rfl rfl (fun _ _=>by kernel_rfl) (K5 _) (Lk aA (Lk rfl (Lk rfl LR))) (NY (-x) 0 4  _   ) (fun e_ w_ h_=>⟨_,h_.1,rfl,h_.2⟩))
  refine KL ?_ ?_
  ·refine La.one rfl fun F_ w_ hR hout hD=>?_
   have aB:F_ 14=iv (max 0 (min (-x) 4)):=(hD.get 0 rfl rfl rfl)
   exact(aDF ((max 0 (min (-x) 4)).toNat) rfl ((hout 5 rfl (by decide)).trans ap) aB (by omega) (by omega) ⟨rfl,KO.refl _ _⟩)
  exact L0
 intro aK aj aL ak ae aa
 obtain⟨am,aC⟩:=NA ak B8 B4
 have aD:=(aa 17).trans ao
 have aE:aj 11=Mr (Mr v i j j) ((max 0 (min x ((j-i:Nat):Int))).toNat) (j-i) (j-i):=(aa 11).trans (ae 5 (by decide))
 have aF:aj 15=Zj p1 ((max 0 (min (-x) 4)).toNat):=(aa 15).trans (ae 9 (by decide))
 clear ae aa
 refine Sb rfl rfl rfl rfl aE (Wr (r:=i+((max 0 (min x ((j-i:Nat):Int))).toNat)) am.byt (by omega) (by omega) rfl) aF am (aC.bytes (by omega) (by omega) (by omega) (by omega) (k:=(max 0 (min (-x) 4)).toNat) (by omega)) (by omega) fun aM aG aH=>?_
 refine KM ?_
 exact XO aD rfl ⟨T_s,rfl,((((KO.refl T_s w0).tr k3).tr ak).trans aH (KP.ok (S:=T_s) g_s (fun _ x=>x))),⟨aG,g_s⟩⟩
end Go.Proofs.YtknjpdcpmpfklaaGreatDoor
