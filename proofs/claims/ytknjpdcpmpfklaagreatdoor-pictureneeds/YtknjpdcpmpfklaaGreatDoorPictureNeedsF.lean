/- What PictureNeeds reaches of my texts, part 6. -/
import Derived.Test.YtknjpdcpmpfklaaGreatDoorPictureNeedsE
set_option maxRecDepth 100000
set_option maxHeartbeats 4000000
set_option maxRecDepth 100000
namespace Go.Proofs.YtknjpdcpmpfklaaGreatDoor
open Go.RowKit
theorem L1.of_eq{w:World}{T:Nat->Prop}{v:Value}{l m:List Nat}(e:m=l)(h:L1 w T v l):L1 w T v m:=e ▸ h
theorem Tu{f:FD}{p:Int}(h:0<(Lc f p).2):(Lc f p).1≠0:=by
 by_cases hk:QO f/\0<=p/\p<=2
 ·have:=(Oh hk);omega
 ·rw[Pu hk] at h;exact absurd h (by decide)
theorem aB7(p x y:Int)(b:Nat->Int)(f:FD)(f0 f1 f2:Value)(T_f0:Nat->Prop)(T_f1:Nat->Prop)(T_f2:Nat->Prop)(w0:World)(h_f0:L7 w0 T_f0 f0 ((f).p0))(h_f1:L7 w0 T_f1 f1 ((f).p1))(h_f2:L7 w0 T_f2 f2 ((f).p2)) :
  Calls Tryz.prog 43 #[.agg #[.int .i64 ((f).W),.int .i64 ((f).H),f0,f1,f2],.int .i64 (p),.int .i64 (x),.int .i64 (y),LH (b)] w0 fun e w'=>∃ (v1:Value) (T1:Nat->Prop) (v2:Value) (T2:Nat->Prop) (v3:Value) (T3:Nat->Prop),e = .returned (.agg #[.int .i64 ((Qn f p x y b).W),.int .i64 ((Qn f p x y b).H),v1,v2,v3])/\KM (fun _=>False) w0 w'/\(L1 w' T1 v1 ((Qn f p x y b).p0)/\KP w0 L8 T1)/\(L1 w' T2 v2 ((Qn f p x y b).p1)/\KP w0 L8 T2)/\(L1 w' T3 v3 ((Qn f p x y b).p2)/\KP w0 L8 T3)/\KJ T1 T2/\KJ T1 T3/\KJ T2 T3:=by
 refine Lp (args:=[.agg #[iv (f.W),iv (f.H),f0,f1,f2],iv p,iv x,iv y,LH b]) 55 Tryz.func43 rfl rfl (Nat.le_of_ble_eq_true rfl) ?_
 have hnx:=Ui x
 have hny:=Ui y
 have hsb:=Nm f p
 have g_f0:=KP.refl w0 T_f0
 have g_f1:=KP.refl w0 T_f1
 have g_f2:=KP.refl w0 T_f2
 refine KH (KF (Lt (vs:=[iv (f.W),iv (f.H),f0,f1,f2]) rfl rfl rfl rfl fun p1 w2 B4 g5 k3=>?_))
 obtain⟨dX,dY,dZ⟩:=Nx k3 h_f0 h_f1 h_f2
 refine M4 rfl rfl rfl rfl fun an jr cA d8 cB=>?_
 have d9:=LS (Nat.le_of_eq cA.symm)
 clear cA d9
 obtain⟨eb,ee,eh,ei⟩:=OS cB dX dY dZ B4
 have cC:=((KM.refl (fun _=>False) w0).tr k3).tr cB
 refine LF (n:=5) (vs:=[iv 0,iv 0,.slice none 0 0,.slice none 0 0,.slice none 0 0]) rfl rfl rfl (by kernel_rfl) fun ao bQ bR ek cD=>?_
 obtain⟨bq,bt,bu,bv,bS⟩:=OR cD eb ee eh ei d8
 have bT:=cC.tr cD
 refine KL ?_
 have cE:=K4 (iv p)
 have en:=K4 (iv x)
 have eo:=K4 (iv y)
 have ep:=K4 (undef)
 have er:=K4 (pt p1 0)
 have et:=K4 (pt an 0)
 have eu:=K4 (pt ao 0)
 refine KE (KH (KF (KG (.agg #[iv (f.W),iv (f.H),f0,f1,f2]) rfl rfl (KU KZ rfl er bv rr) (Lw (R:=fun v_ w_=>∃ (af:Value) (aI:Nat->Prop) (ah:Value) (aJ:Nat->Prop) (ai:Value) (aK:Nat->Prop),.agg #[iv ((MS f).W),iv ((MS f).H),af,ah,ai]=v_/\KM (fun _=>False) bQ w_/\(L1 w_ aI af ((MS f).p0)/\KP bQ L8 aI)/\(L1 w_ aJ ah ((MS f).p1)/\KP bQ L8 aJ)/\(L1 w_ aK ai ((MS f).p2)/\KP bQ L8 aK)/\KJ aI aJ/\KJ aI aK/\KJ aJ aK) rfl rfl (LE rfl rfl rfl (fun _ _=>by kernel_rfl) (K2 _) (Lj rfl LP) (aAY f f0 f1 f2 T_f0 T_f1 T_f2 _  bq bt bu ) (fun e_ w_ h_=>by obtain⟨v56_,T61_,v57_,T62_,v58_,T63_,he_,hr_⟩:=h_;exact⟨_,he_,v56_,T61_,v57_,T62_,v58_,T63_,rfl,hr_⟩)) ?_))))
 rintro _ js ⟨af,aI,ah,aJ,ai,aK,rfl,cF,⟨cG,cH⟩,⟨cI,cJ⟩,⟨cK,cL⟩,ew,ex,ey⟩
 obtain⟨cM,cN,cO,cP,cQ,cR⟩:=Qt cF bq bt bu bv bS bR
 have cS:=bT.tr cF
 obtain⟨ez,eA,eB,eC,eD,eE⟩:=Vk cH bq bt bu bv bS bR
 obtain⟨eF,eG,eH,eI,eJ,eK⟩:=Vk cJ bq bt bu bv bS bR
 obtain⟨eL,eM,eN,eO,eP,eQ⟩:=Vk cL bq bt bu bv bS bR
 refine LF (n:=5) (vs:=[iv 0,iv 0,.slice none 0 0,.slice none 0 0,.slice none 0 0]) rfl rfl rfl (by kernel_rfl) fun aa jt eR cT cU=>?_
 obtain⟨eS,eT,eU,eV,eW,eX,cV,cW,cX⟩:=aDL cT cM cN cO cP cQ cR cG cI cK
 obtain⟨eY,eZ,e6,e7,e8,e9,cY,cZ,c5⟩:=YM cU cM cN cO cP cQ cR cG cI cK
 refine Lh (us:=[iv ((MS f).W),iv ((MS f).H),af,ah,ai]) KZ rfl rfl rfl rfl rfl eR rfl (KX rfl (KX rfl (KX cY.one (KX cZ.one (KX c5.one MC))))) fun ju c6 ap=>?_
 have fa:=eY.all ap eS.symm
 have fb:=eZ.all ap eT.symm
 have fc:=e6.all ap eU.symm
 have fd:=e7.all ap (eV.symm p1 rfl)
 have fe:=e8.all ap (eW.symm an rfl)
 have ff:=e9.all ap (eX.symm ao rfl)
 have c7:=cY.all ap cV.symm
 have c9:=cZ.all ap cW.symm
 have da:=c5.all ap cX.symm
 refine KL ?_
 have db:=K4 (pt aa 0)
 refine KE (KH (KF (KG (.agg #[iv ((MS f).W),iv ((MS f).H),af,ah,ai]) rfl rfl (KU KZ rfl db c6 rr) (KS rfl rfl rfl cE (LV rfl rfl rfl rfl rfl (fun _ _=>by kernel_rfl) (Lj rfl (Lj rfl LP)) (Ti p (MS f) af ah ai aI aJ aK _  c7.byt c9.byt da.byt ) fun jv dc=>?_)))))
 obtain⟨fg,fh,fi,fj,fk,fm,fo,fp,fq,ft⟩:=RG dc fa fb fc fd fe ff c7 c9 da c6
 refine KG (.tuple #[iv ((Lc (MS f) p).1),iv ((Lc (MS f) p).2)]) rfl rfl (KN rfl rfl rr) (KG (iv ((Lc (MS f) p).1)) rfl rfl (LI rfl rfl rfl rr) (KG (iv ((Lc (MS f) p).2)) rfl rfl (LI rfl rfl rfl rr) (KG (iv ((Lc (MS f) p).1)) rfl rfl (KT rfl rfl rr) (KG (iv ((Lc (MS f) p).2)) rfl rfl (KT rfl rfl rr) (RV fun bU bV=>?_)))))
 obtain⟨fu,fw,fx,fy,fA,fB,fC⟩:=t7 bV 1 cE 2 en 3 eo 55 ep 9 et 10 eu 11 db
 have fD:bU 12=iv ((Lc (MS f) p).1):=(bV 12).trans rfl
 have fE:bU 13=iv ((Lc (MS f) p).2):=(bV 13).trans rfl
 clear bV
 refine KE (KH ?_)
 have fF:bU 12=iv ((Lc f p).1):=fD.trans (congrArg (Value.int .i64) (congrArg Prod.fst (Wl f p)))
 have fG:bU 13=iv ((Lc f p).2):=fE.trans (congrArg (Value.int .i64) (congrArg Prod.snd (Wl f p)))
 refine KF (KS rfl rfl rfl fw (LV rfl rfl rfl rfl rfl (fun _ _=>by kernel_rfl) (Lj rfl LP) (ZC x  _   ) fun jx dd=>?_))
 obtain⟨fH,fI,fJ,fK,fL,fM,fN,fO,fP,fQ⟩:=RG dd fg fh fi fj fk fm fo fp fq ft
 refine KS rfl rfl rfl fx (LV rfl rfl rfl rfl rfl (fun _ _=>by kernel_rfl) (Lj rfl LP) (ZC y  _   ) fun jy de=>?_)
 obtain⟨fR,fS,fT,fU,fV,fW,fX,fY,fZ,f5⟩:=RG de fH fI fJ fK fL fM fN fO fP fQ
 refine KG (iv (LK x)) rfl rfl (KT rfl rfl rr) (KG (iv (LK y)) rfl rfl (KT rfl rfl rr) (KL ?_))
 have f6:=K4 (iv (LK x))
 have f8:=K4 (iv (LK y))
 refine KE (KH (KH (KF (KG (iv 0) rfl rfl (KN rfl rfl rr) (KL ?_)))))
 have f9:=K4 (iv 0)
 refine KE (Lk (M1 (fun nn FF ww=>∃ (i:Nat),∃ (ab:Nat->Prop),∃ (ac:Nat->Prop),∃ (ae:Nat->Prop),(i<=4)/\nn=4-i/\FF 1=iv p/\FF 2=iv (LK x)/\FF 3=iv (LK y)/\FF 9=pt an 0/\FF 10=pt ao 0/\FF 11=pt aa 0/\FF 12=iv ((Lc f p).1)/\FF 13=iv ((Lc f p).2)/\FF 55=undef/\FF 28=iv ((i:Nat):Int)/\KM (fun _=>False) w0 ww/\L7 ww T_f0 f0 (f.p0)/\L7 ww T_f1 f1 (f.p1)/\L7 ww T_f2 f2 (f.p2)/\Mu ww p1 29 [iv (f.W),iv (f.H),f0,f1,f2]/\NI ww an 69 b/\Mu ww ao 29 [iv 0,iv 0,.slice none 0 0,.slice none 0 0,.slice none 0 0]/\L1 ww ab af ((ME f p x y b (4*i)).p0)/\L1 ww ac ah ((ME f p x y b (4*i)).p1)/\L1 ww ae ai ((ME f p x y b (4*i)).p2)/\Mu ww aa 29 [iv ((MS f).W),iv ((MS f).H),af,ah,ai]/\KP w0 L8 ab/\KP w0 L8 ac/\KP w0 L8 ae/\KJ ab T_f0/\KJ ab T_f1/\KJ ab T_f2/\KJ ab (Le p1)/\KJ ab (Le an)/\KJ ab (Le ao)/\KJ ab ac/\KJ ab ae/\KJ ab (Le aa)/\KJ ac T_f0/\KJ ac T_f1/\KJ ac T_f2/\KJ ac (Le p1)/\KJ ac (Le an)/\KJ ac (Le ao)/\KJ ac ae/\KJ ac (Le aa)/\KJ ae T_f0/\KJ ae T_f1/\KJ ae T_f2/\KJ ae (Le p1)/\KJ ae (Le an)/\KJ ae (Le ao)/\KJ ae (Le aa)) (4-0) ⟨0,aI,aJ,aK,by omega,rfl,fu,f6,f8,fA,fB,fC,fF,fG,fy,f9,(((((cS.tr cU).trans ap (KP.ok (S:=fun _=>False) (KP.new cS cT) K3)).tr dc).tr dd).tr de),fR,fS,fT,fU,fV,fW,fX,fY,fZ,f5,(KP.new bT cH),(KP.new bT cJ),(KP.new bT cL),ez,eA,eB,eC,eD,eE,ew,ex,cV.symm,eF,eG,eH,eI,eJ,eK,ey,cW.symm,eL,eM,eN,eO,eP,eQ,cX.symm⟩ ?_))
 rintro jz jA jB ⟨i,ab,ac,ae,i230,hn229,aA,aB,aT,aC,aL,aw,aD,aU,aV,aM,aW,bz,bA,bB,bC,aE,aX,aj,ak,am,az,aN,aO,aP,aY,aZ,a8,a9,ba,aQ,aF,aG,bb,bc,bd,be,bf,bg,aR,aH,bh,bi,bj,bl,bm,bn,aS,bo⟩
 refine KH (KF (KG (.bool (decide (((i:Nat):Int)<4))) rfl rfl (L2 rfl aM rfl rfl rr) (KL ?_)))
 have ga:=K4 (.bool (decide (((i:Nat):Int)<4)))
 refine KE (KH ?_)
 refine K5 ga (fun bD=>?_) (fun bD=>?_)
 ·replace bD:=of_decide_eq_true bD
  refine Lf (KE (KH (Lk (KH (KF (KS rfl rfl rfl aM (KG (iv ((i:Nat):Int)) rfl rfl (KT rfl rfl rr) (KL ?_))))))))
  have bW:=K4 (iv ((i:Nat):Int))
  refine KE (KH (KF (KS rfl rfl rfl aT (KS rfl rfl rfl bW (KG (iv ((LK y)+((i:Nat):Int))) rfl rfl (LN rfl rfl rfl (Ma rfl (by omega)) rr) (KG (iv ((LK y)+((i:Nat):Int))) rfl rfl (KT rfl rfl rr) (KL ?_)))))))
  have bp:=K4 (iv ((LK y)+((i:Nat):Int)))
  refine KE (KH ?_)
  by_cases df:0<=((LK y)+((i:Nat):Int))
  ·skip
   refine KF (KS rfl rfl rfl bp (KG (.bool true) rfl rfl (Nh rfl rfl rfl (decide_eq_true df) rr) (KG (.bool true) rfl rfl (KN rfl rfl rr) (KO (iv ((LK y)+((i:Nat):Int))) 2 true 36 rfl rfl rfl rfl rfl (KN rfl bp rr) (KO (iv ((Lc f p).2)) 2 true 36 rfl rfl rfl rfl rfl (KN rfl aU rr) (KO (.bool (decide (((LK y)+((i:Nat):Int))<((Lc f p).2)))) 2 true 36 rfl rfl rfl rfl rfl (L2 rfl rfl rfl rfl rr) (KG (.bool (decide (((LK y)+((i:Nat):Int))<((Lc f p).2)))) rfl rfl (Ld rfl rfl rfl rr) (KL ?_))))))))
   have gb:=K4 (.bool (decide (((LK y)+((i:Nat):Int))<((Lc f p).2))))
   refine KE ?_
   refine K5 gb (fun bE=>?_) (fun bE=>?_)
   ·replace bE:=of_decide_eq_true bE
    rcases (show p=0\/p=1\/p=2 from Sy (f:=f) (Tu (by omega))) with rfl|rfl|rfl
    ·skip
     have hsz:(Lc f 0).1≠0:=Tu (by omega)
     have hsp:=Oh (NA hsz)
     have hL := @UR f 0 x y b i (by decide) (by decide) hsz ⟨by omega,by omega⟩
     have hin2:N7 (Lc f 0).1 (Lc f 0).2 ((Lc f 0).1-1) (LK y+(i:Int)):=⟨by omega,by omega,by omega,by omega⟩
     have hc:=ON hin2
     have hls:=Ts x y b (4*i) hsz
     have dg:(f.pl 0).length=f.p0.length:=rfl
     have dh:(f.pl 1).length=f.p1.length:=rfl
     have di:(f.pl 2).length=f.p2.length:=rfl
     refine Na 11 [some 41,some 42,some 43,some 44,some 45,some 46,some 47,some 48,some 49,some 50,some 51] [Pd.eq (iv 0),Pd.eq (pt aa 2),Pd.eq (pt aa 2),Pd.eq af,Pd.eq (iv ((Lc f 0).1)),Pd.eq (iv ((LK y)+((i:Nat):Int))),Pd.eq (Ms af ((((LK y)+((i:Nat):Int))*((Lc f 0).1)).toNat) ((((LK y)+((i:Nat):Int))*((Lc f 0).1)+((Lc f 0).1)).toNat) ((((LK y)+((i:Nat):Int))*((Lc f 0).1)+((Lc f 0).1)).toNat)),Pd.eq (iv (LK x)),Pd.eq (LH b),Pd.eq (iv ((i:Nat):Int)),Pd.eq (.agg #[.int .u8 ((LU (b (i*4)):Nat):Int),.int .u8 ((LU (b (i*4+1)):Nat):Int),.int .u8 ((LU (b (i*4+2)):Nat):Int),.int .u8 ((LU (b (i*4+3)):Nat):Int)])] (by kernel_rfl) (by kernel_rfl) (by kernel_rfl) ?_ ?_
     ·refine KK ?_ ?_
      ·refine Lb.one rfl fun F_ w_ hR hout hD=>?_
       exact(KN rfl ((hout 1 rfl (by decide)).trans aA) ⟨rfl,KM.refl _ _⟩)
      refine KK ?_ ?_
      ·refine Lb.one rfl fun F_ w_ hR hout hD=>?_
       exact(KQ (n:=3) rfl ((hout 11 rfl (by decide)).trans aw) Tryz.underlying29 rfl (by kernel_rfl) (by decide) rfl ⟨rfl,KM.refl _ _⟩)
      refine KK ?_ ?_
      ·refine Lb.one rfl fun F_ w_ hR hout hD=>?_
       have bF:F_ 42=pt aa 2:=(hD.get 0 rfl rfl rfl)
       have bG:F_ 41=iv 0:=(hD.get 1 rfl rfl rfl)
       exact(LQ 0 (s:=1) rfl bF bG (by omega) Tryz.underlying27 (by omega) (by kernel_rfl) (by omega) ⟨rfl,KM.refl _ _⟩)
      refine KK ?_ ?_
      ·refine Lb.one rfl fun F_ w_ hR hout hD=>?_
       have bH:F_ 43=pt aa 2:=(hD.get 0 rfl rfl rfl)
       exact(KR rfl bH Tryz.underlying26 (az.all hR id) rfl rfl ⟨rfl,KM.refl _ _⟩)
      refine KK ?_ ?_
      ·refine Lb.one rfl fun F_ w_ hR hout hD=>?_
       exact(KN rfl ((hout 12 rfl (by decide)).trans aD) ⟨rfl,KM.refl _ _⟩)
      refine KK ?_ ?_
      ·refine Lb.one rfl fun F_ w_ hR hout hD=>?_
       exact(KN rfl ((hout 15 rfl (by decide)).trans bp) ⟨rfl,KM.refl _ _⟩)
      refine KK ?_ ?_
      ·refine Lb.one rfl fun F_ w_ hR hout hD=>?_
       have bI:F_ 44=af:=(hD.get 0 rfl rfl rfl)
       have bJ:F_ 45=iv ((Lc f 0).1):=(hD.get 1 rfl rfl rfl)
       have bK:F_ 46=iv ((LK y)+((i:Nat):Int)):=(hD.get 2 rfl rfl rfl)
       exact(LE rfl rfl rfl (fun _ _=>by kernel_rfl) (K2 _) (Lj bI (Lj bJ (Lj bK LP))) (SS af ((ME f 0 x y b (4*i)).p0) ((Lc f 0).1) ((LK y)+((i:Nat):Int)) ab _ (by omega) (by omega) (by omega) (by omega) (aj.all hR KJ.none).byt ) (fun e_ w_ h_=>⟨_,h_.1,rfl,h_.2⟩))
      refine KK ?_ ?_
      ·refine Lb.one rfl fun F_ w_ hR hout hD=>?_
       exact(KN rfl ((hout 2 rfl (by decide)).trans aB) ⟨rfl,KM.refl _ _⟩)
      refine KK ?_ ?_
      ·refine Lb.one rfl fun F_ w_ hR hout hD=>?_
       exact(LX KW rfl ((hout 9 rfl (by decide)).trans aC) (aE.all hR id) ⟨rfl,KM.refl _ _⟩)
      refine KK ?_ ?_
      ·refine Lb.one rfl fun F_ w_ hR hout hD=>?_
       exact(KN rfl ((hout 14 rfl (by decide)).trans bW) ⟨rfl,KM.refl _ _⟩)
      refine KK ?_ ?_
      ·refine Lb.one rfl fun F_ w_ hR hout hD=>?_
       have bL:F_ 49=LH b:=(hD.get 0 rfl rfl rfl)
       have bM:F_ 50=iv ((i:Nat):Int):=(hD.get 1 rfl rfl rfl)
       exact(LE rfl rfl rfl (fun _ _=>by kernel_rfl) (K2 _) (Lj bL (Lj bM LP)) (W8 b i  _ (by omega)  ) (fun e_ w_ h_=>⟨_,h_.1,rfl,h_.2⟩))
      exact L0
     intro jC ce dj dk bX bN
     obtain⟨dl,dm,dn,dp,dq,dr,gc,dt,du,dv⟩:=RG dk bz bA bB bC aE aX aj ak am az
     have dw:=aW.tr dk
     obtain⟨gd,ge,gh,gi,gj,gl,gm,gn,go,gp⟩:=t10 bN 1 aA 2 aB 3 aT 9 aC 10 aL 11 aw 12 aD 13 aU 55 aV 28 aM
     have gq:ce 47=Ms af ((((LK y)+((i:Nat):Int))*((Lc f 0).1)).toNat) ((((LK y)+((i:Nat):Int))*((Lc f 0).1)+((Lc f 0).1)).toNat) ((((LK y)+((i:Nat):Int))*((Lc f 0).1)+((Lc f 0).1)).toNat):=(bN 47).trans (bX 6 (by decide))
     have gr:ce 48=iv (LK x):=(bN 48).trans (bX 7 (by decide))
     have gt:ce 51 = .agg #[.int .u8 ((LU (b (i*4)):Nat):Int),.int .u8 ((LU (b (i*4+1)):Nat):Int),.int .u8 ((LU (b (i*4+2)):Nat):Int),.int .u8 ((LU (b (i*4+3)):Nat):Int)]:=(bN 51).trans (bX 10 (by decide))
     clear bX bN
     refine Lw (R:=fun v_ w_=>∃ (bY:Nat->Prop),.tuple #[]=v_/\KM ab dj w_/\(L1 w_ bY af (YH ((ME f 0 x y b (4*i)).p0) ((((LK y)+((i:Nat):Int))*((Lc f 0).1)).toNat) ((((LK y)+((i:Nat):Int))*((Lc f 0).1)+((Lc f 0).1)).toNat) (LK x) [(LU (b (i*4))),(LU (b (i*4+1))),(LU (b (i*4+2))),(LU (b (i*4+3)))])/\KP dj ab bY)) rfl rfl (LE rfl rfl rfl (fun _ _=>by kernel_rfl) (K2 _) (Lj gq (Lj gr (Lj gt LP))) (YP af ((ME f 0 x y b (4*i)).p0) ((((LK y)+((i:Nat):Int))*((Lc f 0).1)).toNat) ((((LK y)+((i:Nat):Int))*((Lc f 0).1)+((Lc f 0).1)).toNat) (LK x) (LU (b (i*4))) (LU (b (i*4+1))) (LU (b (i*4+2))) (LU (b (i*4+3))) ab _ (by omega) (by omega) (by omega) (N4 _) (N4 _) (N4 _) (N4 _) gc ) (fun e_ w_ h_=>by obtain⟨T369_,he_,hr_⟩:=h_;exact⟨_,he_,T369_,rfl,hr_⟩)) ?_
     rintro _ jD ⟨bY,rfl,aq,⟨cf,cg⟩⟩
     have gu:=dl.all aq aY.symm
     have gv:=dm.all aq aZ.symm
     have gw:=dn.all aq a8.symm
     have gz:=dp.all aq (a9.symm p1 rfl)
     have gA:=dq.all aq (ba.symm an rfl)
     have gB:=dr.all aq (aQ.symm ao rfl)
     have ci:=dt.all aq aF.symm
     have cj:=du.all aq aG.symm
     have gC:=dv.all aq (bb.symm aa rfl)
     obtain⟨gD,gE,gF,gG,gH,gI,gJ,gK⟩:=RC cg aY dl aZ dm a8 dn a9 dp ba dq aQ dr aF dt aG du
     have gL:=bb.grew cg (LR dv.lt)
     refine KL ?_
     refine LA (KE (KF (KG (iv ((i+1:Nat):Int)) rfl rfl (LN rfl gp rfl (L5 (by omega) (by omega)) rr) (KG (iv ((i+1:Nat):Int)) rfl rfl (KN rfl rfl rr) (KL ?_)))))
     have gM:=K4 (iv ((i+1:Nat):Int))
     exact KE ⟨(4-(i+1)),by omega,i+1,bY,ac,ae,by omega,rfl,gd,ge,gh,gi,gj,gl,gm,gn,go,gM,(dw.trans aq (fun i hi x=>((KP.ok (S:=fun _=>False) aN K3) i hi x))),gu,gv,gw,gz,gA,gB,(by first|exact L1.of_eq hL.1 cf|exact L1.of_eq (hL.2 0 (by decide) (by decide) (by decide)) cf|exact L1.of_eq (congrArg FD.p0 (Nn (by omega))) cf),(by first|exact L1.of_eq hL.1 ci|exact L1.of_eq (hL.2 1 (by decide) (by decide) (by decide)) ci|exact L1.of_eq (congrArg FD.p1 (Nn (by omega))) ci),(by first|exact L1.of_eq hL.1 cj|exact L1.of_eq (hL.2 2 (by decide) (by decide) (by decide)) cj|exact L1.of_eq (congrArg FD.p2 (Nn (by omega))) cj),gC,(aN.trans dw cg),aO,aP,gD,gE,gF,gG,gH,gI,gJ,gK,gL,bc,bd,be,bf,bg,aR,aH,bh,bi,bj,bl,bm,bn,aS,bo⟩
    ·skip
     have hsz:(Lc f 1).1≠0:=Tu (by omega)
     have hsp:=Oh (NA hsz)
     have hL := @UR f 1 x y b i (by decide) (by decide) hsz ⟨by omega,by omega⟩
     have hin2:N7 (Lc f 1).1 (Lc f 1).2 ((Lc f 1).1-1) (LK y+(i:Int)):=⟨by omega,by omega,by omega,by omega⟩
     have hc:=ON hin2
     have hls:=Ts x y b (4*i) hsz
     have dg:(f.pl 0).length=f.p0.length:=rfl
     have dh:(f.pl 1).length=f.p1.length:=rfl
     have di:(f.pl 2).length=f.p2.length:=rfl
     refine Na 11 [some 41,some 42,some 43,some 44,some 45,some 46,some 47,some 48,some 49,some 50,some 51] [Pd.eq (iv 1),Pd.eq (pt aa 2),Pd.eq (pt aa 3),Pd.eq ah,Pd.eq (iv ((Lc f 1).1)),Pd.eq (iv ((LK y)+((i:Nat):Int))),Pd.eq (Ms ah ((((LK y)+((i:Nat):Int))*((Lc f 1).1)).toNat) ((((LK y)+((i:Nat):Int))*((Lc f 1).1)+((Lc f 1).1)).toNat) ((((LK y)+((i:Nat):Int))*((Lc f 1).1)+((Lc f 1).1)).toNat)),Pd.eq (iv (LK x)),Pd.eq (LH b),Pd.eq (iv ((i:Nat):Int)),Pd.eq (.agg #[.int .u8 ((LU (b (i*4)):Nat):Int),.int .u8 ((LU (b (i*4+1)):Nat):Int),.int .u8 ((LU (b (i*4+2)):Nat):Int),.int .u8 ((LU (b (i*4+3)):Nat):Int)])] (by kernel_rfl) (by kernel_rfl) (by kernel_rfl) ?_ ?_
     ·refine KK ?_ ?_
      ·refine Lb.one rfl fun F_ w_ hR hout hD=>?_
       exact(KN rfl ((hout 1 rfl (by decide)).trans aA) ⟨rfl,KM.refl _ _⟩)
      refine KK ?_ ?_
      ·refine Lb.one rfl fun F_ w_ hR hout hD=>?_
       exact(KQ (n:=3) rfl ((hout 11 rfl (by decide)).trans aw) Tryz.underlying29 rfl (by kernel_rfl) (by decide) rfl ⟨rfl,KM.refl _ _⟩)
      refine KK ?_ ?_
      ·refine Lb.one rfl fun F_ w_ hR hout hD=>?_
       have bF:F_ 42=pt aa 2:=(hD.get 0 rfl rfl rfl)
       have bG:F_ 41=iv 1:=(hD.get 1 rfl rfl rfl)
       exact(LQ 1 (s:=1) rfl bF bG (by omega) Tryz.underlying27 (by omega) (by kernel_rfl) (by omega) ⟨rfl,KM.refl _ _⟩)
      refine KK ?_ ?_
      ·refine Lb.one rfl fun F_ w_ hR hout hD=>?_
       have bH:F_ 43=pt aa 3:=(hD.get 0 rfl rfl rfl)
       exact(KR rfl bH Tryz.underlying26 (az.all hR id) rfl rfl ⟨rfl,KM.refl _ _⟩)
      refine KK ?_ ?_
      ·refine Lb.one rfl fun F_ w_ hR hout hD=>?_
       exact(KN rfl ((hout 12 rfl (by decide)).trans aD) ⟨rfl,KM.refl _ _⟩)
      refine KK ?_ ?_
      ·refine Lb.one rfl fun F_ w_ hR hout hD=>?_
       exact(KN rfl ((hout 15 rfl (by decide)).trans bp) ⟨rfl,KM.refl _ _⟩)
      refine KK ?_ ?_
      ·refine Lb.one rfl fun F_ w_ hR hout hD=>?_
       have bI:F_ 44=ah:=(hD.get 0 rfl rfl rfl)
       have bJ:F_ 45=iv ((Lc f 1).1):=(hD.get 1 rfl rfl rfl)
       have bK:F_ 46=iv ((LK y)+((i:Nat):Int)):=(hD.get 2 rfl rfl rfl)
       exact(LE rfl rfl rfl (fun _ _=>by kernel_rfl) (K2 _) (Lj bI (Lj bJ (Lj bK LP))) (SS ah ((ME f 1 x y b (4*i)).p1) ((Lc f 1).1) ((LK y)+((i:Nat):Int)) ac _ (by omega) (by omega) (by omega) (by omega) (ak.all hR KJ.none).byt ) (fun e_ w_ h_=>⟨_,h_.1,rfl,h_.2⟩))
      refine KK ?_ ?_
      ·refine Lb.one rfl fun F_ w_ hR hout hD=>?_
       exact(KN rfl ((hout 2 rfl (by decide)).trans aB) ⟨rfl,KM.refl _ _⟩)
      refine KK ?_ ?_
      ·refine Lb.one rfl fun F_ w_ hR hout hD=>?_
       exact(LX KW rfl ((hout 9 rfl (by decide)).trans aC) (aE.all hR id) ⟨rfl,KM.refl _ _⟩)
      refine KK ?_ ?_
      ·refine Lb.one rfl fun F_ w_ hR hout hD=>?_
       exact(KN rfl ((hout 14 rfl (by decide)).trans bW) ⟨rfl,KM.refl _ _⟩)
      refine KK ?_ ?_
      ·refine Lb.one rfl fun F_ w_ hR hout hD=>?_
       have bL:F_ 49=LH b:=(hD.get 0 rfl rfl rfl)
       have bM:F_ 50=iv ((i:Nat):Int):=(hD.get 1 rfl rfl rfl)
       exact(LE rfl rfl rfl (fun _ _=>by kernel_rfl) (K2 _) (Lj bL (Lj bM LP)) (W8 b i  _ (by omega)  ) (fun e_ w_ h_=>⟨_,h_.1,rfl,h_.2⟩))
      exact L0
     intro jE cm dy dz bZ bO
     obtain⟨dA,dB,dC,dD,dE,dF,dG,gN,dH,dI⟩:=RG dz bz bA bB bC aE aX aj ak am az
     have dJ:=aW.tr dz
     obtain⟨gO,gP,gQ,gR,gS,gT,gU,gV,gW,gZ⟩:=t10 bO 1 aA 2 aB 3 aT 9 aC 10 aL 11 aw 12 aD 13 aU 55 aV 28 aM
     have hP:cm 47=Ms ah ((((LK y)+((i:Nat):Int))*((Lc f 1).1)).toNat) ((((LK y)+((i:Nat):Int))*((Lc f 1).1)+((Lc f 1).1)).toNat) ((((LK y)+((i:Nat):Int))*((Lc f 1).1)+((Lc f 1).1)).toNat):=(bO 47).trans (bZ 6 (by decide))
     have hQ:cm 48=iv (LK x):=(bO 48).trans (bZ 7 (by decide))
     have hZ:cm 51 = .agg #[.int .u8 ((LU (b (i*4)):Nat):Int),.int .u8 ((LU (b (i*4+1)):Nat):Int),.int .u8 ((LU (b (i*4+2)):Nat):Int),.int .u8 ((LU (b (i*4+3)):Nat):Int)]:=(bO 51).trans (bZ 10 (by decide))
     clear bZ bO
     refine Lw (R:=fun v_ w_=>∃ (b7:Nat->Prop),.tuple #[]=v_/\KM ac dy w_/\(L1 w_ b7 ah (YH ((ME f 1 x y b (4*i)).p1) ((((LK y)+((i:Nat):Int))*((Lc f 1).1)).toNat) ((((LK y)+((i:Nat):Int))*((Lc f 1).1)+((Lc f 1).1)).toNat) (LK x) [(LU (b (i*4))),(LU (b (i*4+1))),(LU (b (i*4+2))),(LU (b (i*4+3)))])/\KP dy ac b7)) rfl rfl (LE rfl rfl rfl (fun _ _=>by kernel_rfl) (K2 _) (Lj hP (Lj hQ (Lj hZ LP))) (YP ah ((ME f 1 x y b (4*i)).p1) ((((LK y)+((i:Nat):Int))*((Lc f 1).1)).toNat) ((((LK y)+((i:Nat):Int))*((Lc f 1).1)+((Lc f 1).1)).toNat) (LK x) (LU (b (i*4))) (LU (b (i*4+1))) (LU (b (i*4+2))) (LU (b (i*4+3))) ac _ (by omega) (by omega) (by omega) (N4 _) (N4 _) (N4 _) (N4 _) gN ) (fun e_ w_ h_=>by obtain⟨T449_,he_,hr_⟩:=h_;exact⟨_,he_,T449_,rfl,hr_⟩)) ?_
     rintro _ jF ⟨b7,rfl,ar,⟨cn,co⟩⟩
     have ia:=dA.all ar bc.symm
     have ib:=dB.all ar bd.symm
     have ie:=dC.all ar be.symm
     have ig:=dD.all ar (bf.symm p1 rfl)
     have ii:=dE.all ar (bg.symm an rfl)
     have ij:=dF.all ar (aR.symm ao rfl)
     have cq:=dG.all ar aF
     have cr:=dH.all ar aH.symm
     have ik:=dI.all ar (bh.symm aa rfl)
     obtain⟨io,ip,iq,ir,iu,iw,iy,iz⟩:=RC co bc dA bd dB be dC bf dD bg dE aR dF (aF.symm) dG aH dH
     have iA:=bh.grew co (LR dI.lt)
     refine KL ?_
     refine LA (KE (KF (KG (iv ((i+1:Nat):Int)) rfl rfl (LN rfl gZ rfl (L5 (by omega) (by omega)) rr) (KG (iv ((i+1:Nat):Int)) rfl rfl (KN rfl rfl rr) (KL ?_)))))
     have iB:=K4 (iv ((i+1:Nat):Int))
     exact KE ⟨(4-(i+1)),by omega,i+1,ab,b7,ae,by omega,rfl,gO,gP,gQ,gR,gS,gT,gU,gV,gW,iB,(dJ.trans ar (fun i hi x=>((KP.ok (S:=fun _=>False) aO K3) i hi x))),ia,ib,ie,ig,ii,ij,(by first|exact L1.of_eq hL.1 cq|exact L1.of_eq (hL.2 0 (by decide) (by decide) (by decide)) cq|exact L1.of_eq (congrArg FD.p0 (Nn (by omega))) cq),(by first|exact L1.of_eq hL.1 cn|exact L1.of_eq (hL.2 1 (by decide) (by decide) (by decide)) cn|exact L1.of_eq (congrArg FD.p1 (Nn (by omega))) cn),(by first|exact L1.of_eq hL.1 cr|exact L1.of_eq (hL.2 2 (by decide) (by decide) (by decide)) cr|exact L1.of_eq (congrArg FD.p2 (Nn (by omega))) cr),ik,aN,(aO.trans dJ co),aP,aY,aZ,a8,a9,ba,aQ,iy.symm,aG,bb,io,ip,iq,ir,iu,iw,iz,iA,bi,bj,bl,bm,bn,aS,bo⟩
    ·skip
     have hsz:(Lc f 2).1≠0:=Tu (by omega)
     have hsp:=Oh (NA hsz)
     have hL := @UR f 2 x y b i (by decide) (by decide) hsz ⟨by omega,by omega⟩
     have hin2:N7 (Lc f 2).1 (Lc f 2).2 ((Lc f 2).1-1) (LK y+(i:Int)):=⟨by omega,by omega,by omega,by omega⟩
     have hc:=ON hin2
     have hls:=Ts x y b (4*i) hsz
     have dg:(f.pl 0).length=f.p0.length:=rfl
     have dh:(f.pl 1).length=f.p1.length:=rfl
     have di:(f.pl 2).length=f.p2.length:=rfl
     refine Na 11 [some 41,some 42,some 43,some 44,some 45,some 46,some 47,some 48,some 49,some 50,some 51] [Pd.eq (iv 2),Pd.eq (pt aa 2),Pd.eq (pt aa 4),Pd.eq ai,Pd.eq (iv ((Lc f 2).1)),Pd.eq (iv ((LK y)+((i:Nat):Int))),Pd.eq (Ms ai ((((LK y)+((i:Nat):Int))*((Lc f 2).1)).toNat) ((((LK y)+((i:Nat):Int))*((Lc f 2).1)+((Lc f 2).1)).toNat) ((((LK y)+((i:Nat):Int))*((Lc f 2).1)+((Lc f 2).1)).toNat)),Pd.eq (iv (LK x)),Pd.eq (LH b),Pd.eq (iv ((i:Nat):Int)),Pd.eq (.agg #[.int .u8 ((LU (b (i*4)):Nat):Int),.int .u8 ((LU (b (i*4+1)):Nat):Int),.int .u8 ((LU (b (i*4+2)):Nat):Int),.int .u8 ((LU (b (i*4+3)):Nat):Int)])] (by kernel_rfl) (by kernel_rfl) (by kernel_rfl) ?_ ?_
     ·refine KK ?_ ?_
      ·refine Lb.one rfl fun F_ w_ hR hout hD=>?_
       exact(KN rfl ((hout 1 rfl (by decide)).trans aA) ⟨rfl,KM.refl _ _⟩)
      refine KK ?_ ?_
      ·refine Lb.one rfl fun F_ w_ hR hout hD=>?_
       exact(KQ (n:=3) rfl ((hout 11 rfl (by decide)).trans aw) Tryz.underlying29 rfl (by kernel_rfl) (by decide) rfl ⟨rfl,KM.refl _ _⟩)
      refine KK ?_ ?_
      ·refine Lb.one rfl fun F_ w_ hR hout hD=>?_
       have bF:F_ 42=pt aa 2:=(hD.get 0 rfl rfl rfl)
       have bG:F_ 41=iv 2:=(hD.get 1 rfl rfl rfl)
       exact(LQ 2 (s:=1) rfl bF bG (by omega) Tryz.underlying27 (by omega) (by kernel_rfl) (by omega) ⟨rfl,KM.refl _ _⟩)
      refine KK ?_ ?_
      ·refine Lb.one rfl fun F_ w_ hR hout hD=>?_
       have bH:F_ 43=pt aa 4:=(hD.get 0 rfl rfl rfl)
       exact(KR rfl bH Tryz.underlying26 (az.all hR id) rfl rfl ⟨rfl,KM.refl _ _⟩)
      refine KK ?_ ?_
      ·refine Lb.one rfl fun F_ w_ hR hout hD=>?_
       exact(KN rfl ((hout 12 rfl (by decide)).trans aD) ⟨rfl,KM.refl _ _⟩)
      refine KK ?_ ?_
      ·refine Lb.one rfl fun F_ w_ hR hout hD=>?_
       exact(KN rfl ((hout 15 rfl (by decide)).trans bp) ⟨rfl,KM.refl _ _⟩)
      refine KK ?_ ?_
      ·refine Lb.one rfl fun F_ w_ hR hout hD=>?_
       have bI:F_ 44=ai:=(hD.get 0 rfl rfl rfl)
       have bJ:F_ 45=iv ((Lc f 2).1):=(hD.get 1 rfl rfl rfl)
       have bK:F_ 46=iv ((LK y)+((i:Nat):Int)):=(hD.get 2 rfl rfl rfl)
       exact(LE rfl rfl rfl (fun _ _=>by kernel_rfl) (K2 _) (Lj bI (Lj bJ (Lj bK LP))) (SS ai ((ME f 2 x y b (4*i)).p2) ((Lc f 2).1) ((LK y)+((i:Nat):Int)) ae _ (by omega) (by omega) (by omega) (by omega) (am.all hR KJ.none).byt ) (fun e_ w_ h_=>⟨_,h_.1,rfl,h_.2⟩))
      refine KK ?_ ?_
      ·refine Lb.one rfl fun F_ w_ hR hout hD=>?_
       exact(KN rfl ((hout 2 rfl (by decide)).trans aB) ⟨rfl,KM.refl _ _⟩)
      refine KK ?_ ?_
      ·refine Lb.one rfl fun F_ w_ hR hout hD=>?_
       exact(LX KW rfl ((hout 9 rfl (by decide)).trans aC) (aE.all hR id) ⟨rfl,KM.refl _ _⟩)
      refine KK ?_ ?_
      ·refine Lb.one rfl fun F_ w_ hR hout hD=>?_
       exact(KN rfl ((hout 14 rfl (by decide)).trans bW) ⟨rfl,KM.refl _ _⟩)
      refine KK ?_ ?_
      ·refine Lb.one rfl fun F_ w_ hR hout hD=>?_
       have bL:F_ 49=LH b:=(hD.get 0 rfl rfl rfl)
       have bM:F_ 50=iv ((i:Nat):Int):=(hD.get 1 rfl rfl rfl)
       exact(LE rfl rfl rfl (fun _ _=>by kernel_rfl) (K2 _) (Lj bL (Lj bM LP)) (W8 b i  _ (by omega)  ) (fun e_ w_ h_=>⟨_,h_.1,rfl,h_.2⟩))
      exact L0
     intro jG ct dK dL b8 bP
     obtain⟨dM,dN,dO,dP,dQ,dR,dS,dT,iC,dU⟩:=RG dL bz bA bB bC aE aX aj ak am az
     have dV:=aW.tr dL
     obtain⟨iD,iE,iF,iG,iH,iI,iJ,iK,iL,iM⟩:=t10 bP 1 aA 2 aB 3 aT 9 aC 10 aL 11 aw 12 aD 13 aU 55 aV 28 aM
     have iN:ct 47=Ms ai ((((LK y)+((i:Nat):Int))*((Lc f 2).1)).toNat) ((((LK y)+((i:Nat):Int))*((Lc f 2).1)+((Lc f 2).1)).toNat) ((((LK y)+((i:Nat):Int))*((Lc f 2).1)+((Lc f 2).1)).toNat):=(bP 47).trans (b8 6 (by decide))
     have iO:ct 48=iv (LK x):=(bP 48).trans (b8 7 (by decide))
     have iP:ct 51 = .agg #[.int .u8 ((LU (b (i*4)):Nat):Int),.int .u8 ((LU (b (i*4+1)):Nat):Int),.int .u8 ((LU (b (i*4+2)):Nat):Int),.int .u8 ((LU (b (i*4+3)):Nat):Int)]:=(bP 51).trans (b8 10 (by decide))
     clear b8 bP
     refine Lw (R:=fun v_ w_=>∃ (b9:Nat->Prop),.tuple #[]=v_/\KM ae dK w_/\(L1 w_ b9 ai (YH ((ME f 2 x y b (4*i)).p2) ((((LK y)+((i:Nat):Int))*((Lc f 2).1)).toNat) ((((LK y)+((i:Nat):Int))*((Lc f 2).1)+((Lc f 2).1)).toNat) (LK x) [(LU (b (i*4))),(LU (b (i*4+1))),(LU (b (i*4+2))),(LU (b (i*4+3)))])/\KP dK ae b9)) rfl rfl (LE rfl rfl rfl (fun _ _=>by kernel_rfl) (K2 _) (Lj iN (Lj iO (Lj iP LP))) (YP ai ((ME f 2 x y b (4*i)).p2) ((((LK y)+((i:Nat):Int))*((Lc f 2).1)).toNat) ((((LK y)+((i:Nat):Int))*((Lc f 2).1)+((Lc f 2).1)).toNat) (LK x) (LU (b (i*4))) (LU (b (i*4+1))) (LU (b (i*4+2))) (LU (b (i*4+3))) ae _ (by omega) (by omega) (by omega) (N4 _) (N4 _) (N4 _) (N4 _) iC ) (fun e_ w_ h_=>by obtain⟨T529_,he_,hr_⟩:=h_;exact⟨_,he_,T529_,rfl,hr_⟩)) ?_
     rintro _ jH ⟨b9,rfl,au,⟨cu,cv⟩⟩
     have iQ:=dM.all au bi.symm
     have iR:=dN.all au bj.symm
     have iS:=dO.all au bl.symm
     have iT:=dP.all au (bm.symm p1 rfl)
     have iU:=dQ.all au (bn.symm an rfl)
     have iV:=dR.all au (aS.symm ao rfl)
     have cw:=dS.all au aG
     have cy:=dT.all au aH
     have iW:=dU.all au (bo.symm aa rfl)
     obtain⟨iX,iY,iZ,ja,jb,jc,jd,je⟩:=RC cv bi dM bj dN bl dO bm dP bn dQ aS dR (aG.symm) dS (aH.symm) dT
     have jf:=bo.grew cv (LR dU.lt)
     refine KL ?_
     refine LA (KE (KF (KG (iv ((i+1:Nat):Int)) rfl rfl (LN rfl iM rfl (L5 (by omega) (by omega)) rr) (KG (iv ((i+1:Nat):Int)) rfl rfl (KN rfl rfl rr) (KL ?_)))))
     have jg:=K4 (iv ((i+1:Nat):Int))
     exact KE ⟨(4-(i+1)),by omega,i+1,ab,ac,b9,by omega,rfl,iD,iE,iF,iG,iH,iI,iJ,iK,iL,jg,(dV.trans au (fun i hi x=>((KP.ok (S:=fun _=>False) aP K3) i hi x))),iQ,iR,iS,iT,iU,iV,(by first|exact L1.of_eq hL.1 cw|exact L1.of_eq (hL.2 0 (by decide) (by decide) (by decide)) cw|exact L1.of_eq (congrArg FD.p0 (Nn (by omega))) cw),(by first|exact L1.of_eq hL.1 cy|exact L1.of_eq (hL.2 1 (by decide) (by decide) (by decide)) cy|exact L1.of_eq (congrArg FD.p1 (Nn (by omega))) cy),(by first|exact L1.of_eq hL.1 cu|exact L1.of_eq (hL.2 2 (by decide) (by decide) (by decide)) cu|exact L1.of_eq (congrArg FD.p2 (Nn (by omega))) cu),iW,aN,aO,(aP.trans dV cv),aY,aZ,a8,a9,ba,aQ,aF,jd.symm,bb,bc,bd,be,bf,bg,aR,je.symm,bh,iX,iY,iZ,ja,jb,jc,jf⟩
   ·replace bE:=of_decide_eq_false bE
    refine Lf (LA (KE (KF (KG (iv ((i+1:Nat):Int)) rfl rfl (LN rfl aM rfl (L5 (by omega) (by omega)) rr) (KG (iv ((i+1:Nat):Int)) rfl rfl (KN rfl rfl rr) (KL ?_))))))
    have jh:=K4 (iv ((i+1:Nat):Int))
    exact KE ⟨(4-(i+1)),by omega,i+1,ab,ac,ae,by omega,rfl,aA,aB,aT,aC,aL,aw,aD,aU,aV,jh,aW,bz,bA,bB,bC,aE,aX,(by first|exact L1.of_eq hL.1 aj|exact L1.of_eq (hL.2 0 (by decide) (by decide) (by decide)) aj|exact L1.of_eq (congrArg FD.p0 (Nn (by omega))) aj),(by first|exact L1.of_eq hL.1 ak|exact L1.of_eq (hL.2 1 (by decide) (by decide) (by decide)) ak|exact L1.of_eq (congrArg FD.p1 (Nn (by omega))) ak),(by first|exact L1.of_eq hL.1 am|exact L1.of_eq (hL.2 2 (by decide) (by decide) (by decide)) am|exact L1.of_eq (congrArg FD.p2 (Nn (by omega))) am),az,aN,aO,aP,aY,aZ,a8,a9,ba,aQ,aF,aG,bb,bc,bd,be,bf,bg,aR,aH,bh,bi,bj,bl,bm,bn,aS,bo⟩
  ·skip
   refine KF (KS rfl rfl rfl bp (KG (.bool false) rfl rfl (Nh rfl rfl rfl (decide_eq_false df) rr) (KG (.bool false) rfl rfl (KN rfl rfl rr) (KI 2 true 36 rfl rfl rfl (Or.inl rfl) rfl (KI 2 true 36 rfl rfl rfl (Or.inl rfl) rfl (KI 2 true 36 rfl rfl rfl (Or.inl rfl) rfl (KG (.bool false) rfl rfl (K6 rfl rfl rfl rr) (KL ?_))))))))
   have ji:=K4 (.bool false)
   refine KE ?_
   refine K5 (t:=false) ji (fun e=>by cases e) (fun _=>?_)
   refine Lf (LA (KE (KF (KG (iv ((i+1:Nat):Int)) rfl rfl (LN rfl aM rfl (L5 (by omega) (by omega)) rr) (KG (iv ((i+1:Nat):Int)) rfl rfl (KN rfl rfl rr) (KL ?_))))))
   have jj:=K4 (iv ((i+1:Nat):Int))
   exact KE ⟨(4-(i+1)),by omega,i+1,ab,ac,ae,by omega,rfl,aA,aB,aT,aC,aL,aw,aD,aU,aV,jj,aW,bz,bA,bB,bC,aE,aX,(by first|exact L1.of_eq hL.1 aj|exact L1.of_eq (hL.2 0 (by decide) (by decide) (by decide)) aj|exact L1.of_eq (congrArg FD.p0 (Nn (by omega))) aj),(by first|exact L1.of_eq hL.1 ak|exact L1.of_eq (hL.2 1 (by decide) (by decide) (by decide)) ak|exact L1.of_eq (congrArg FD.p1 (Nn (by omega))) ak),(by first|exact L1.of_eq hL.1 am|exact L1.of_eq (hL.2 2 (by decide) (by decide) (by decide)) am|exact L1.of_eq (congrArg FD.p2 (Nn (by omega))) am),az,aN,aO,aP,aY,aZ,a8,a9,ba,aQ,aF,aG,bb,bc,bd,be,bf,bg,aR,aH,bh,bi,bj,bl,bm,bn,aS,bo⟩
 ·replace bD:=of_decide_eq_false bD
  refine Mf (Lr (Lr ?_))
  have jk:4=i:=by omega
  subst jk
  refine Me (KE (KH (KF (KG (.agg #[iv ((MS f).W),iv ((MS f).H),af,ah,ai]) rfl rfl (KU KZ rfl aw az rr) (Lh (us:=[iv ((MS f).W),iv ((MS f).H),af,ah,ai]) KZ rfl rfl rfl aL rfl aX rfl (KX rfl (KX rfl (KX aj.one (KX ak.one (KX am.one MC))))) fun jI jl cd=>?_)))))
  have jm:=aj.all cd aQ
  have jn:=ak.all cd aR
  have jo:=am.all cd aS
  refine KL ?_
  refine KE (La ?_)
  exact O2 (vs:=[iv ((MS f).W),iv ((MS f).H),af,ah,ai]) KZ aV rfl rfl aL jl ⟨af,ab,ah,ac,ai,ae,(by rw[show Qn f p x y b=ME f p x y b 16 from rfl,(RX f p x y b 16).1,(RX f p x y b 16).2.1]),(aW.trans cd (KP.ok (S:=fun _=>False) (KP.new cC ek) K3)),⟨jm,aN⟩,⟨jn,aO⟩,⟨jo,aP⟩,aF,aG,aH⟩
end Go.Proofs.YtknjpdcpmpfklaaGreatDoor
set_option maxRecDepth 100000
namespace Go.Proofs.YtknjpdcpmpfklaaGreatDoor
open Go.RowKit
section
variable {N:Nat} {Q:(Exit->(Nat->Value)->World->Prop)} {F:Nat->Value} {w:World} {P:Program}
def azv(N:Nat)(P:Program)(R:World->World->Prop)(D:List (Option Tmp))(G:Nat->Value->World->Prop)(F0:Nat->Value)(w0:World)(i:Nat)(o:Oper):Prop :=
 ∀ (F:Nat->Value) (w:World),R w0 w->(∀ t,Nat.blt t N=true->some t∉D->F t=F0 t)->OB D G F w o.after.toList->o.guard=none/\Lg P (ev F) o w (fun v w'=>G i v w'/\R w w')
def SJ(N:Nat)(P:Program)(R:World->World->Prop)(D:List (Option Tmp))(G:Nat->Value->World->Prop)(F0:Nat->Value)(w0:World):Nat->List Oper->Prop
 | _,[]=>True
 | i,o::r=>azv N P R D G F0 w0 i o/\SJ N P R D G F0 w0 (i+1) r
theorem azv.step{R:World->World->Prop}{D:List (Option Tmp)}{G:Nat->Value->World->Prop}{w0:World}{i:Nat}{o:Oper}{a0:Act}(ha:Fr N F a0)(h:azv N P R D G F w0 i o):aBy P R D G a0 w0 i o:=by
 intro a w hR hout hD
 have h1:=h (fun t=>a.tmps.getD t undef) w hR (fun t hb ht=>by rw[← ha.at' t hb];exact hout t ht) hD.toF
 rw[← Sf a] at h1
 unfold PU
 rw[h1.1]
 exact⟨fun _=>h1.2,fun e=>by cases e⟩
theorem SJ.steps{R:World->World->Prop}{D:List (Option Tmp)}{G:Nat->Value->World->Prop}{w0:World}{a0:Act}(ha:Fr N F a0):∀ {os:List Oper} {i:Nat},SJ N P R D G F w0 i os->Steps P R D G a0 w0 i os:=by
 intro os
 induction os with
 | nil=>intro i _;exact trivial
 | cons o r ih=>intro i h;exact⟨h.1.step ha,ih h.2⟩
theorem Yj{R:World->World->Prop}{D:List (Option Tmp)}{G:Nat->Value->World->Prop}{F0:Nat->Value}{w0:World}{i:Nat}:SJ N P R D G F0 w0 i []:=trivial
theorem NB{R:World->World->Prop}{D:List (Option Tmp)}{G:Nat->Value->World->Prop}{F0:Nat->Value}{w0:World}{i:Nat}{o:Oper}{r:List Oper}(hg:o.guard=none)
  (h:∀ (F:Nat->Value) (w:World),R w0 w->(∀ t,Nat.blt t N=true->some t∉D->F t=F0 t)->OB D G F w o.after.toList->Lg P (ev F) o w (fun v w'=>G i v w'/\R w w')) (k:SJ N P R D G F0 w0 (i+1) r):SJ N P R D G F0 w0 i (o::r):=⟨fun F w h1 h2 h3=>⟨hg,h F w h1 h2 h3⟩,k⟩
theorem aAb{id:Nat}{ops:Array Oper}(n:Nat)(R:World->World->Prop)(D:List (Option Tmp))(G:Nat->Value->World->Prop)(hm:P.follows .mixedOrders=true)(hta:SI ops.toList n=true)(hpl:plain N 0 D (ops.toList.take n)=true)
  (hrf:∀ a,R a a) (htr:∀ a b c,R a b->R b c->R a c) (hdr:R w w.drew) (hst:∀ i v w w',G i v w->R w w'->G i v w') (hsteps:SJ N P R D G F w 0 (ops.toList.take n))
  (hend:∀ (v:Nat->Value) (F':Nat->Value) (w':World),R w w'->(∀ i,i<n->G i (v i) w')->(∀ t,F' t=Q5 v 0 D F t)->wl none P N ops Q (ops.toList.drop n) F' w'):wq none P N (.region id ops true) Q F w:=by
 intro a ha
 refine wpIn_wide.2 ?_
 refine wp_region_any hm ?_
 have T:=SH hta
 have hno:∀ j,(Array.replicate ops.size false).getD j false=false:=by
  intro j
  by_cases h:j<ops.size <;> simp[Array.getD,h]
 refine Vl n T R D G (by rw[ha.size];exact hpl) hrf htr hst (hsteps.steps ha) (fun v w' hk hG=>hend v _ w' hk hG (fun _=>rfl) _ (Pg v D 0 F a ha (OH hpl))) ops.size _ (fun _=>undef) a _ ⟨rfl,by simp,rfl,hdr,fun _ _=>rfl,fun j _ hj=>?_,fun j hj=>?_⟩ ?_ ?_ ?_
 ·rw[hno] at hj;cases hj
 ·rw[hno] at hj;cases hj
 ·intro k o _ hl;rw[hno] at hl;cases hl
 ·intro j _;exact hno j
 ·exact Nat.le_trans (List.countP_le_length) (by simp)
end
def PG(L:List Nat)(n k:Nat):List Nat:=L.take (0+k)++((((L.drop 0).take (n-0)).drop 0).take (k-0) |>.take (n-0-k) |> (· ++ L.drop (0+k+min (n-0-k) (((((L.drop 0).take (n-0)).drop 0).take (k-0)).length))))
theorem W6{L:List Nat}{n k:Nat}(hL:L.length=n)(hk:k<=n):PG L n k=L.take k++(L.take (min (n-k) k)++L.drop (k+min (n-k) k)):=by
 unfold PG
 have e:((((L.drop 0).take (n-0)).drop 0).take (k-0))=L.take k:=by simp;rw[← hL,List.take_length]
 rw[e]
 simp only[Nat.zero_add,Nat.sub_zero,List.take_take,List.length_take]
 rw[show min (n-k) (min k L.length)=min (n-k) k by omega]
theorem RL{L:List Nat}{n k:Nat}(hL:L.length=n)(hk:k<=n):(PG L n k).length=n:=by rw[W6 hL hk];simp;omega
theorem Wd{L:List Nat}{n k s:Nat}(hL:L.length=n)(hk:k<=n)(h:L.take k=List.replicate k s):(PG L n k).take (k+min (n-k) k)=List.replicate (k+min (n-k) k) s:=by
 rw[W6 hL hk,h,show L.take (min (n-k) k)=(L.take k).take (min (n-k) k) by rw[List.take_take];congr 1;omega,h,List.take_replicate,show min (min (n-k) k) k=min (n-k) k by omega,← List.append_assoc,List.replicate_append_replicate]
 rw[List.take_append_of_le_length (by simp),List.take_of_length_le (by simp)]
theorem Yo{L:List Nat}{n k s:Nat}(hL:L.length=n)(hk:k<=n)(h:L.take k=List.replicate k s):PG (PG L n k) n k=PG L n k:=by
 have h2:=RL hL hk
 have h3:=Wd hL hk h
 rw[W6 h2 hk]
 have e1:(PG L n k).take k=List.replicate k s:=by
  have:(PG L n k).take k=((PG L n k).take (k+min (n-k) k)).take k:=by rw[List.take_take];congr 1;omega
  rw[this,h3,List.take_replicate];congr 1;omega
 have e2:(PG L n k).take (min (n-k) k)=List.replicate (min (n-k) k) s:=by
  have:(PG L n k).take (min (n-k) k)=((PG L n k).take (k+min (n-k) k)).take (min (n-k) k):=by rw[List.take_take];congr 1;omega
  rw[this,h3,List.take_replicate];congr 1;omega
 rw[e1,e2,← List.append_assoc,List.replicate_append_replicate,← h3,List.take_append_drop]
theorem Wr{J l:List Nat}{n s:Nat}(hJ:J.length=n)(hn:1<=n)(hl:l.length=1)(hs:l.getD 0 0=s):(J.take 0++(l.take (n-0)++J.drop (0+min (n-0) l.length))).length=n/\(J.take 0++(l.take (n-0)++J.drop (0+min (n-0) l.length))).take 1=List.replicate 1 s:=by
 obtain⟨z,rfl⟩:∃ z,l=[z]:=by
  match l,hl with
  | [z],_=>exact⟨z,rfl⟩
 obtain rfl:z=s:=by simpa using hs
 obtain⟨m,rfl⟩:∃ m,n=m+1:=⟨n-1,by omega⟩
 constructor
 ·simp;omega
 ·simp
theorem aAo{L:List Nat}{n k s:Nat}(hk:k=n)(h:L.take k=List.replicate k s):List.replicate n s=((L.drop 0).take (n-0)):=by
 subst hk;rw[List.drop_zero,Nat.sub_zero,h]
def PF(T:Nat->Prop)(v:Value)(L L':List Nat)(a b:World):Prop:=KM T a b/\(L1 a T v L'->L1 b T v L')/\(L1 a T v L->L1 b T v L\/L1 b T v L')
theorem PF.refl{T:Nat->Prop}{v:Value}{L L':List Nat}(a:World):PF T v L L' a a:=⟨KM.refl _ _,id,.inl⟩
theorem PF.trans{T:Nat->Prop}{v:Value}{L L':List Nat}{a b c:World}(h:PF T v L L' a b)(k:PF T v L L' b c):PF T v L L' a c :=
 ⟨h.1.trans k.1 (fun _ _ x=>x),fun x=>k.2.1 (h.2.1 x),fun x=>(h.2.2 x).elim k.2.2 (fun y=>.inr (k.2.1 y))⟩
theorem PF.drew{T:Nat->Prop}{v:Value}{L L':List Nat}(a:World):PF T v L L' a a.drew :=
 ⟨(KM.refl _ _).drew,fun h=>h.all (S:=fun _=>False) (KM.refl _ _).drew KJ.none,fun h=>.inl (h.all (S:=fun _=>False) (KM.refl _ _).drew KJ.none)⟩
def YR(T:Nat->Prop)(v:Value)(L':List Nat)(vs:List Value)(i:Nat)(x:Value)(w:World):Prop:=x=vs.getD i undef/\(i=7->L1 w T v L')
theorem YR.stays{T:Nat->Prop}{v:Value}{L L':List Nat}{vs:List Value}(i:Nat)(x:Value)(w w':World)(h:YR T v L' vs i x w)(k:PF T v L L' w w'):YR T v L' vs i x w':=⟨h.1,fun e=>k.2.1 (h.2 e)⟩
theorem L7.of_eq{w:World}{T:Nat->Prop}{v:Value}{l m:List Nat}(e:m=l)(h:L7 w T v l):L7 w T v m:=e ▸ h
theorem azK{ρ:Operand->Value}{o:Oper}{w w0:World}{T:Nat->Prop}{v:Value}{L:List Nat}{n k s:Nat}{c:Call}{x y:Operand}{vs:List Value}(ho:o.op = .call c)(hc:c={ callee:=.builtin .copy,args:=#[x,y],argTypes:=#[26,26] })(hx:ρ x=Ms (Ms v 0 n n) k (n-0) (n-0))(hy:ρ y=Ms (Ms v 0 n n) 0 k (n-0))
  (hL:L.length=n) (hk:k<=n) (ht:L.take k=List.replicate k s) (h0:L1 w0 T v L) (hR:PF T v L (PG L n k) w0 w) (hvs:vs.getD 7 undef = .int .i64 ((min (n-k) k:Nat):Int)) :
  Lg Tryz.prog ρ o w (fun r w'=>YR T v (PG L n k) vs 7 r w'/\PF T v L (PG L n k) w w'):=by
 have main:∀ M:List Nat,L1 w T v M->M.length=n->PG M n k=PG L n k->Lg Tryz.prog ρ o w (fun r w'=>YR T v (PG L n k) vs 7 r w'/\PF T v L (PG L n k) w w'):=by
  intro M hM hMl he
  have hb:L7 w T (Ms (Ms v 0 n n) 0 k (n-0)) ((((M.drop 0).take (n-0)).drop 0).take (k-0)):=by
   have h1:L7 w T (Ms v 0 n n) ((M.drop 0).take (n-0)):=hM.byt.sub (by omega) (by omega) (by omega) (by have:=hM.byt.cap;omega)
   have hcap:aAw (Ms v 0 n n)=n-0:=by
    obtain⟨a,e⟩:=UO hM.byt 0 n n
    rw[e];rfl
   exact h1.sub (by omega) (by omega) (by simp;omega) (by rw[hcap];omega)
  obtain⟨w',hr,h1,h2⟩:=Wp (off:=0+k) (n:=n-0-k) ho hc (by rw[hx];exact Wm hM.byt (Nat.le_refl _) (Nat.le_refl _) rfl) hy hM hb (by omega)
  have h1':L1 w' T v (PG L n k):=by rw[← he];exact h1
  refine MN hr ⟨⟨?_,fun _=>h1'⟩,h2,fun _=>h1',fun _=>.inr h1'⟩
  rw[hvs]
  congr 2
  simp;omega
 rcases hR.2.2 h0 with h|h
 ·exact main L h hL rfl
 ·exact main _ h (RL hL hk) (Yo hL hk ht)
theorem aAr{ρ:Operand->Value}{o:Oper}{w w0:World}{R:Value->World->Prop}{T:Nat->Prop}{v:Value}{L:List Nat}{n k:Nat}{x lo:Operand}(ho:o.op = .slice 26 x (some lo) none none)(hx:ρ x=Ms v 0 n n)(hl:ρ lo = .int .i64 (k:Int))(hk:k<=n)(h0:L1 w0 T v L)(hR:PF T v L (PG L n k) w0 w)(h:R (Ms (Ms v 0 n n) k (n-0) (n-0)) w):Lg Tryz.prog ρ o w R:=by
 rcases hR.2.2 h0 with hb|hb
 ·exact WM k ho hx hl rfl hb.byt (by omega) h
 ·exact WM k ho hx hl rfl hb.byt (by omega) h
theorem azj{ρ:Operand->Value}{o:Oper}{w w0:World}{R:Value->World->Prop}{T:Nat->Prop}{v:Value}{L:List Nat}{n k:Nat}{x hi:Operand}(ho:o.op = .slice 26 x none (some hi) none)(hx:ρ x=Ms v 0 n n)(hl:ρ hi = .int .i64 (k:Int))(hk:k<=n)(h0:L1 w0 T v L)(hR:PF T v L (PG L n k) w0 w)(h:R (Ms (Ms v 0 n n) 0 k (n-0)) w):Lg Tryz.prog ρ o w R:=by
 rcases hR.2.2 h0 with hb|hb
 ·exact Zi k ho hx hl rfl hb.byt (by omega) h
 ·exact Zi k ho hx hl rfl hb.byt (by omega) h
theorem TJ{n:Nat}(h:n<18446744073709551616):IntKind.u64.wrap ((n:Nat):Int)=((n:Nat):Int):=by
 unfold IntKind.wrap;simp[IntKind.signed,IntKind.bits];omega
theorem Zy{a b:Nat}(h:a*b<18446744073709551616):IntKind.u64.wrap ((a:Int)*(b:Int))=((a*b:Nat):Int):=by rw[← Int.natCast_mul];exact TJ h
theorem azY{n:Nat}(h:n<4294967296):bits .and .u64 ((n:Nat):Int) 4294967295=((n:Nat):Int):=by
 have e:=u64_and_nat n 4294967295 (by omega) (by omega)
 rw[show ((4294967295:Nat):Int)=4294967295 from rfl] at e
 rw[e,show (4294967295:Nat)=2 ^ 32-1 from rfl,Nat.and_two_pow_sub_one_eq_mod,Nat.mod_eq_of_lt (by simpa using h)]
theorem XF{n:Nat}(h:n<4294967296):((n:Nat):Int)/2 ^ 32=((0:Nat):Int):=by
 have:(2:Int) ^ 32=4294967296:=by decide
 rw[this];omega
end Go.Proofs.YtknjpdcpmpfklaaGreatDoor
set_option maxRecDepth 100000
namespace Go.Proofs.YtknjpdcpmpfklaaGreatDoor
open Go.RowKit
theorem azJ(x y:Nat)(w0:World)(hx:x<4294967296)(hy:y<4294967296)(hxy:x*y<4294967296) :
  Calls Tryz.prog 125 #[.int .u64 (((x:Nat):Int)),.int .u64 (((y:Nat):Int))] w0 fun e w'=>e = .returned (.tuple #[.int .u64 (((0:Nat):Int)),.int .u64 (((x*y:Nat):Int))])/\KM (fun _=>False) w0 w':=by
 refine Lp (args:=[.int .u64 ((x:Nat):Int),.int .u64 ((y:Nat):Int)]) 51 Tryz.func125 rfl rfl (Nat.le_of_ble_eq_true rfl) ?_
 refine KH (KF (KG (.int .u64 0) rfl rfl (KT rfl rfl rr) (KG (.int .u64 0) rfl rfl (KT rfl rfl rr) (KL ?_))))
 have s3:=K4 (.int .u64 ((x:Nat):Int))
 have s4:=K4 (.int .u64 ((y:Nat):Int))
 have s5:=K4 (undef)
 refine KE (KH (KF (KS rfl rfl rfl s3 (KG (.int .u64 ((x:Nat):Int)) rfl rfl (VN rfl rfl rfl (azY hx) rr) (KG (.int .u64 ((x:Nat):Int)) rfl rfl (KT rfl rfl rr) (KL ?_))))))
 have ac:=K4 (.int .u64 ((x:Nat):Int))
 refine KE (KH (KF (KS rfl rfl rfl s3 (KG (.int .u64 ((0:Nat):Int)) rfl rfl (RI 32 rfl rfl rfl (by decide) (XF hx) rr) (KG (.int .u64 ((0:Nat):Int)) rfl rfl (KT rfl rfl rr) (KL ?_))))))
 have ae:=K4 (.int .u64 ((0:Nat):Int))
 refine KE (KH (KF (KS rfl rfl rfl s4 (KG (.int .u64 ((y:Nat):Int)) rfl rfl (VN rfl rfl rfl (azY hy) rr) (KG (.int .u64 ((y:Nat):Int)) rfl rfl (KT rfl rfl rr) (KL ?_))))))
 have af:=K4 (.int .u64 ((y:Nat):Int))
 refine KE (KH (KF (KS rfl rfl rfl s4 (KG (.int .u64 ((0:Nat):Int)) rfl rfl (RI 32 rfl rfl rfl (by decide) (XF hy) rr) (KG (.int .u64 ((0:Nat):Int)) rfl rfl (KT rfl rfl rr) (KL ?_))))))
 have ah:=K4 (.int .u64 ((0:Nat):Int))
 refine KE (KH (KF (KS rfl rfl rfl ac (KS rfl rfl rfl af (KG (.int .u64 ((x*y:Nat):Int)) rfl rfl (ND rfl rfl rfl (Zy (by omega)) rr) (KG (.int .u64 ((x*y:Nat):Int)) rfl rfl (KT rfl rfl rr) (KL ?_)))))))
 have ak:=K4 (.int .u64 ((x*y:Nat):Int))
 refine KE (KH (KF (KS rfl rfl rfl ae (KS rfl rfl rfl af (KG (.int .u64 ((0:Nat):Int)) rfl rfl (ND rfl rfl rfl (by rw[show ((0:Nat):Int)*((y:Nat):Int)=((0:Nat):Int) by simp];rfl) rr) (KS rfl rfl rfl ak (KG (.int .u64 ((0:Nat):Int)) rfl rfl (RI 32 rfl rfl rfl (by decide) (XF hxy) rr) (KG (.int .u64 ((0:Nat):Int)) rfl rfl (LN rfl rfl rfl rfl rr) (KG (.int .u64 ((0:Nat):Int)) rfl rfl (KT rfl rfl rr) (KL ?_))))))))))
 have ai:=K4 (.int .u64 ((0:Nat):Int))
 refine KE (KH (KF (KS rfl rfl rfl ai (KG (.int .u64 ((0:Nat):Int)) rfl rfl (VN rfl rfl rfl (azY (by decide)) rr) (KG (.int .u64 ((0:Nat):Int)) rfl rfl (KT rfl rfl rr) (KL ?_))))))
 have am:=K4 (.int .u64 ((0:Nat):Int))
 refine KE (KH (KF (KS rfl rfl rfl ai (KG (.int .u64 ((0:Nat):Int)) rfl rfl (RI 32 rfl rfl rfl (by decide) (XF (by decide)) rr) (KG (.int .u64 ((0:Nat):Int)) rfl rfl (KT rfl rfl rr) (KL ?_))))))
 have an:=K4 (.int .u64 ((0:Nat):Int))
 refine KE (KH (KF (KS rfl rfl rfl am (KS rfl rfl rfl ac (KS rfl rfl rfl ah (KG (.int .u64 ((0:Nat):Int)) rfl rfl (ND rfl rfl rfl (by rw[show ((x:Nat):Int)*((0:Nat):Int)=((0:Nat):Int) by simp];rfl) rr) (KG (.int .u64 ((0:Nat):Int)) rfl rfl (LN rfl rfl rfl rfl rr) (KG (.int .u64 ((0:Nat):Int)) rfl rfl (KT rfl rfl rr) (KL ?_)))))))))
 have ao:=K4 (.int .u64 ((0:Nat):Int))
 refine KE (KH (KF (KS rfl rfl rfl ae (KS rfl rfl rfl ah (KG (.int .u64 ((0:Nat):Int)) rfl rfl (ND rfl rfl rfl rfl rr) (KS rfl rfl rfl an (KG (.int .u64 ((0:Nat):Int)) rfl rfl (LN rfl rfl rfl rfl rr) (KS rfl rfl rfl ao (KG (.int .u64 ((0:Nat):Int)) rfl rfl (RI 32 rfl rfl rfl (by decide) (XF (by decide)) rr) (KG (.int .u64 ((0:Nat):Int)) rfl rfl (LN rfl rfl rfl rfl rr) (KG (.int .u64 ((0:Nat):Int)) rfl rfl (KT rfl rfl rr) ?_)))))))))))
 refine KL ?_
 have ap:=K4 (.int .u64 ((0:Nat):Int))
 refine KE (KH (KF (KS rfl rfl rfl s3 (KS rfl rfl rfl s4 (KG (.int .u64 ((x*y:Nat):Int)) rfl rfl (ND rfl rfl rfl (Zy (by omega)) rr) (KG (.int .u64 ((x*y:Nat):Int)) rfl rfl (KT rfl rfl rr) (KL ?_)))))))
 have aq:=K4 (.int .u64 ((x*y:Nat):Int))
 refine KE (La ?_)
 exact L4 s5 rfl (Lu (v:=.int .u64 ((0:Nat):Int)) rfl ap) (Lu (v:=.int .u64 ((x*y:Nat):Int)) rfl aq) ⟨rfl,(KM.refl (fun _=>False) w0)⟩
theorem aCQ(x y:Nat)(w0:World)(hx:x<4294967296)(hy:y<4294967296)(hxy:x*y<4294967296) :
  Calls Tryz.prog 92 #[.int .u64 (((x:Nat):Int)),.int .u64 (((y:Nat):Int))] w0 fun e w'=>e = .returned (.tuple #[.int .u64 (((0:Nat):Int)),.int .u64 (((x*y:Nat):Int))])/\KM (fun _=>False) w0 w':=by
 refine Lp (args:=[.int .u64 ((x:Nat):Int),.int .u64 ((y:Nat):Int)]) 30 Tryz.func92 rfl rfl (Nat.le_of_ble_eq_true rfl) ?_
 refine KH (KF (KG (.int .u64 0) rfl rfl (KT rfl rfl rr) (KG (.int .u64 0) rfl rfl (KT rfl rfl rr) (KL ?_))))
 have s3:=K4 (.int .u64 ((x:Nat):Int))
 have s4:=K4 (.int .u64 ((y:Nat):Int))
 have s5:=K4 (undef)
 refine KE (KH ?_)
 refine K5 (t:=false) rfl (fun e=>by cases e) (fun _=>?_)
 refine Lf (KE (KH (KF (KS rfl rfl rfl s3 (KS rfl rfl rfl s4 (LV rfl rfl rfl rfl rfl (fun _ _=>by kernel_rfl) (Lj rfl (Lj rfl LP)) (azJ x y  _ hx hy hxy  ) fun w6 k7=>?_))))))
 refine KG (.tuple #[.int .u64 ((0:Nat):Int),.int .u64 ((x*y:Nat):Int)]) rfl rfl (KN rfl rfl rr) (KG (.int .u64 ((0:Nat):Int)) rfl rfl (LI rfl rfl rfl rr) (KG (.int .u64 ((x*y:Nat):Int)) rfl rfl (LI rfl rfl rfl rr) (KG (.int .u64 ((0:Nat):Int)) rfl rfl (KT rfl rfl rr) (KG (.int .u64 ((x*y:Nat):Int)) rfl rfl (KT rfl rfl rr) (KL ?_)))))
 have af:=K4 (.int .u64 ((0:Nat):Int))
 have ah:=K4 (.int .u64 ((x*y:Nat):Int))
 refine KE (KH (KF (KS rfl rfl rfl af (KS rfl rfl rfl ah (KG (.int .u64 ((0:Nat):Int)) rfl rfl (KT rfl rfl rr) (KG (.int .u64 ((x*y:Nat):Int)) rfl rfl (KT rfl rfl rr) (KL ?_)))))))
 have ai:=K4 (.int .u64 ((0:Nat):Int))
 have aj:=K4 (.int .u64 ((x*y:Nat):Int))
 refine KE (La ?_)
 exact L4 s5 rfl (Lu (v:=.int .u64 ((0:Nat):Int)) rfl ai) (Lu (v:=.int .u64 ((x*y:Nat):Int)) rfl aj) ⟨rfl,((KM.refl (fun _=>False) w0).tr k7)⟩
theorem ZK(v:Value)(l:List Nat)(s n:Nat)(T_b:Nat->Prop)(w0:World)(hl:l.length=1)(hs:l.getD 0 0=s)(hn:1<=n)(hn2:n<=64)(h_b:L7 w0 T_b v (l)) :
  Calls Tryz.prog 54 #[v,.int .i64 (((n:Nat):Int))] w0 fun e w'=>∃ (v1:Value) (T1:Nat->Prop),e = .returned (v1)/\KM (fun _=>False) w0 w'/\(L7 w' T1 v1 (List.replicate n s)/\KP w0 L8 T1):=by
 refine Lp (args:=[v,iv ((n:Nat):Int)]) 77 Tryz.func54 rfl rfl (Nat.le_of_ble_eq_true rfl) ?_
 have g_b:=KP.refl w0 T_b
 refine KH (KF (KG (.slice none 0 0) rfl rfl (KT rfl rfl rr) (KL ?_)))
 have s3:=K4 (v)
 have s4:=K4 (iv ((n:Nat):Int))
 have s5:=K4 (undef)
 refine KE (KH (KH (KF (KS rfl rfl rfl s4 (KG (.bool (decide (((n:Nat):Int)=0))) rfl rfl (LZ rfl rfl rfl rfl rr) (KL ?_))))))
 have aW:=K4 (.bool (decide (((n:Nat):Int)=0)))
 refine KE ?_
 refine K5 aW (fun af=>?_) (fun af=>?_)
 ·replace af:=of_decide_eq_true af
  refine KH ?_
  exfalso;omega
 ·replace af:=of_decide_eq_false af
  refine Lf (KE (KH (KH (KF (KS rfl rfl rfl s4 (KG (.bool (decide (((n:Nat):Int)<0))) rfl rfl (L2 rfl rfl rfl rfl rr) (KL ?_)))))))
  have aX:=K4 (.bool (decide (((n:Nat):Int)<0)))
  refine KE ?_
  refine K5 aX (fun ah=>?_) (fun ah=>?_)
  ·replace ah:=of_decide_eq_true ah
   exfalso;omega
  ·replace ah:=of_decide_eq_false ah
   refine Lf (KE (KH (KF (KS rfl rfl rfl s3 (KG (iv ((l.length:Nat):Int)) rfl rfl (M0 rfl rfl rfl h_b rr) (KG (.int .u64 ((l.length:Nat):Int)) rfl rfl (Qw rfl rfl Tryz.underlying3 Tryz.underlying101 (TJ (by omega)) rr) (KS rfl rfl rfl s4 (KG (.int .u64 ((n:Nat):Int)) rfl rfl (Qw rfl rfl Tryz.underlying3 Tryz.underlying101 (TJ (by omega)) rr) (LV rfl rfl rfl rfl rfl (fun _ _=>by kernel_rfl) (Lj rfl (Lj rfl LP)) (aCQ (l.length) n  _ (by omega) (by omega) (by rw[hl];omega)  ) fun bF aE=>?_)))))))))
   have aw:=h_b.all aE KJ.none
   have aF:=(KM.refl (fun _=>False) w0).tr aE
   refine KG (.tuple #[.int .u64 ((0:Nat):Int),.int .u64 (((l.length)*n:Nat):Int)]) rfl rfl (KN rfl rfl rr) (KG (.int .u64 ((0:Nat):Int)) rfl rfl (LI rfl rfl rfl rr) (KG (.int .u64 (((l.length)*n:Nat):Int)) rfl rfl (LI rfl rfl rfl rr) (KG (.int .u64 ((0:Nat):Int)) rfl rfl (KT rfl rfl rr) (KG (.int .u64 (((l.length)*n:Nat):Int)) rfl rfl (KT rfl rfl rr) (RV fun az ap=>?_)))))
   obtain⟨aG,aY⟩:=t2 ap 0 s3 77 s5
   have aZ:az 5 = .int .u64 ((0:Nat):Int):=(ap 5).trans rfl
   have a8:az 6 = .int .u64 (((l.length)*n:Nat):Int):=(ap 6).trans rfl
   clear ap
   refine KE (KH (KH ?_))
   have aH:az 6 = .int .u64 ((n:Nat):Int):=a8.trans (congrArg (Value.int .u64) (by rw[hl,Nat.one_mul]))
   refine KF (KS rfl rfl rfl aZ (KG (.bool false) rfl rfl (Mp rfl rfl rfl rfl rr) (KG (.bool false) rfl rfl (KN rfl rfl rr) (KO (.int .u64 ((n:Nat):Int)) 2 false 29 rfl rfl rfl rfl rfl (KN rfl aH rr) (KO (.bool (decide (9223372036854775807<((n:Nat):Int)))) 2 false 29 rfl rfl rfl rfl rfl (Mp rfl rfl rfl rfl rr) (KG (.bool (decide (9223372036854775807<((n:Nat):Int)))) rfl rfl (K6 rfl rfl rfl rr) (KL ?_)))))))
   have a9:=K4 (.bool (decide (9223372036854775807<((n:Nat):Int))))
   refine KE ?_
   refine K5 a9 (fun ai=>?_) (fun ai=>?_)
   ·replace ai:=of_decide_eq_true ai
    exfalso;omega
   ·replace ai:=of_decide_eq_false ai
    refine Lf (KE (KH (KF (KS rfl rfl rfl aH (KG (iv ((n:Nat):Int)) rfl rfl (Qw rfl rfl Tryz.underlying101 Tryz.underlying3 (Ma rfl (by omega)) rr) (KG (iv ((n:Nat):Int)) rfl rfl (KT rfl rfl rr) (KL ?_)))))))
    have aj:=K4 (iv ((n:Nat):Int))
    refine KE (KH (KH (KF (KS rfl rfl rfl aG (KG (iv ((l.length:Nat):Int)) rfl rfl (M0 rfl rfl rfl aw rr) (KG (.bool (decide (((l.length:Nat):Int)=0))) rfl rfl (LZ rfl rfl rfl rfl rr) (KL ?_)))))))
    have ba:=K4 (.bool (decide (((l.length:Nat):Int)=0)))
    refine KE ?_
    refine K5 ba (fun ak=>?_) (fun ak=>?_)
    ·replace ak:=of_decide_eq_true ak
     refine KH ?_
     exfalso;omega
    ·replace ak:=of_decide_eq_false ak
     refine Lf (KE (KH (KF (KS rfl rfl rfl aj (KG (iv ((n:Nat):Int)) rfl rfl (KT rfl rfl rr) (KL ?_))))))
     have aI:=K4 (iv ((n:Nat):Int))
     refine KE (KH (KH (KF (KS rfl rfl rfl aI (KG (.bool (decide (8192<((n:Nat):Int)))) rfl rfl (Mp rfl rfl rfl rfl rr) (KL ?_))))))
     have bb:=K4 (.bool (decide (8192<((n:Nat):Int))))
     refine KE ?_
     refine K5 bb (fun am=>?_) (fun am=>?_)
     ·replace am:=of_decide_eq_true am
      refine KH ?_
      exfalso;omega
     ·replace am:=of_decide_eq_false am
      refine Lf (KE (KH (KF (KS rfl rfl rfl aj (aCN (n:=n) rfl rfl rfl rfl rfl (by omega) (by omega) Tryz.func93 (by kernel_rfl) (by kernel_rfl) (by kernel_rfl) (by kernel_rfl) fun aa bH bc J70 aA hJ71 aq aJ=>?_)))))
      have aK:=KP.new aF aq
      have aL:=KJ.new aq aw.live
      have aM:=aw.all aJ KJ.none
      refine KS rfl rfl rfl aj (KS rfl rfl rfl aj (KG (Ms aa 0 n n) rfl rfl (aBL n n rfl rfl rfl rfl (by omega) (by omega) aA.byt (by omega) (by omega) rr) (KG (Ms aa 0 n n) rfl rfl (KT rfl rfl rr) (KL ?_))))
      have aN:=K4 (Ms aa 0 n n)
      refine KE (KH (KF (KS rfl rfl rfl aN (KS rfl rfl rfl aG (RT rfl rfl rfl rfl rfl (To aA.byt (by omega)) rfl aA aM (by omega) fun bI bd aO=>?_)))))
      have be:=aM.all aO aL.symm
      refine KG (iv ((min (n-0) l.length:Nat):Int)) rfl rfl (KT rfl rfl rr) (KL ?_)
      have bf:=K4 (iv ((min (n-0) l.length:Nat):Int))
      refine KE (KH (Lk (M1 (fun nn FF ww=>∃ (k:Nat),∃ (L:List Nat),∃ (ab:Nat->Prop),(1<=k/\k<=n)/\(L.length=n)/\(L.take k=List.replicate k s)/\nn=n-k/\FF 7=iv ((n:Nat):Int)/\FF 8=iv ((n:Nat):Int)/\FF 9=Ms aa 0 n n/\FF 77=undef/\FF 10=iv ((k:Nat):Int)/\KM (fun _=>False) w0 ww/\L7 ww T_b v l/\L1 ww ab aa L/\KP w0 L8 ab/\KJ ab T_b) (n-1) ⟨1,_,bc,by omega,(Wr (by assumption) hn hl hs).1,(Wr (by assumption) hn hl hs).2,rfl,aj,aI,aN,aY,bf.trans (congrArg (Value.int .i64) (by omega)),((aF.tr aJ).trans aO (KP.ok (S:=fun _=>False) aK K3)),be,bd,aK,aL⟩ ?_)))
      rintro bJ bK bL ⟨k,L,ab,i103,hLn,hT,hn102,aP,aQ,ar,aR,au,aS,bg,ac,aB,aT⟩
      refine KH (KH (KF (KS rfl rfl rfl au (KS rfl rfl rfl aP (KG (.bool (decide (((k:Nat):Int)<((n:Nat):Int)))) rfl rfl (L2 rfl rfl rfl rfl rr) (KL ?_))))))
      have bh:=K4 (.bool (decide (((k:Nat):Int)<((n:Nat):Int))))
      refine KE ?_
      refine K5 bh (fun an=>?_) (fun an=>?_)
      ·replace an:=of_decide_eq_true an
       refine Lf (KE (Lk (KH (KF (KS rfl rfl rfl au (KS rfl rfl rfl aQ (KG (iv ((k:Nat):Int)) rfl rfl (QL rfl rfl rfl (by omega) rr) (KG (iv ((k:Nat):Int)) rfl rfl (KT rfl rfl rr) (KL ?_)))))))))
       have bi:=K4 (iv ((k:Nat):Int))
       refine KE ?_
       refine aAb 9 (PF ab aa L (PG L n k)) [some 67,some 68,some 69,some 70,some 71,some 72,some 73,some 74,some 75] (YR ab aa (PG L n k) [iv (k:Int),Ms aa 0 n n,iv (k:Int),Ms (Ms aa 0 n n) k (n-0) (n-0),Ms aa 0 n n,iv (k:Int),Ms (Ms aa 0 n n) 0 k (n-0),iv ((min (n-k) k:Nat):Int),iv ((k+min (n-k) k:Nat):Int)]) (by kernel_rfl) (by kernel_rfl) (by kernel_rfl) PF.refl (fun _ _ _ h1 h2=>h1.trans h2) (PF.drew _) YR.stays ?_ ?_
       ·refine NB rfl (fun F_ w_ hR hout hD=>?_) ?_
        ·exact KN rfl ((hout 10 rfl (by decide)).trans au) ⟨⟨rfl,fun e=>by cases e⟩,PF.refl _⟩
        refine NB rfl (fun F_ w_ hR hout hD=>?_) ?_
        ·exact KN rfl ((hout 9 rfl (by decide)).trans ar) ⟨⟨rfl,fun e=>by cases e⟩,PF.refl _⟩
        refine NB rfl (fun F_ w_ hR hout hD=>?_) ?_
        ·exact KN rfl ((hout 10 rfl (by decide)).trans au) ⟨⟨rfl,fun e=>by cases e⟩,PF.refl _⟩
        refine NB rfl (fun F_ w_ hR hout hD=>?_) ?_
        ·have aq:F_ 68=Ms aa 0 n n:=(hD.get 0 rfl rfl rfl).1
         have bj:F_ 69=iv (k:Int):=(hD.get 1 rfl rfl rfl).1
         exact aAr rfl aq bj (by omega) ac hR ⟨⟨rfl,fun e=>by cases e⟩,PF.refl _⟩
        refine NB rfl (fun F_ w_ hR hout hD=>?_) ?_
        ·exact KN rfl ((hout 9 rfl (by decide)).trans ar) ⟨⟨rfl,fun e=>by cases e⟩,PF.refl _⟩
        refine NB rfl (fun F_ w_ hR hout hD=>?_) ?_
        ·exact KN rfl ((hout 11 rfl (by decide)).trans bi) ⟨⟨rfl,fun e=>by cases e⟩,PF.refl _⟩
        refine NB rfl (fun F_ w_ hR hout hD=>?_) ?_
        ·have bl:F_ 71=Ms aa 0 n n:=(hD.get 0 rfl rfl rfl).1
         have bm:F_ 72=iv (k:Int):=(hD.get 1 rfl rfl rfl).1
         exact azj rfl bl bm (by omega) ac hR ⟨⟨rfl,fun e=>by cases e⟩,PF.refl _⟩
        refine NB rfl (fun F_ w_ hR hout hD=>?_) ?_
        ·have bn:F_ 70=Ms (Ms aa 0 n n) k (n-0) (n-0):=(hD.get 0 rfl rfl rfl).1
         have bo:F_ 73=Ms (Ms aa 0 n n) 0 k (n-0):=(hD.get 1 rfl rfl rfl).1
         exact azK rfl rfl bn bo hLn (by omega) hT ac hR rfl
        refine NB rfl (fun F_ w_ hR hout hD=>?_) ?_
        ·have bp:F_ 67=iv (k:Int):=(hD.get 0 rfl rfl rfl).1
         have bq:F_ 74=iv ((min (n-k) k:Nat):Int):=(hD.get 1 rfl rfl rfl).1
         exact LN rfl bp bq (L5 (m:=k+min (n-k) k) (by omega) (by omega)) ⟨⟨rfl,fun e=>by cases e⟩,PF.refl _⟩
        exact Yj
       intro bM ao bN R133 aC ae
       have aU:=R133.1
       have bt:=(aC 7 (by decide)).2 rfl
       have bu:=bg.all aU aT.symm
       have bv:ao 7=iv ((n:Nat):Int):=(ae 7).trans aP
       have bz:ao 8=iv ((n:Nat):Int):=(ae 8).trans aQ
       have bA:ao 9=Ms aa 0 n n:=(ae 9).trans ar
       have bB:ao 77=undef:=(ae 77).trans aR
       have bC:ao 75=iv ((k+min (n-k) k:Nat):Int):=(ae 75).trans (aC 8 (by decide)).1
       clear R133 aC ae
       refine aBM rfl rfl rfl bC (KL ?_)
       have bD:=K4 (iv ((k+min (n-k) k:Nat):Int))
       refine LA ?_
       exact KE ⟨(n-(k+min (n-k) k)),by omega,k+min (n-k) k,_,ab,by omega,RL hLn (by omega),Wd hLn (by omega) hT,rfl,bv,bz,bA,bB,bD,(aS.trans aU (KP.ok (S:=fun _=>False) aB K3)),bu,bt,aB,aT⟩
      ·replace an:=of_decide_eq_false an
       refine Mf (Lr (Lr (Me (KE (KH (KF (KS rfl rfl rfl ar (KG (Ms aa 0 n n) rfl rfl (KT rfl rfl rr) (KL ?_)))))))))
       have bE:=K4 (Ms aa 0 n n)
       refine KE (La ?_)
       exact Lq (v:=Ms aa 0 n n) aR rfl rfl bE ⟨(Ms aa 0 n n),ab,rfl,aS,⟨(L7.of_eq (aAo (by omega) hT) ((ac.byt).sub (i:=0) (j:=n) (m:=n) (by omega) (by have hc_:=(ac.byt).cap;omega) (by omega) (by have hc_:=(ac.byt).cap;omega))),aB⟩⟩
end Go.Proofs.YtknjpdcpmpfklaaGreatDoor
set_option maxRecDepth 100000
namespace Go.Proofs.YtknjpdcpmpfklaaGreatDoor
open Go.RowKit
def My(A s m:Nat):List Nat:=List.replicate m s++List.replicate (A-m) 0
theorem OL{A s m:Nat}(h:m<=A):(My A s m).length=A:=by unfold My;simp;omega
theorem SP{A s pw:Nat}{l:List Nat}(h:l=List.replicate A 0):My A s (0*pw)=l:=by rw[h];unfold My;simp
theorem On{A s:Nat}{l:List Nat}(h:l=List.replicate A s):l=My A s A:=by rw[h];unfold My;simp
theorem TK{A s a pw y:Nat}(hp:pw<=a) :
  My A s ((y+1)*pw)=(My A s (y*pw)).take ((((y:Nat):Int))*(((pw:Nat):Int))).toNat++((List.replicate a s).take ((((((y:Nat):Int))*(((pw:Nat):Int)))+(((pw:Nat):Int))).toNat-((((y:Nat):Int))*(((pw:Nat):Int))).toNat)++(My A s (y*pw)).drop (((((y:Nat):Int))*(((pw:Nat):Int))).toNat+min ((((((y:Nat):Int))*(((pw:Nat):Int)))+(((pw:Nat):Int))).toNat-((((y:Nat):Int))*(((pw:Nat):Int))).toNat) (List.replicate a s).length)):=by
 have e1:((((y:Nat):Int))*(((pw:Nat):Int))).toNat=y*pw:=by rw[← Int.natCast_mul,Int.toNat_natCast]
 have e2:(((((y:Nat):Int))*(((pw:Nat):Int)))+(((pw:Nat):Int))).toNat=y*pw+pw:=by rw[← Int.natCast_mul,← Int.natCast_add,Int.toNat_natCast]
 rw[e1,e2,show y*pw+pw-y*pw=pw by omega,List.length_replicate,show min pw a=pw by omega,List.take_replicate,show min pw a=pw by omega,Nat.succ_mul]
 unfold My
 rw[List.take_append_of_le_length (by simp),List.take_of_length_le (by simp),List.drop_append]
 simp only[List.length_replicate,List.drop_replicate]
 rw[show y*pw-(y*pw+pw)=0 by omega,show y*pw+pw-y*pw=pw by omega,show A-y*pw-pw=A-(y*pw+pw) by omega,List.replicate_zero,List.nil_append,← List.append_assoc,List.replicate_append_replicate]
theorem MA{w h:Int}(s:Nat)(hsw:Mj w=true)(hsh:Mj h=true){a b:Nat}(ha:(a:Int)=w)(hb:(b:Int)=h):(LG w h s).p0=List.replicate (b*a) s/\(LG w h s).p1=List.replicate (b/2*(a/2)) s/\(LG w h s).p2=List.replicate (b/2*(a/2)) s:=by
 have h1:=(Mr _).1 hsw
 have h2:=(Mr _).1 hsh
 subst ha;subst hb
 rw[Q2 s hsw hsh]
 have e0:((a:Int)*(b:Int)).toNat=b*a:=by rw[← Int.natCast_mul,Int.toNat_natCast,Nat.mul_comm]
 have e1:((a:Int)*(b:Int)/4).toNat=b/2*(a/2):=by
  rw[← Wz h1.2.2 h2.2.2 (by omega) (by omega),OX (by omega),OX (by omega),show (a:Int)/2=((a/2:Nat):Int) by omega,show (b:Int)/2=((b/2:Nat):Int) by omega,← Int.natCast_mul,Int.toNat_natCast,Nat.mul_comm]
 exact⟨congrArg (List.replicate · s) e0,congrArg (List.replicate · s) e1,congrArg (List.replicate · s) e1⟩
theorem ZB{w h:Int}(hsw:Mj w=true)(hsh:Mj h=true){g:FD}(hW:g.W=w)(hH:g.H=h)(h0:g.p0.length=(LG w h 0).p0.length)(h1:g.p1.length=(LG w h 0).p1.length)(h2:g.p2.length=(LG w h 0).p2.length)(k:Nat)(hk:k<=2){a b:Nat}(ha:(a:Int)=w)(hb:(b:Int)=h):Lc g ((k:Nat):Int)=(((Qk a (a/2) k:Nat):Int),((Qk b (b/2) k:Nat):Int)):=by
 have hn:=YN 0 hsw hsh
 have hg:QO g:=aBU hn (by rw[hW,(Mk 0 hsw hsh).1]) (by rw[hH,(Mk 0 hsw hsh).2]) h0 h1 h2
 have s1:=(Mr _).1 hsw
 have s2:=(Mr _).1 hsh
 cases k with
 | zero=>show Lc g 0=_;rw[Um hg rfl,hW,hH,← ha,← hb];rfl
 | succ k =>
  rw[Ul hg (by omega) (by omega) (by omega),hW,hH,OX (by omega),OX (by omega)]
  simp only[Qk]
  congr 1 <;> omega
theorem VJ{w h:Int}(hsw:Mj w=true)(hsh:Mj h=true){g:FD}(hW:g.W=w)(hH:g.H=h)(h0:g.p0.length=(LG w h 0).p0.length)(h1:g.p1.length=(LG w h 0).p1.length)(h2:g.p2.length=(LG w h 0).p2.length)(k:Nat)(hk:k<=2){a b:Nat}(ha:(a:Int)=w)(hb:(b:Int)=h):(Lc g ((k:Nat):Int)).1=((Qk a (a/2) k:Nat):Int):=by rw[ZB hsw hsh hW hH h0 h1 h2 k hk ha hb]
theorem VC{w h:Int}(hsw:Mj w=true)(hsh:Mj h=true){g:FD}(hW:g.W=w)(hH:g.H=h)(h0:g.p0.length=(LG w h 0).p0.length)(h1:g.p1.length=(LG w h 0).p1.length)(h2:g.p2.length=(LG w h 0).p2.length)(k:Nat)(hk:k<=2){a b:Nat}(ha:(a:Int)=w)(hb:(b:Int)=h):(Lc g ((k:Nat):Int)).2=((Qk b (b/2) k:Nat):Int):=by rw[ZB hsw hsh hW hH h0 h1 h2 k hk ha hb]
theorem Vw{y pw ph:Nat}(h:y<ph)(hp:pw<=64)(hh:ph<=64):y*pw+pw<=ph*pw/\0<=((y:Nat):Int)*((pw:Nat):Int)/\((y:Nat):Int)*((pw:Nat):Int)<=4096/\((y:Nat):Int)*((pw:Nat):Int)+((pw:Nat):Int)<=((ph*pw:Nat):Int):=by
 have h1:(y+1)*pw<=ph*pw:=Nat.mul_le_mul_right _ h
 rw[Nat.succ_mul] at h1
 have h2:y*pw<=64*64:=Nat.mul_le_mul (by omega) hp
 rw[← Int.natCast_mul]
 omega
theorem aAP(w h:Int)(s:Nat)(w0:World)(hs:s<256) :
  Calls Tryz.prog 25 #[.int .i64 (w),.int .i64 (h),.int .u8 (((s:Nat):Int))] w0 fun e w'=>∃ (v1:Value) (T1:Nat->Prop) (v2:Value) (T2:Nat->Prop) (v3:Value) (T3:Nat->Prop),e = .returned (.tuple #[.agg #[.int .i64 ((LG w h s).W),.int .i64 ((LG w h s).H),v1,v2,v3],.int .i64 (R7 w h)])/\KM (fun _=>False) w0 w'/\(L1 w' T1 v1 ((LG w h s).p0)/\KP w0 L8 T1)/\(L1 w' T2 v2 ((LG w h s).p1)/\KP w0 L8 T2)/\(L1 w' T3 v3 ((LG w h s).p2)/\KP w0 L8 T3)/\KJ T1 T2/\KJ T1 T3/\KJ T2 T3:=by
 refine Lp (args:=[iv w,iv h,.int .u8 ((s:Nat):Int)]) 55 Tryz.func25 rfl rfl (Nat.le_of_ble_eq_true rfl) ?_
 have K0:=KM.refl (fun _=>False) w0
 refine KH (KF (LF (n:=5) (vs:=[iv 0,iv 0,.slice none 0 0,.slice none 0 0,.slice none 0 0]) rfl rfl rfl (by kernel_rfl) fun p1 w2 B4 g5 k3=>?_))
 have aZ:=KP.new K0 g5
 have K7:=K0.tr k3
 refine KG (iv 0) rfl rfl (KT rfl rfl rr) (KL ?_)
 have aw:=K4 (iv w)
 have a9:=K4 (iv h)
 have dP:=K4 (.int .u8 ((s:Nat):Int))
 have ba:=K4 (undef)
 have az:=K4 (pt p1 0)
 refine KE (KH (KH ?_))
 rcases Bool.eq_false_or_eq_true (Mj w) with aE|aE
 ·skip
  rcases Bool.eq_false_or_eq_true (Mj h) with bb|bb
  ·skip
   refine KF (KS rfl rfl rfl aw (Lw (R:=fun v_ w_=>v_ = .bool true/\KM (fun _=>False) w2 w_) rfl rfl (LE rfl rfl rfl (fun _ _=>by kernel_rfl) (K2 _) (Lj rfl LP) (Pp w  _   ) (fun e_ w_ h_=>⟨_,h_.1,(congrArg Value.bool aE),h_.2⟩)) ?_))
   rintro _ dQ ⟨rfl,bN⟩
   have dR:=B4.all bN id
   refine KG (.bool false) rfl rfl (LT rfl rfl rfl rr) (KG (.bool false) rfl rfl (KN rfl rfl rr) (KO (iv h) 3 false 17 rfl rfl rfl rfl rfl (KN rfl a9 rr) (Lz (R:=fun v_ w_=>v_ = .bool true/\KM (fun _=>False) dQ w_) 3 false 17 rfl rfl rfl rfl rfl (LE rfl rfl rfl (fun _ _=>by kernel_rfl) (K2 _) (Lj rfl LP) (Pp h  _   ) (fun e_ w_ h_=>⟨_,h_.1,(congrArg Value.bool bb),h_.2⟩)) ?_)))
   rintro _ aF ⟨rfl,bO⟩
   have aG:=dR.all bO id
   have aH:=(K7.tr bN).tr bO
   refine KO (.bool false) 3 false 17 rfl rfl rfl rfl rfl (LT rfl rfl rfl rr) (KG (.bool false) rfl rfl (K6 rfl rfl rfl rr) (KL ?_))
   have dS:=K4 (.bool false)
   refine KE ?_
   refine K5 (t:=false) dS (fun e=>by cases e) (fun _=>?_)
   refine Lf (KE (KH ?_))
   have hsw:Mj w=true:=by assumption
   have hsh:Mj h=true:=by assumption
   have hws:=(Mr _).1 hsw
   have hhs:=(Mr _).1 hsh
   obtain⟨a,ha⟩:∃ n:Nat,(n:Int)=w:=⟨w.toNat,by omega⟩
   obtain⟨b,hb⟩:∃ n:Nat,(n:Int)=h:=⟨h.toNat,by omega⟩
   refine KF (KS rfl rfl rfl aw (KS rfl rfl rfl a9 (Lw (R:=fun v_ w_=>∃ (aa:Value) (ap:Nat->Prop) (ab:Value) (an:Nat->Prop) (ac:Value) (aj:Nat->Prop),.agg #[iv ((LG w h 0).W),iv ((LG w h 0).H),aa,ab,ac]=v_/\KM (fun _=>False) aF w_/\(L1 w_ ap aa ((LG w h 0).p0)/\KP aF L8 ap)/\(L1 w_ an ab ((LG w h 0).p1)/\KP aF L8 an)/\(L1 w_ aj ac ((LG w h 0).p2)/\KP aF L8 aj)/\KJ ap an/\KJ ap aj/\KJ an aj) rfl rfl (LE rfl rfl rfl (fun _ _=>by kernel_rfl) (K2 _) (Lj rfl (Lj rfl LP)) (XG w h  _ hsw hsh  ) (fun e_ w_ h_=>by obtain⟨v33_,T38_,v34_,T39_,v35_,T40_,he_,hr_⟩:=h_;exact⟨_,he_,v33_,T38_,v34_,T39_,v35_,T40_,rfl,hr_⟩)) ?_)))
   rintro _ ij ⟨aa,ap,ab,an,ac,aj,rfl,bP,⟨bQ,bR⟩,⟨bS,bT⟩,⟨bU,bV⟩,dT,dU,dV⟩
   have bW:=aG.all bP id
   have bX:=aH.tr bP
   have dW:=KJ.new bR (LR aG.lt)
   have dX:=KJ.new bT (LR aG.lt)
   have dY:=KJ.new bV (LR aG.lt)
   refine LF (n:=5) (vs:=[iv 0,iv 0,.slice none 0 0,.slice none 0 0,.slice none 0 0]) rfl rfl rfl (by kernel_rfl) fun ae ik dZ bY bZ=>?_
   obtain⟨d8,b7,b8,b9⟩:=V2 bY bW bQ bS bU
   obtain⟨d9,cd,ce,cf⟩:=OS bZ bW bQ bS bU
   refine Lh (us:=[iv ((LG w h 0).W),iv ((LG w h 0).H),aa,ab,ac]) KZ rfl rfl rfl rfl rfl dZ rfl (KX rfl (KX rfl (KX cd.one (KX ce.one (KX cf.one MC))))) fun io eb aA=>?_
   have ee:=d9.all aA (d8.symm p1 rfl)
   have cg:=cd.all aA b7.symm
   have ci:=ce.all aA b8.symm
   have cj:=cf.all aA b9.symm
   refine RV fun cm bc=>?_
   obtain⟨eh,ei,ek,en⟩:=t4 bc 0 aw 2 dP 55 ba 6 az
   have cn:cm 8=pt ae 0:=(bc 8).trans rfl
   clear bc
   refine KE (KH ?_)
   have eo:cm 0=iv ((a:Nat):Int):=eh.trans (congrArg (Value.int .i64) (ha.symm))
   refine KF (KS rfl rfl rfl ei (VG (n:=s) rfl rfl rfl rfl (by omega) (by omega) fun aI co aq cq ep cr=>?_))
   obtain⟨er,et,eu⟩:=SW ep cg ci cj
   obtain⟨ew,ct,cu,cv,ex⟩:=OR cr ee cg ci cj eb
   refine KS rfl rfl rfl eo (Lw (R:=fun v_ w_=>∃ (am:Value) (ao:Nat->Prop),am=v_/\KM (fun _=>False) co w_/\(L7 w_ ao am (List.replicate a s)/\KP co L8 ao)) rfl rfl (LE rfl rfl rfl (fun _ _=>by kernel_rfl) (K2 _) (Lj rfl (Lj rfl LP)) (ZK aI ([s]) s a aq _ rfl rfl (by omega) (by omega) cq.byt ) (fun e_ w_ h_=>by obtain⟨v107_,T110_,he_,hr_⟩:=h_;exact⟨_,he_,v107_,T110_,rfl,hr_⟩)) ?_)
   rintro _ iq ⟨am,ao,rfl,cw,⟨ey,ez⟩⟩
   obtain⟨eA,cy,cz,cA,cB,eB⟩:=Qt cw ew ct cu cv ex cq
   obtain⟨eC,eD,eE⟩:=SW ez ct cu cv
   refine KG am rfl rfl (KT rfl rfl rr) (KL ?_)
   have eF:=K4 (am)
   refine KE (KH (KH (KF (KG (iv 0) rfl rfl (KN rfl rfl rr) (KL ?_)))))
   have bd:=K4 (iv 0)
   refine KE (Lk (Ot 4 (Mb (KH (KF (KG (.bool true) rfl rfl (L2 rfl bd rfl rfl rr) (KL ?_)))))))
   have eG:=K4 (.bool true)
   refine KE (KH ?_)
   refine K5 (t:=true) eG (fun _=>?_) (fun e=>by cases e)
   refine Lf (KE (KH (Lk (KH (KF (KS rfl rfl rfl bd (KG (iv 0) rfl rfl (KT rfl rfl rr) (KL ?_))))))))
   have cC:=K4 (iv 0)
   refine KE (KH (KF (KG (.agg #[iv ((LG w h 0).W),iv ((LG w h 0).H),aa,ab,ac]) rfl rfl (KU KZ rfl cn cB rr) (KS rfl rfl rfl cC (LV rfl rfl rfl rfl rfl (fun _ _=>by kernel_rfl) (Lj rfl (Lj rfl LP)) (Ti 0 (LG w h 0) aa ab ac ap an aj _  cy.byt cz.byt cA.byt ) fun ir cD=>?_)))))
   obtain⟨eH,eI,eJ,eK,eL,eM,eN⟩:=Sl cD eA cy cz cA cB eB ey
   refine KG (.tuple #[iv ((Lc (LG w h 0) 0).1),iv ((Lc (LG w h 0) 0).2)]) rfl rfl (KN rfl rfl rr) (KG (iv ((Lc (LG w h 0) 0).1)) rfl rfl (LI rfl rfl rfl rr) (KG (iv ((Lc (LG w h 0) 0).2)) rfl rfl (LI rfl rfl rfl rr) (KG (iv ((Lc (LG w h 0) 0).1)) rfl rfl (KT rfl rfl rr) (KG (iv ((Lc (LG w h 0) 0).2)) rfl rfl (KT rfl rfl rr) (RV fun aJ aK=>?_)))))
   obtain⟨eO,eP,eQ,eR,eS,eT⟩:=t6 aK 55 ek 6 en 8 cn 9 eF 30 bd 10 cC
   have eU:aJ 11=iv ((Lc (LG w h 0) 0).1):=(aK 11).trans rfl
   have eV:aJ 12=iv ((Lc (LG w h 0) 0).2):=(aK 12).trans rfl
   clear aK
   refine KE (KH ?_)
   obtain⟨pw0,hpw0⟩:∃ q,q=Qk a (a/2) 0:=⟨_,rfl⟩
   obtain⟨ph0,hph0⟩:∃ q,q=Qk b (b/2) 0:=⟨_,rfl⟩
   have cF:(LG w h 0).p0=List.replicate (ph0*pw0) 0:=by rw[hpw0,hph0];first|exact(MA 0 hsw hsh ha hb).1|exact(MA 0 hsw hsh ha hb).2.1|exact(MA 0 hsw hsh ha hb).2.2
   have hE0:(LG w h s).p0=List.replicate (ph0*pw0) s:=by rw[hpw0,hph0];first|exact(MA s hsw hsh ha hb).1|exact(MA s hsw hsh ha hb).2.1|exact(MA s hsw hsh ha hb).2.2
   have hB0:pw0<=a/\pw0<=64/\ph0<=64:=by have e1:=Q9 a (a/2) 0;have e2:=Q9 b (b/2) 0;omega
   have eW:aJ 11=iv ((pw0:Nat):Int):=eU.trans (congrArg (Value.int .i64) (by rw[hpw0];(refine VJ hsw hsh ?_ ?_ ?_ ?_ ?_ 0 (by decide) ha hb <;> first|exact(Mk 0 hsw hsh).1|exact(Mk 0 hsw hsh).2|exact hl0|exact hl1|rfl)))
   have eX:aJ 12=iv ((ph0:Nat):Int):=eV.trans (congrArg (Value.int .i64) (by rw[hph0];(refine VC hsw hsh ?_ ?_ ?_ ?_ ?_ 0 (by decide) ha hb <;> first|exact(Mk 0 hsw hsh).1|exact(Mk 0 hsw hsh).2|exact hl0|exact hl1|rfl)))
   refine KF (KS rfl rfl rfl eX (KG (iv 0) rfl rfl (KN rfl rfl rr) (KL ?_)))
   have eY:=K4 (iv ((ph0:Nat):Int))
   have eZ:=K4 (iv 0)
   refine KE (Lk (M1 (fun nn FF ww=>∃ (y:Nat),∃ (af:Nat->Prop),(y<=ph0)/\nn=ph0-y/\FF 6=pt p1 0/\FF 8=pt ae 0/\FF 9=am/\FF 10=iv 0/\FF 11=iv ((pw0:Nat):Int)/\FF 30=iv 0/\FF 39=iv ((ph0:Nat):Int)/\FF 55=undef/\FF 40=iv ((y:Nat):Int)/\KM (fun _=>False) w0 ww/\Mu ww p1 29 [iv 0,iv 0,.slice none 0 0,.slice none 0 0,.slice none 0 0]/\L1 ww af aa (My (ph0*pw0) s (y*pw0))/\L1 ww an ab ((LG w h 0).p1)/\L1 ww aj ac ((LG w h 0).p2)/\Mu ww ae 29 [iv ((LG w h 0).W),iv ((LG w h 0).H),aa,ab,ac]/\L1 ww aq aI ([s])/\L7 ww ao am (List.replicate a s)/\KP w0 L8 af/\KJ af (Le p1)/\KJ af an/\KJ af aj/\KJ af (Le ae)/\KJ af aq/\KJ af ao) (ph0-0) ⟨0,ap,by omega,rfl,eP,eQ,eR,eT,eW,eS,eY,eO,eZ,(((((bX.tr bZ).trans aA (KP.ok (S:=fun _=>False) (KP.new bX bY) K3)).tr cr).tr cw).tr cD),eH,L1.of_eq (SP cF) eI,eJ,eK,eL,eM,eN,(KP.new aH bR),dW,dT,dU,b7.symm,er.symm,eC.symm⟩ ?_))
   rintro iu iw iy ⟨y,af,i194,hn193,cI,aL,be,cJ,cK,cL,cM,cN,bf,cO,cP,aM,bg,bh,aN,cQ,cR,bi,bj,bl,bm,cS,cT,cU⟩
   refine KH (KF (KG (.bool (decide (((y:Nat):Int)<((ph0:Nat):Int)))) rfl rfl (L2 rfl bf cM rfl rr) (KL ?_)))
   have e6:=K4 (.bool (decide (((y:Nat):Int)<((ph0:Nat):Int))))
   refine KE (KH ?_)
   refine K5 e6 (fun aB=>?_) (fun aB=>?_)
   ·replace aB:=of_decide_eq_true aB
    refine Lf (KE (KH (Lk (KH (KF (KS rfl rfl rfl bf (KG (iv ((y:Nat):Int)) rfl rfl (KT rfl rfl rr) (KL ?_))))))))
    have e7:=K4 (iv ((y:Nat):Int))
    refine KE ?_
    have hz:=Vw (y:=y) (pw:=pw0) (ph:=ph0) (by omega) hB0.2.1 hB0.2.2
    have hfl:(My (ph0*pw0) s (y*pw0)).length=ph0*pw0:=OL (by omega)
    refine KF (KS rfl rfl rfl cJ (KG (pt ae 2) rfl rfl (KQ (n:=3) rfl aL Tryz.underlying29 rfl (by kernel_rfl) (by decide) rfl rr) (KG (pt ae 2) rfl rfl (LQ 0 (s:=1) rfl rfl rfl (by omega) Tryz.underlying27 (by omega) (by kernel_rfl) (by omega) rr) (KG aa rfl rfl (KR rfl rfl Tryz.underlying26 aN rfl rfl rr) (KS rfl rfl rfl cK (KS rfl rfl rfl e7 (LV rfl rfl rfl rfl rfl (fun _ _=>by kernel_rfl) (Lj rfl (Lj rfl (Lj rfl LP))) (SS aa (My (ph0*pw0) s (y*pw0)) ((pw0:Nat):Int) ((y:Nat):Int) af _ (by omega) (by omega) (by rw[hfl];exact hz.2.2.2) (by omega) aM.byt ) fun iz cV=>?_)))))))
    obtain⟨e8,cW,e9,fa,fb,fc,cX⟩:=Sl cV cP aM bg bh aN cQ cR
    refine KS rfl rfl rfl be (RT rfl rfl rfl rfl rfl (To cW.byt (by omega)) rfl cW cX (by rw[hfl];omega) fun iA fd ar=>?_)
    have fe:=e8.all ar (bj.symm p1 rfl)
    have ff:=e9.all ar bl.symm
    have fg:=fa.all ar bm.symm
    have fh:=fb.all ar (cS.symm ae rfl)
    have fi:=fc.all ar cT.symm
    have fj:=cX.all ar cU.symm
    refine KL ?_
    refine LA (KE (KF (KG (iv ((y+1:Nat):Int)) rfl rfl (LN rfl bf rfl (L5 (by omega) (by omega)) rr) (KG (iv ((y+1:Nat):Int)) rfl rfl (KN rfl rfl rr) (KL ?_)))))
    have fk:=K4 (iv ((y+1:Nat):Int))
    exact KE ⟨(ph0-(y+1)),by omega,y+1,af,by omega,rfl,cI,aL,be,cJ,cK,cL,cM,cN,fk,((cO.tr cV).trans ar (KP.ok (S:=fun _=>False) bi K3)),fe,L1.of_eq (TK hB0.1) fd,ff,fg,fh,fi,fj,bi,bj,bl,bm,cS,cT,cU⟩
   ·replace aB:=of_decide_eq_false aB
    refine Mf (Lr (Lr ?_))
    have fm:ph0=y:=by omega
    subst fm
    have hl0:(My (ph0*pw0) s (ph0*pw0)).length=(LG w h 0).p0.length:=by rw[OL (Nat.le_refl _),cF,List.length_replicate]
    refine Me (LA (KE (KF (KG (iv ((1:Nat):Int)) rfl rfl (LN rfl cL rfl (L5 (by omega) (by omega)) rr) (KG (iv ((1:Nat):Int)) rfl rfl (KN rfl rfl rr) (KL ?_))))))
    have bn:=K4 (iv ((1:Nat):Int))
    refine KE (Mb (KH (KF (KG (.bool true) rfl rfl (L2 rfl bn rfl rfl rr) (KL ?_)))))
    have fo:=K4 (.bool true)
    refine KE (KH ?_)
    refine K5 (t:=true) fo (fun _=>?_) (fun e=>by cases e)
    refine Lf (KE (KH (Lk (KH (KF (KS rfl rfl rfl bn (KG (iv ((1:Nat):Int)) rfl rfl (KT rfl rfl rr) (KL ?_))))))))
    have cY:=K4 (iv ((1:Nat):Int))
    refine KE (KH (KF (KG (.agg #[iv ((LG w h 0).W),iv ((LG w h 0).H),aa,ab,ac]) rfl rfl (KU KZ rfl aL aN rr) (KS rfl rfl rfl cY (LV rfl rfl rfl rfl rfl (fun _ _=>by kernel_rfl) (Lj rfl (Lj rfl LP)) (Ti ((1:Nat):Int) (FD.mk ((LG w h 0).W) ((LG w h 0).H) (My (ph0*pw0) s (ph0*pw0)) ((LG w h 0).p1) ((LG w h 0).p2)) aa ab ac af an aj _  aM.byt bg.byt bh.byt ) fun iB cZ=>?_)))))
    obtain⟨fp,fq,ft,fu,fw,fx,fy⟩:=Sl cZ cP aM bg bh aN cQ cR
    refine KG (.tuple #[iv ((Lc (FD.mk ((LG w h 0).W) ((LG w h 0).H) (My (ph0*pw0) s (ph0*pw0)) ((LG w h 0).p1) ((LG w h 0).p2)) ((1:Nat):Int)).1),iv ((Lc (FD.mk ((LG w h 0).W) ((LG w h 0).H) (My (ph0*pw0) s (ph0*pw0)) ((LG w h 0).p1) ((LG w h 0).p2)) ((1:Nat):Int)).2)]) rfl rfl (KN rfl rfl rr) (KG (iv ((Lc (FD.mk ((LG w h 0).W) ((LG w h 0).H) (My (ph0*pw0) s (ph0*pw0)) ((LG w h 0).p1) ((LG w h 0).p2)) ((1:Nat):Int)).1)) rfl rfl (LI rfl rfl rfl rr) (KG (iv ((Lc (FD.mk ((LG w h 0).W) ((LG w h 0).H) (My (ph0*pw0) s (ph0*pw0)) ((LG w h 0).p1) ((LG w h 0).p2)) ((1:Nat):Int)).2)) rfl rfl (LI rfl rfl rfl rr) (KG (iv ((Lc (FD.mk ((LG w h 0).W) ((LG w h 0).H) (My (ph0*pw0) s (ph0*pw0)) ((LG w h 0).p1) ((LG w h 0).p2)) ((1:Nat):Int)).1)) rfl rfl (KT rfl rfl rr) (KG (iv ((Lc (FD.mk ((LG w h 0).W) ((LG w h 0).H) (My (ph0*pw0) s (ph0*pw0)) ((LG w h 0).p1) ((LG w h 0).p2)) ((1:Nat):Int)).2)) rfl rfl (KT rfl rfl rr) (RV fun aO aP=>?_)))))
    obtain⟨fA,fB,fC,fD,fE,fF⟩:=t6 aP 6 cI 8 aL 9 be 55 cN 30 bn 10 cY
    have fG:aO 11=iv ((Lc (FD.mk ((LG w h 0).W) ((LG w h 0).H) (My (ph0*pw0) s (ph0*pw0)) ((LG w h 0).p1) ((LG w h 0).p2)) ((1:Nat):Int)).1):=(aP 11).trans rfl
    have fH:aO 12=iv ((Lc (FD.mk ((LG w h 0).W) ((LG w h 0).H) (My (ph0*pw0) s (ph0*pw0)) ((LG w h 0).p1) ((LG w h 0).p2)) ((1:Nat):Int)).2):=(aP 12).trans rfl
    clear aP
    refine KE (KH ?_)
    obtain⟨pw1,hpw1⟩:∃ q,q=Qk a (a/2) 1:=⟨_,rfl⟩
    obtain⟨ph1,hph1⟩:∃ q,q=Qk b (b/2) 1:=⟨_,rfl⟩
    have c5:(LG w h 0).p1=List.replicate (ph1*pw1) 0:=by rw[hpw1,hph1];first|exact(MA 0 hsw hsh ha hb).1|exact(MA 0 hsw hsh ha hb).2.1|exact(MA 0 hsw hsh ha hb).2.2
    have hE1:(LG w h s).p1=List.replicate (ph1*pw1) s:=by rw[hpw1,hph1];first|exact(MA s hsw hsh ha hb).1|exact(MA s hsw hsh ha hb).2.1|exact(MA s hsw hsh ha hb).2.2
    have hB1:pw1<=a/\pw1<=64/\ph1<=64:=by have e1:=Q9 a (a/2) 1;have e2:=Q9 b (b/2) 1;omega
    have fI:aO 11=iv ((pw1:Nat):Int):=fG.trans (congrArg (Value.int .i64) (by rw[hpw1];(refine VJ hsw hsh ?_ ?_ ?_ ?_ ?_ 1 (by decide) ha hb <;> first|exact(Mk 0 hsw hsh).1|exact(Mk 0 hsw hsh).2|exact hl0|exact hl1|rfl)))
    have fJ:aO 12=iv ((ph1:Nat):Int):=fH.trans (congrArg (Value.int .i64) (by rw[hph1];(refine VC hsw hsh ?_ ?_ ?_ ?_ ?_ 1 (by decide) ha hb <;> first|exact(Mk 0 hsw hsh).1|exact(Mk 0 hsw hsh).2|exact hl0|exact hl1|rfl)))
    refine KF (KS rfl rfl rfl fJ (KG (iv 0) rfl rfl (KN rfl rfl rr) (KL ?_)))
    have fK:=K4 (iv ((ph1:Nat):Int))
    have fL:=K4 (iv 0)
    refine KE (Lk (M1 (fun nn FF ww=>∃ (y:Nat),∃ (ah:Nat->Prop),(y<=ph1)/\nn=ph1-y/\FF 6=pt p1 0/\FF 8=pt ae 0/\FF 9=am/\FF 10=iv ((1:Nat):Int)/\FF 11=iv ((pw1:Nat):Int)/\FF 30=iv ((1:Nat):Int)/\FF 39=iv ((ph1:Nat):Int)/\FF 55=undef/\FF 40=iv ((y:Nat):Int)/\KM (fun _=>False) w0 ww/\Mu ww p1 29 [iv 0,iv 0,.slice none 0 0,.slice none 0 0,.slice none 0 0]/\L1 ww af aa (My (ph0*pw0) s (ph0*pw0))/\L1 ww ah ab (My (ph1*pw1) s (y*pw1))/\L1 ww aj ac ((LG w h 0).p2)/\Mu ww ae 29 [iv ((LG w h 0).W),iv ((LG w h 0).H),aa,ab,ac]/\L1 ww aq aI ([s])/\L7 ww ao am (List.replicate a s)/\KP w0 L8 ah/\KJ ah (Le p1)/\KJ ah af/\KJ ah aj/\KJ ah (Le ae)/\KJ ah aq/\KJ ah ao) (ph1-0) ⟨0,an,by omega,rfl,fA,fB,fC,fF,fI,fE,fK,fD,fL,(cO.tr cZ),fp,fq,L1.of_eq (SP c5) ft,fu,fw,fx,fy,(KP.new aH bT),dX,bl.symm,dV,b8.symm,et.symm,eD.symm⟩ ?_))
    rintro iC iD iE ⟨y,ah,i350,hn349,c6,aQ,bo,c7,c9,da,db,dc,bp,dd,de,bq,aR,bt,aS,df,dg,bu,bv,bz,bA,dh,di,dj⟩
    refine KH (KF (KG (.bool (decide (((y:Nat):Int)<((ph1:Nat):Int)))) rfl rfl (L2 rfl bp db rfl rr) (KL ?_)))
    have fM:=K4 (.bool (decide (((y:Nat):Int)<((ph1:Nat):Int))))
    refine KE (KH ?_)
    refine K5 fM (fun aC=>?_) (fun aC=>?_)
    ·replace aC:=of_decide_eq_true aC
     refine Lf (KE (KH (Lk (KH (KF (KS rfl rfl rfl bp (KG (iv ((y:Nat):Int)) rfl rfl (KT rfl rfl rr) (KL ?_))))))))
     have fN:=K4 (iv ((y:Nat):Int))
     refine KE ?_
     have hz:=Vw (y:=y) (pw:=pw1) (ph:=ph1) (by omega) hB1.2.1 hB1.2.2
     have hfl:(My (ph1*pw1) s (y*pw1)).length=ph1*pw1:=OL (by omega)
     refine KF (KS rfl rfl rfl c7 (KG (pt ae 2) rfl rfl (KQ (n:=3) rfl aQ Tryz.underlying29 rfl (by kernel_rfl) (by decide) rfl rr) (KG (pt ae 3) rfl rfl (LQ 1 (s:=1) rfl rfl rfl (by omega) Tryz.underlying27 (by omega) (by kernel_rfl) (by omega) rr) (KG ab rfl rfl (KR rfl rfl Tryz.underlying26 aS rfl rfl rr) (KS rfl rfl rfl c9 (KS rfl rfl rfl fN (LV rfl rfl rfl rfl rfl (fun _ _=>by kernel_rfl) (Lj rfl (Lj rfl (Lj rfl LP))) (SS ab (My (ph1*pw1) s (y*pw1)) ((pw1:Nat):Int) ((y:Nat):Int) ah _ (by omega) (by omega) (by rw[hfl];exact hz.2.2.2) (by omega) aR.byt ) fun iF dk=>?_)))))))
     obtain⟨fO,fP,dl,fQ,fR,fS,dm⟩:=Sl dk de bq aR bt aS df dg
     refine KS rfl rfl rfl bo (RT rfl rfl rfl rfl rfl (To dl.byt (by omega)) rfl dl dm (by rw[hfl];omega) fun iG fT au=>?_)
     have fU:=fO.all au (bv.symm p1 rfl)
     have fV:=fP.all au bz.symm
     have fW:=fQ.all au bA.symm
     have fX:=fR.all au (dh.symm ae rfl)
     have fY:=fS.all au di.symm
     have fZ:=dm.all au dj.symm
     refine KL ?_
     refine LA (KE (KF (KG (iv ((y+1:Nat):Int)) rfl rfl (LN rfl bp rfl (L5 (by omega) (by omega)) rr) (KG (iv ((y+1:Nat):Int)) rfl rfl (KN rfl rfl rr) (KL ?_)))))
     have f5:=K4 (iv ((y+1:Nat):Int))
     exact KE ⟨(ph1-(y+1)),by omega,y+1,ah,by omega,rfl,c6,aQ,bo,c7,c9,da,db,dc,f5,((dd.tr dk).trans au (KP.ok (S:=fun _=>False) bu K3)),fU,fV,L1.of_eq (TK hB1.1) fT,fW,fX,fY,fZ,bu,bv,bz,bA,dh,di,dj⟩
    ·replace aC:=of_decide_eq_false aC
     refine Mf (Lr (Lr ?_))
     have f6:ph1=y:=by omega
     subst f6
     have hl1:(My (ph1*pw1) s (ph1*pw1)).length=(LG w h 0).p1.length:=by rw[OL (Nat.le_refl _),c5,List.length_replicate]
     refine Me (LA (KE (KF (KG (iv ((2:Nat):Int)) rfl rfl (LN rfl da rfl (L5 (by omega) (by omega)) rr) (KG (iv ((2:Nat):Int)) rfl rfl (KN rfl rfl rr) (KL ?_))))))
     have bB:=K4 (iv ((2:Nat):Int))
     refine KE (Mb (KH (KF (KG (.bool true) rfl rfl (L2 rfl bB rfl rfl rr) (KL ?_)))))
     have f8:=K4 (.bool true)
     refine KE (KH ?_)
     refine K5 (t:=true) f8 (fun _=>?_) (fun e=>by cases e)
     refine Lf (KE (KH (Lk (KH (KF (KS rfl rfl rfl bB (KG (iv ((2:Nat):Int)) rfl rfl (KT rfl rfl rr) (KL ?_))))))))
     have dn:=K4 (iv ((2:Nat):Int))
     refine KE (KH (KF (KG (.agg #[iv ((LG w h 0).W),iv ((LG w h 0).H),aa,ab,ac]) rfl rfl (KU KZ rfl aQ aS rr) (KS rfl rfl rfl dn (LV rfl rfl rfl rfl rfl (fun _ _=>by kernel_rfl) (Lj rfl (Lj rfl LP)) (Ti ((2:Nat):Int) (FD.mk ((LG w h 0).W) ((LG w h 0).H) (My (ph0*pw0) s (ph0*pw0)) (My (ph1*pw1) s (ph1*pw1)) ((LG w h 0).p2)) aa ab ac af ah aj _  bq.byt aR.byt bt.byt ) fun iH dp=>?_)))))
     obtain⟨f9,ga,gb,gc,gd,ge,gh⟩:=Sl dp de bq aR bt aS df dg
     refine KG (.tuple #[iv ((Lc (FD.mk ((LG w h 0).W) ((LG w h 0).H) (My (ph0*pw0) s (ph0*pw0)) (My (ph1*pw1) s (ph1*pw1)) ((LG w h 0).p2)) ((2:Nat):Int)).1),iv ((Lc (FD.mk ((LG w h 0).W) ((LG w h 0).H) (My (ph0*pw0) s (ph0*pw0)) (My (ph1*pw1) s (ph1*pw1)) ((LG w h 0).p2)) ((2:Nat):Int)).2)]) rfl rfl (KN rfl rfl rr) (KG (iv ((Lc (FD.mk ((LG w h 0).W) ((LG w h 0).H) (My (ph0*pw0) s (ph0*pw0)) (My (ph1*pw1) s (ph1*pw1)) ((LG w h 0).p2)) ((2:Nat):Int)).1)) rfl rfl (LI rfl rfl rfl rr) (KG (iv ((Lc (FD.mk ((LG w h 0).W) ((LG w h 0).H) (My (ph0*pw0) s (ph0*pw0)) (My (ph1*pw1) s (ph1*pw1)) ((LG w h 0).p2)) ((2:Nat):Int)).2)) rfl rfl (LI rfl rfl rfl rr) (KG (iv ((Lc (FD.mk ((LG w h 0).W) ((LG w h 0).H) (My (ph0*pw0) s (ph0*pw0)) (My (ph1*pw1) s (ph1*pw1)) ((LG w h 0).p2)) ((2:Nat):Int)).1)) rfl rfl (KT rfl rfl rr) (KG (iv ((Lc (FD.mk ((LG w h 0).W) ((LG w h 0).H) (My (ph0*pw0) s (ph0*pw0)) (My (ph1*pw1) s (ph1*pw1)) ((LG w h 0).p2)) ((2:Nat):Int)).2)) rfl rfl (KT rfl rfl rr) (RV fun aT aU=>?_)))))
     obtain⟨gi,gj,gl,gm,gn,go⟩:=t6 aU 6 c6 8 aQ 9 bo 55 dc 30 bB 10 dn
     have gp:aT 11=iv ((Lc (FD.mk ((LG w h 0).W) ((LG w h 0).H) (My (ph0*pw0) s (ph0*pw0)) (My (ph1*pw1) s (ph1*pw1)) ((LG w h 0).p2)) ((2:Nat):Int)).1):=(aU 11).trans rfl
     have gq:aT 12=iv ((Lc (FD.mk ((LG w h 0).W) ((LG w h 0).H) (My (ph0*pw0) s (ph0*pw0)) (My (ph1*pw1) s (ph1*pw1)) ((LG w h 0).p2)) ((2:Nat):Int)).2):=(aU 12).trans rfl
     clear aU
     refine KE (KH ?_)
     obtain⟨pw2,hpw2⟩:∃ q,q=Qk a (a/2) 2:=⟨_,rfl⟩
     obtain⟨ph2,hph2⟩:∃ q,q=Qk b (b/2) 2:=⟨_,rfl⟩
     have dq:(LG w h 0).p2=List.replicate (ph2*pw2) 0:=by rw[hpw2,hph2];first|exact(MA 0 hsw hsh ha hb).1|exact(MA 0 hsw hsh ha hb).2.1|exact(MA 0 hsw hsh ha hb).2.2
     have hE2:(LG w h s).p2=List.replicate (ph2*pw2) s:=by rw[hpw2,hph2];first|exact(MA s hsw hsh ha hb).1|exact(MA s hsw hsh ha hb).2.1|exact(MA s hsw hsh ha hb).2.2
     have hB2:pw2<=a/\pw2<=64/\ph2<=64:=by have e1:=Q9 a (a/2) 2;have e2:=Q9 b (b/2) 2;omega
     have gr:aT 11=iv ((pw2:Nat):Int):=gp.trans (congrArg (Value.int .i64) (by rw[hpw2];(refine VJ hsw hsh ?_ ?_ ?_ ?_ ?_ 2 (by decide) ha hb <;> first|exact(Mk 0 hsw hsh).1|exact(Mk 0 hsw hsh).2|exact hl0|exact hl1|rfl)))
     have gt:aT 12=iv ((ph2:Nat):Int):=gq.trans (congrArg (Value.int .i64) (by rw[hph2];(refine VC hsw hsh ?_ ?_ ?_ ?_ ?_ 2 (by decide) ha hb <;> first|exact(Mk 0 hsw hsh).1|exact(Mk 0 hsw hsh).2|exact hl0|exact hl1|rfl)))
     refine KF (KS rfl rfl rfl gt (KG (iv 0) rfl rfl (KN rfl rfl rr) (KL ?_)))
     have gu:=K4 (iv ((ph2:Nat):Int))
     have gv:=K4 (iv 0)
     refine KE (Lk (M1 (fun nn FF ww=>∃ (y:Nat),∃ (ak:Nat->Prop),(y<=ph2)/\nn=ph2-y/\FF 6=pt p1 0/\FF 8=pt ae 0/\FF 9=am/\FF 10=iv ((2:Nat):Int)/\FF 11=iv ((pw2:Nat):Int)/\FF 30=iv ((2:Nat):Int)/\FF 39=iv ((ph2:Nat):Int)/\FF 55=undef/\FF 40=iv ((y:Nat):Int)/\KM (fun _=>False) w0 ww/\Mu ww p1 29 [iv 0,iv 0,.slice none 0 0,.slice none 0 0,.slice none 0 0]/\L1 ww af aa (My (ph0*pw0) s (ph0*pw0))/\L1 ww ah ab (My (ph1*pw1) s (ph1*pw1))/\L1 ww ak ac (My (ph2*pw2) s (y*pw2))/\Mu ww ae 29 [iv ((LG w h 0).W),iv ((LG w h 0).H),aa,ab,ac]/\L1 ww aq aI ([s])/\L7 ww ao am (List.replicate a s)/\KP w0 L8 ak/\KJ ak (Le p1)/\KJ ak af/\KJ ak ah/\KJ ak (Le ae)/\KJ ak aq/\KJ ak ao) (ph2-0) ⟨0,aj,by omega,rfl,gi,gj,gl,go,gr,gn,gu,gm,gv,(dd.tr dp),f9,ga,gb,L1.of_eq (SP dq) gc,gd,ge,gh,(KP.new aH bV),dY,bm.symm,bA.symm,b9.symm,eu.symm,eE.symm⟩ ?_))
     rintro iI iJ iK ⟨y,ak,i506,hn505,bC,bD,dr,dt,du,dv,dw,dy,bE,dz,dA,bF,bG,aV,bH,gw,gz,bI,bJ,bK,bL,dB,dC,dD⟩
     refine KH (KF (KG (.bool (decide (((y:Nat):Int)<((ph2:Nat):Int)))) rfl rfl (L2 rfl bE dw rfl rr) (KL ?_)))
     have gA:=K4 (.bool (decide (((y:Nat):Int)<((ph2:Nat):Int))))
     refine KE (KH ?_)
     refine K5 gA (fun aD=>?_) (fun aD=>?_)
     ·replace aD:=of_decide_eq_true aD
      refine Lf (KE (KH (Lk (KH (KF (KS rfl rfl rfl bE (KG (iv ((y:Nat):Int)) rfl rfl (KT rfl rfl rr) (KL ?_))))))))
      have gB:=K4 (iv ((y:Nat):Int))
      refine KE ?_
      have hz:=Vw (y:=y) (pw:=pw2) (ph:=ph2) (by omega) hB2.2.1 hB2.2.2
      have hfl:(My (ph2*pw2) s (y*pw2)).length=ph2*pw2:=OL (by omega)
      refine KF (KS rfl rfl rfl dt (KG (pt ae 2) rfl rfl (KQ (n:=3) rfl bD Tryz.underlying29 rfl (by kernel_rfl) (by decide) rfl rr) (KG (pt ae 4) rfl rfl (LQ 2 (s:=1) rfl rfl rfl (by omega) Tryz.underlying27 (by omega) (by kernel_rfl) (by omega) rr) (KG ac rfl rfl (KR rfl rfl Tryz.underlying26 bH rfl rfl rr) (KS rfl rfl rfl du (KS rfl rfl rfl gB (LV rfl rfl rfl rfl rfl (fun _ _=>by kernel_rfl) (Lj rfl (Lj rfl (Lj rfl LP))) (SS ac (My (ph2*pw2) s (y*pw2)) ((pw2:Nat):Int) ((y:Nat):Int) ak _ (by omega) (by omega) (by rw[hfl];exact hz.2.2.2) (by omega) aV.byt ) fun iL dE=>?_)))))))
      obtain⟨gC,gD,gE,dF,gF,gG,dG⟩:=Sl dE dA bF bG aV bH gw gz
      refine KS rfl rfl rfl dr (RT rfl rfl rfl rfl rfl (To dF.byt (by omega)) rfl dF dG (by rw[hfl];omega) fun iM gH av=>?_)
      have gI:=gC.all av (bJ.symm p1 rfl)
      have gJ:=gD.all av bK.symm
      have gK:=gE.all av bL.symm
      have gL:=gF.all av (dB.symm ae rfl)
      have gM:=gG.all av dC.symm
      have gN:=dG.all av dD.symm
      refine KL ?_
      refine LA (KE (KF (KG (iv ((y+1:Nat):Int)) rfl rfl (LN rfl bE rfl (L5 (by omega) (by omega)) rr) (KG (iv ((y+1:Nat):Int)) rfl rfl (KN rfl rfl rr) (KL ?_)))))
      have gO:=K4 (iv ((y+1:Nat):Int))
      exact KE ⟨(ph2-(y+1)),by omega,y+1,ak,by omega,rfl,bC,bD,dr,dt,du,dv,dw,dy,gO,((dz.tr dE).trans av (KP.ok (S:=fun _=>False) bI K3)),gI,gJ,gK,L1.of_eq (TK hB2.1) gH,gL,gM,gN,bI,bJ,bK,bL,dB,dC,dD⟩
     ·replace aD:=of_decide_eq_false aD
      refine Mf (Lr (Lr ?_))
      have gP:ph2=y:=by omega
      subst gP
      have hl2:(My (ph2*pw2) s (ph2*pw2)).length=(LG w h 0).p2.length:=by rw[OL (Nat.le_refl _),dq,List.length_replicate]
      refine Me (LA (KE (KF (KG (iv ((3:Nat):Int)) rfl rfl (LN rfl dv rfl (L5 (by omega) (by omega)) rr) (KG (iv ((3:Nat):Int)) rfl rfl (KN rfl rfl rr) (KL ?_))))))
      have gQ:=K4 (iv ((3:Nat):Int))
      refine KE (Mb (KH (KF (KG (.bool false) rfl rfl (L2 rfl gQ rfl rfl rr) (KL ?_)))))
      have gR:=K4 (.bool false)
      refine KE (KH ?_)
      refine K5 (t:=false) gR (fun e=>by cases e) (fun _=>?_)
      refine Mf (Lr (Lr (Me (KE (KH (KF (KG (.agg #[iv ((LG w h 0).W),iv ((LG w h 0).H),aa,ab,ac]) rfl rfl (KU KZ rfl bD bH rr) (Lh (us:=[iv ((LG w h 0).W),iv ((LG w h 0).H),aa,ab,ac]) KZ rfl rfl rfl bC rfl dA rfl (KX rfl (KX rfl (KX bF.one (KX bG.one (KX aV.one MC))))) fun iN gS aW=>?_))))))))
      have dH:=bF.all aW bj
      have dI:=bG.all aW bv
      have dJ:=aV.all aW bJ
      refine KG (iv 0) rfl rfl (KT rfl rfl rr) (KL ?_)
      have gT:=K4 (iv 0)
      refine KE (La ?_)
      exact L4 dy rfl (MJ (vs:=[iv ((LG w h 0).W),iv ((LG w h 0).H),aa,ab,ac]) KZ rfl bC gS) (Lu (v:=iv 0) rfl gT) ⟨aa,af,ab,ah,ac,ak,(by first|rw[(Mk s hsw hsh).1,(Mk s hsw hsh).2,(Mk 0 hsw hsh).1,(Mk 0 hsw hsh).2,Tv hsw hsh]|(rw[hN,WK hno];rfl)),(dz.trans aW (KP.ok (S:=fun _=>False) aZ K3)),⟨(by first|exact L1.of_eq (On hE0) dH|(rw[hN];exact dH)),bi⟩,⟨(by first|exact L1.of_eq (On hE1) dI|(rw[hN];exact dI)),bu⟩,⟨(by first|exact L1.of_eq (On hE2) dJ|(rw[hN];exact dJ)),bI⟩,bz.symm,bK.symm,bL.symm⟩
  ·skip
   refine KF (KS rfl rfl rfl aw (Lw (R:=fun v_ w_=>v_ = .bool true/\KM (fun _=>False) w2 w_) rfl rfl (LE rfl rfl rfl (fun _ _=>by kernel_rfl) (K2 _) (Lj rfl LP) (Pp w  _   ) (fun e_ w_ h_=>⟨_,h_.1,(congrArg Value.bool aE),h_.2⟩)) ?_))
   rintro _ gU ⟨rfl,dK⟩
   have gV:=B4.all dK id
   refine KG (.bool false) rfl rfl (LT rfl rfl rfl rr) (KG (.bool false) rfl rfl (KN rfl rfl rr) (KO (iv h) 3 false 17 rfl rfl rfl rfl rfl (KN rfl a9 rr) (Lz (R:=fun v_ w_=>v_ = .bool false/\KM (fun _=>False) gU w_) 3 false 17 rfl rfl rfl rfl rfl (LE rfl rfl rfl (fun _ _=>by kernel_rfl) (K2 _) (Lj rfl LP) (Pp h  _   ) (fun e_ w_ h_=>⟨_,h_.1,(congrArg Value.bool bb),h_.2⟩)) ?_)))
   rintro _ iO ⟨rfl,dL⟩
   have gW:=gV.all dL id
   refine KO (.bool true) 3 false 17 rfl rfl rfl rfl rfl (LT rfl rfl rfl rr) (KG (.bool true) rfl rfl (K6 rfl rfl rfl rr) (KL ?_))
   have gZ:=K4 (.bool true)
   refine KE ?_
   refine K5 (t:=true) gZ (fun _=>?_) (fun e=>by cases e)
   refine KH ?_
   have hno:¬ (Mj w=true/\Mj h=true):=by rintro ⟨h1,h2⟩;simp_all
   have hN:=Y8 s hno
   refine KF (KG (.agg #[iv 0,iv 0,.slice none 0 0,.slice none 0 0,.slice none 0 0]) rfl rfl (LW (l':=[]) (cells:=#[iv 0,iv 0,.slice none 0 0,.slice none 0 0,.slice none 0 0]) rfl QZ (by kernel_rfl) rfl rr) (Lh (us:=[iv 0,iv 0,.slice none 0 0,.slice none 0 0,.slice none 0 0]) KZ rfl rfl rfl az rfl gW rfl (KX rfl (KX rfl (KX rfl (KX rfl (KX rfl MC))))) fun iP hP hQ=>?_))
   refine KG (iv 70) rfl rfl (KT rfl rfl rr) (KL ?_)
   have hZ:=K4 (iv 70)
   refine KE (La (Ln ?_))
   exact L4 ba rfl (MJ (vs:=[iv 0,iv 0,.slice none 0 0,.slice none 0 0,.slice none 0 0]) KZ rfl az hP) (Lu (v:=iv 70) rfl hZ) ⟨(.slice none 0 0),L8,(.slice none 0 0),L8,(.slice none 0 0),L8,(by first|rw[(Mk s hsw hsh).1,(Mk s hsw hsh).2,(Mk 0 hsw hsh).1,(Mk 0 hsw hsh).2,Tv hsw hsh]|(rw[hN,WK hno];rfl)),(((K7.tr dK).tr dL).trans hQ (KP.ok (S:=fun _=>False) aZ K3)),⟨(by first|exact L1.of_eq (On hE0) (L1.nil _)|(rw[hN];exact(L1.nil _))),(KP.refl _ _)⟩,⟨(by first|exact L1.of_eq (On hE1) (L1.nil _)|(rw[hN];exact(L1.nil _))),(KP.refl _ _)⟩,⟨(by first|exact L1.of_eq (On hE2) (L1.nil _)|(rw[hN];exact(L1.nil _))),(KP.refl _ _)⟩,KJ.none,KJ.none,KJ.none⟩
 ·skip
  refine KF (KS rfl rfl rfl aw (Lw (R:=fun v_ w_=>v_ = .bool false/\KM (fun _=>False) w2 w_) rfl rfl (LE rfl rfl rfl (fun _ _=>by kernel_rfl) (K2 _) (Lj rfl LP) (Pp w  _   ) (fun e_ w_ h_=>⟨_,h_.1,(congrArg Value.bool aE),h_.2⟩)) ?_))
  rintro _ iQ ⟨rfl,dM⟩
  have ia:=B4.all dM id
  refine KG (.bool true) rfl rfl (LT rfl rfl rfl rr) (KG (.bool true) rfl rfl (KN rfl rfl rr) (KI 3 false 17 rfl rfl rfl (Or.inl rfl) rfl (KI 3 false 17 rfl rfl rfl (Or.inl rfl) rfl (KI 3 false 17 rfl rfl rfl (Or.inl rfl) rfl (KG (.bool true) rfl rfl (Ld rfl rfl rfl rr) (KL ?_))))))
  have ib:=K4 (.bool true)
  refine KE ?_
  refine K5 (t:=true) ib (fun _=>?_) (fun e=>by cases e)
  refine KH ?_
  have hno:¬ (Mj w=true/\Mj h=true):=by rintro ⟨h1,h2⟩;simp_all
  have hN:=Y8 s hno
  refine KF (KG (.agg #[iv 0,iv 0,.slice none 0 0,.slice none 0 0,.slice none 0 0]) rfl rfl (LW (l':=[]) (cells:=#[iv 0,iv 0,.slice none 0 0,.slice none 0 0,.slice none 0 0]) rfl QZ (by kernel_rfl) rfl rr) (Lh (us:=[iv 0,iv 0,.slice none 0 0,.slice none 0 0,.slice none 0 0]) KZ rfl rfl rfl az rfl ia rfl (KX rfl (KX rfl (KX rfl (KX rfl (KX rfl MC))))) fun iR ie ig=>?_))
  refine KG (iv 70) rfl rfl (KT rfl rfl rr) (KL ?_)
  have ii:=K4 (iv 70)
  refine KE (La (Ln ?_))
  exact L4 ba rfl (MJ (vs:=[iv 0,iv 0,.slice none 0 0,.slice none 0 0,.slice none 0 0]) KZ rfl az ie) (Lu (v:=iv 70) rfl ii) ⟨(.slice none 0 0),L8,(.slice none 0 0),L8,(.slice none 0 0),L8,(by first|rw[(Mk s hsw hsh).1,(Mk s hsw hsh).2,(Mk 0 hsw hsh).1,(Mk 0 hsw hsh).2,Tv hsw hsh]|(rw[hN,WK hno];rfl)),((K7.tr dM).trans ig (KP.ok (S:=fun _=>False) aZ K3)),⟨(by first|exact L1.of_eq (On hE0) (L1.nil _)|(rw[hN];exact(L1.nil _))),(KP.refl _ _)⟩,⟨(by first|exact L1.of_eq (On hE1) (L1.nil _)|(rw[hN];exact(L1.nil _))),(KP.refl _ _)⟩,⟨(by first|exact L1.of_eq (On hE2) (L1.nil _)|(rw[hN];exact(L1.nil _))),(KP.refl _ _)⟩,KJ.none,KJ.none,KJ.none⟩
end Go.Proofs.YtknjpdcpmpfklaaGreatDoor
set_option maxRecDepth 100000
namespace Go.Proofs.YtknjpdcpmpfklaaGreatDoor
open Go.RowKit
theorem Mz(n a b:Int)(w0:World) :
  Calls Tryz.prog 90 #[.int .i64 (n),.int .i64 (a),.int .i64 (b)] w0 fun e w'=>e = .returned (.bool (decide (a<=n/\n<=b)))/\KM (fun _=>False) w0 w':=by
 refine Lp (args:=[iv n,iv a,iv b]) 15 Tryz.func90 rfl rfl (Nat.le_of_ble_eq_true rfl) ?_
 have K0:=KM.refl (fun _=>False) w0
 refine KH (KF (KG (.bool false) rfl rfl (KT rfl rfl rr) (KL ?_)))
 have s3:=K4 (iv n)
 have s4:=K4 (iv a)
 have s5:=K4 (iv b)
 have s6:=K4 (undef)
 refine KE (KH ?_)
 by_cases d7:a<=n
 ·skip
  refine KF (KS rfl rfl rfl s3 (KS rfl rfl rfl s4 (KG (.bool true) rfl rfl (Nh rfl rfl rfl (decide_eq_true d7) rr) (KG (.bool true) rfl rfl (KN rfl rfl rr) (KO (iv n) 3 true 10 rfl rfl rfl rfl rfl (KN rfl s3 rr) (KO (iv b) 3 true 10 rfl rfl rfl rfl rfl (KN rfl s5 rr) (KO (.bool (decide (n<=b))) 3 true 10 rfl rfl rfl rfl rfl (Nc rfl rfl rfl rfl rr) (KG (.bool (decide (n<=b))) rfl rfl (Ld rfl rfl rfl rr) (KG (.bool (decide (n<=b))) rfl rfl (KT rfl rfl rr) (KL ?_))))))))))
  have ai:=K4 (.bool (decide (n<=b)))
  refine KE (La ?_)
  exact Lq (v:=.bool (decide (n<=b))) s6 rfl rfl ai ⟨(O8 (by first|exact(decide_eq_true (by omega)).symm|exact(decide_eq_false (by omega)).symm|exact decide_eq_decide.2 (by omega))),K0⟩
 ·skip
  refine KF (KS rfl rfl rfl s3 (KS rfl rfl rfl s4 (KG (.bool false) rfl rfl (Nh rfl rfl rfl (decide_eq_false d7) rr) (KG (.bool false) rfl rfl (KN rfl rfl rr) (KI 3 true 10 rfl rfl rfl (Or.inl rfl) rfl (KI 3 true 10 rfl rfl rfl (Or.inl rfl) rfl (KI 3 true 10 rfl rfl rfl (Or.inl rfl) rfl (KG (.bool false) rfl rfl (K6 rfl rfl rfl rr) (KG (.bool false) rfl rfl (KT rfl rfl rr) (KL ?_))))))))))
  have aj:=K4 (.bool false)
  refine KE (La ?_)
  exact Lq (v:=.bool false) s6 rfl rfl aj ⟨(O8 (by first|exact(decide_eq_true (by omega)).symm|exact(decide_eq_false (by omega)).symm|exact decide_eq_decide.2 (by omega))),K0⟩
theorem PM(n:Int)(w0:World) :
  Calls Tryz.prog 89 #[.int .i64 (n)] w0 fun e w'=>e = .returned (.bool (decide (NK n)))/\KM (fun _=>False) w0 w':=by
 refine Lp (args:=[iv n]) 10 Tryz.func89 rfl rfl (Nat.le_of_ble_eq_true rfl) ?_
 have K0:=KM.refl (fun _=>False) w0
 refine KH (KF (KG (.bool false) rfl rfl (KT rfl rfl rr) (KL ?_)))
 have s3:=K4 (iv n)
 have s4:=K4 (undef)
 refine KE (KH ?_)
 by_cases d5:8<=n/\n<=64
 ·skip
  refine KF (KS rfl rfl rfl s3 (Lw (R:=fun v_ w_=>v_ = .bool true/\KM (fun _=>False) w0 w_) rfl rfl (LE rfl rfl rfl (fun _ _=>by kernel_rfl) (K2 _) (Lj rfl (Lj rfl (Lj rfl LP))) (Mz n 8 64  _   ) (fun e_ w_ h_=>⟨_,h_.1,(congrArg Value.bool (decide_eq_true d5)),h_.2⟩)) ?_))
  rintro _ w6 ⟨rfl,k7⟩
  refine KG (.bool true) rfl rfl (KN rfl rfl rr) (KO (iv n) 2 true 5 rfl rfl rfl rfl rfl (KN rfl s3 rr) (KO (iv (n%8)) 2 true 5 rfl rfl rfl rfl rfl (Xw rfl rfl rfl (by first|decide|omega) (aDz (by omega)) rr) (KO (.bool (decide ((n%8)=0))) 2 true 5 rfl rfl rfl rfl rfl (LZ rfl rfl rfl rfl rr) (KG (.bool (decide ((n%8)=0))) rfl rfl (Ld rfl rfl rfl rr) (KG (.bool (decide ((n%8)=0))) rfl rfl (KT rfl rfl rr) (KL ?_))))))
  have ah:=K4 (.bool (decide ((n%8)=0)))
  refine KE (La ?_)
  exact Lq (v:=.bool (decide ((n%8)=0))) s4 rfl rfl ah ⟨(O8 (by first|exact(decide_eq_true (by unfold NK;omega)).symm|exact(decide_eq_false (by unfold NK;omega)).symm|exact decide_eq_decide.2 (by unfold NK;omega))),(K0.tr k7)⟩
 ·skip
  refine KF (KS rfl rfl rfl s3 (Lw (R:=fun v_ w_=>v_ = .bool false/\KM (fun _=>False) w0 w_) rfl rfl (LE rfl rfl rfl (fun _ _=>by kernel_rfl) (K2 _) (Lj rfl (Lj rfl (Lj rfl LP))) (Mz n 8 64  _   ) (fun e_ w_ h_=>⟨_,h_.1,(congrArg Value.bool (decide_eq_false d5)),h_.2⟩)) ?_))
  rintro _ am ⟨rfl,ai⟩
  refine KG (.bool false) rfl rfl (KN rfl rfl rr) (KI 2 true 5 rfl rfl rfl (Or.inl rfl) rfl (KI 2 true 5 rfl rfl rfl (Or.inl rfl) rfl (KI 2 true 5 rfl rfl rfl (Or.inl rfl) rfl (KG (.bool false) rfl rfl (K6 rfl rfl rfl rr) (KG (.bool false) rfl rfl (KT rfl rfl rr) (KL ?_))))))
  have aj:=K4 (.bool false)
  refine KE (La ?_)
  exact Lq (v:=.bool false) s4 rfl rfl aj ⟨(O8 (by first|exact(decide_eq_true (by unfold NK;omega)).symm|exact(decide_eq_false (by unfold NK;omega)).symm|exact decide_eq_decide.2 (by unfold NK;omega))),(K0.tr ai)⟩
theorem U2(W H R B:Int)(w0:World) :
  Calls Tryz.prog 48 #[.agg #[.int .i64 (W),.int .i64 (H),.int .i64 (R),.int .i64 (B)]] w0 fun e w'=>e = .returned (.int .i64 (OT W H R B))/\KM (fun _=>False) w0 w':=by
 refine Lp (args:=[.agg #[iv W,iv H,iv R,iv B]]) 27 Tryz.func48 rfl rfl (Nat.le_of_ble_eq_true rfl) ?_
 refine KH (KF (Lt (vs:=[iv W,iv H,iv R,iv B]) rfl rfl rfl rfl fun p1 w2 B4 g5 k3=>?_))
 have K7:=(KM.refl (fun _=>False) w0).tr k3
 refine KG (iv 0) rfl rfl (KT rfl rfl rr) (KL ?_)
 have ah:=K4 (undef)
 have ab:=K4 (pt p1 0)
 refine KE (KH (KH ?_))
 by_cases ai:NK W
 ·skip
  by_cases aj:NK H
  ·skip
   by_cases ak:1<=R/\R<=16777216
   ·skip
    by_cases am:R<=B/\B<=1073741824
    ·skip
     refine KF (KG (pt p1 0) rfl rfl (KQ (n:=1) rfl ab Tryz.underlying23 rfl (by kernel_rfl) (by decide) rfl rr) (KG (iv W) rfl rfl (KR rfl rfl Tryz.underlying3 B4 rfl rfl rr) (Lw (R:=fun v_ w_=>v_ = .bool true/\KM (fun _=>False) w2 w_) rfl rfl (LE rfl rfl rfl (fun _ _=>by kernel_rfl) (K2 _) (Lj rfl LP) (PM W  _   ) (fun e_ w_ h_=>⟨_,h_.1,(congrArg Value.bool (decide_eq_true ai)),h_.2⟩)) ?_)))
     rintro _ aI ⟨rfl,an⟩
     have ao:=B4.all an id
     refine KG (.bool false) rfl rfl (LT rfl rfl rfl rr) (KG (.bool false) rfl rfl (KN rfl rfl rr) (KO (pt p1 1) 4 false 7 rfl rfl rfl rfl rfl (KQ (n:=1) rfl ab Tryz.underlying23 rfl (by kernel_rfl) (by decide) rfl rr) (KO (iv H) 4 false 7 rfl rfl rfl rfl rfl (KR rfl rfl Tryz.underlying3 ao rfl rfl rr) (Lz (R:=fun v_ w_=>v_ = .bool true/\KM (fun _=>False) aI w_) 4 false 7 rfl rfl rfl rfl rfl (LE rfl rfl rfl (fun _ _=>by kernel_rfl) (K2 _) (Lj rfl LP) (PM H  _   ) (fun e_ w_ h_=>⟨_,h_.1,(congrArg Value.bool (decide_eq_true aj)),h_.2⟩)) ?_))))
     rintro _ aJ ⟨rfl,ap⟩
     have aq:=ao.all ap id
     refine KO (.bool false) 4 false 7 rfl rfl rfl rfl rfl (LT rfl rfl rfl rr) (KG (.bool false) rfl rfl (K6 rfl rfl rfl rr) (KG (.bool false) rfl rfl (KN rfl rfl rr) (KO (pt p1 2) 10 false 13 rfl rfl rfl rfl rfl (KQ (n:=1) rfl ab Tryz.underlying23 rfl (by kernel_rfl) (by decide) rfl rr) (KO (iv R) 10 false 13 rfl rfl rfl rfl rfl (KR rfl rfl Tryz.underlying3 aq rfl rfl rr) (Lz (R:=fun v_ w_=>v_ = .bool true/\KM (fun _=>False) aJ w_) 10 false 13 rfl rfl rfl rfl rfl (LE rfl rfl rfl (fun _ _=>by kernel_rfl) (K2 _) (Lj rfl (Lj rfl (Lj rfl LP))) (Mz R 1 16777216  _   ) (fun e_ w_ h_=>⟨_,h_.1,(congrArg Value.bool (decide_eq_true ak)),h_.2⟩)) ?_)))))
     rintro _ aK ⟨rfl,ar⟩
     have au:=aq.all ar id
     refine KO (.bool false) 10 false 13 rfl rfl rfl rfl rfl (LT rfl rfl rfl rr) (KG (.bool false) rfl rfl (K6 rfl rfl rfl rr) (KG (.bool false) rfl rfl (KN rfl rfl rr) (KO (pt p1 3) 16 false 19 rfl rfl rfl rfl rfl (KQ (n:=1) rfl ab Tryz.underlying23 rfl (by kernel_rfl) (by decide) rfl rr) (KO (iv B) 16 false 19 rfl rfl rfl rfl rfl (KR rfl rfl Tryz.underlying3 au rfl rfl rr) (KO (pt p1 2) 16 false 19 rfl rfl rfl rfl rfl (KQ (n:=1) rfl ab Tryz.underlying23 rfl (by kernel_rfl) (by decide) rfl rr) (KO (iv R) 16 false 19 rfl rfl rfl rfl rfl (KR rfl rfl Tryz.underlying3 au rfl rfl rr) (Lz (R:=fun v_ w_=>v_ = .bool true/\KM (fun _=>False) aK w_) 16 false 19 rfl rfl rfl rfl rfl (LE rfl rfl rfl (fun _ _=>by kernel_rfl) (K2 _) (Lj rfl (Lj rfl (Lj rfl LP))) (Mz B R 1073741824  _   ) (fun e_ w_ h_=>⟨_,h_.1,(congrArg Value.bool (decide_eq_true am)),h_.2⟩)) ?_)))))))
     rintro _ bh ⟨rfl,aL⟩
     refine KO (.bool false) 16 false 19 rfl rfl rfl rfl rfl (LT rfl rfl rfl rr) (KG (.bool false) rfl rfl (K6 rfl rfl rfl rr) (KL ?_))
     have aM:=K4 (.bool false)
     refine KE ?_
     refine K5 (t:=false) aM (fun e=>by cases e) (fun _=>?_)
     refine Lf (KE (KH (KF (KG (iv 0) rfl rfl (KT rfl rfl rr) (KL ?_)))))
     have aN:=K4 (iv 0)
     refine KE (La ?_)
     exact Lq (v:=iv 0) ah rfl rfl aN ⟨(by first|rw[show OT W H R B=0 from if_pos ⟨by assumption,by assumption,by omega,by omega,by omega,by omega⟩]|rw[show OT W H R B=110 from if_neg (by unfold Pb;rintro ⟨h1,h2,h3,h4,h5,h6⟩;first|(exact absurd h1 (by assumption))|(exact absurd h2 (by assumption))|omega)]),((((K7.tr an).tr ap).tr ar).tr aL)⟩
    ·skip
     refine KF (KG (pt p1 0) rfl rfl (KQ (n:=1) rfl ab Tryz.underlying23 rfl (by kernel_rfl) (by decide) rfl rr) (KG (iv W) rfl rfl (KR rfl rfl Tryz.underlying3 B4 rfl rfl rr) (Lw (R:=fun v_ w_=>v_ = .bool true/\KM (fun _=>False) w2 w_) rfl rfl (LE rfl rfl rfl (fun _ _=>by kernel_rfl) (K2 _) (Lj rfl LP) (PM W  _   ) (fun e_ w_ h_=>⟨_,h_.1,(congrArg Value.bool (decide_eq_true ai)),h_.2⟩)) ?_)))
     rintro _ aO ⟨rfl,av⟩
     have aw:=B4.all av id
     refine KG (.bool false) rfl rfl (LT rfl rfl rfl rr) (KG (.bool false) rfl rfl (KN rfl rfl rr) (KO (pt p1 1) 4 false 7 rfl rfl rfl rfl rfl (KQ (n:=1) rfl ab Tryz.underlying23 rfl (by kernel_rfl) (by decide) rfl rr) (KO (iv H) 4 false 7 rfl rfl rfl rfl rfl (KR rfl rfl Tryz.underlying3 aw rfl rfl rr) (Lz (R:=fun v_ w_=>v_ = .bool true/\KM (fun _=>False) aO w_) 4 false 7 rfl rfl rfl rfl rfl (LE rfl rfl rfl (fun _ _=>by kernel_rfl) (K2 _) (Lj rfl LP) (PM H  _   ) (fun e_ w_ h_=>⟨_,h_.1,(congrArg Value.bool (decide_eq_true aj)),h_.2⟩)) ?_))))
     rintro _ aP ⟨rfl,az⟩
     have aA:=aw.all az id
     refine KO (.bool false) 4 false 7 rfl rfl rfl rfl rfl (LT rfl rfl rfl rr) (KG (.bool false) rfl rfl (K6 rfl rfl rfl rr) (KG (.bool false) rfl rfl (KN rfl rfl rr) (KO (pt p1 2) 10 false 13 rfl rfl rfl rfl rfl (KQ (n:=1) rfl ab Tryz.underlying23 rfl (by kernel_rfl) (by decide) rfl rr) (KO (iv R) 10 false 13 rfl rfl rfl rfl rfl (KR rfl rfl Tryz.underlying3 aA rfl rfl rr) (Lz (R:=fun v_ w_=>v_ = .bool true/\KM (fun _=>False) aP w_) 10 false 13 rfl rfl rfl rfl rfl (LE rfl rfl rfl (fun _ _=>by kernel_rfl) (K2 _) (Lj rfl (Lj rfl (Lj rfl LP))) (Mz R 1 16777216  _   ) (fun e_ w_ h_=>⟨_,h_.1,(congrArg Value.bool (decide_eq_true ak)),h_.2⟩)) ?_)))))
     rintro _ aQ ⟨rfl,aB⟩
     have aC:=aA.all aB id
     refine KO (.bool false) 10 false 13 rfl rfl rfl rfl rfl (LT rfl rfl rfl rr) (KG (.bool false) rfl rfl (K6 rfl rfl rfl rr) (KG (.bool false) rfl rfl (KN rfl rfl rr) (KO (pt p1 3) 16 false 19 rfl rfl rfl rfl rfl (KQ (n:=1) rfl ab Tryz.underlying23 rfl (by kernel_rfl) (by decide) rfl rr) (KO (iv B) 16 false 19 rfl rfl rfl rfl rfl (KR rfl rfl Tryz.underlying3 aC rfl rfl rr) (KO (pt p1 2) 16 false 19 rfl rfl rfl rfl rfl (KQ (n:=1) rfl ab Tryz.underlying23 rfl (by kernel_rfl) (by decide) rfl rr) (KO (iv R) 16 false 19 rfl rfl rfl rfl rfl (KR rfl rfl Tryz.underlying3 aC rfl rfl rr) (Lz (R:=fun v_ w_=>v_ = .bool false/\KM (fun _=>False) aQ w_) 16 false 19 rfl rfl rfl rfl rfl (LE rfl rfl rfl (fun _ _=>by kernel_rfl) (K2 _) (Lj rfl (Lj rfl (Lj rfl LP))) (Mz B R 1073741824  _   ) (fun e_ w_ h_=>⟨_,h_.1,(congrArg Value.bool (decide_eq_false am)),h_.2⟩)) ?_)))))))
     rintro _ bi ⟨rfl,aR⟩
     refine KO (.bool true) 16 false 19 rfl rfl rfl rfl rfl (LT rfl rfl rfl rr) (KG (.bool true) rfl rfl (K6 rfl rfl rfl rr) (KL ?_))
     have aS:=K4 (.bool true)
     refine KE ?_
     refine K5 (t:=true) aS (fun _=>?_) (fun e=>by cases e)
     refine KH (KF (KG (iv 110) rfl rfl (KT rfl rfl rr) (KL ?_)))
     have aT:=K4 (iv 110)
     refine KE (La (Ln ?_))
     exact Lq (v:=iv 110) ah rfl rfl aT ⟨(by first|rw[show OT W H R B=0 from if_pos ⟨by assumption,by assumption,by omega,by omega,by omega,by omega⟩]|rw[show OT W H R B=110 from if_neg (by unfold Pb;rintro ⟨h1,h2,h3,h4,h5,h6⟩;first|(exact absurd h1 (by assumption))|(exact absurd h2 (by assumption))|omega)]),((((K7.tr av).tr az).tr aB).tr aR)⟩
   ·skip
    refine KF (KG (pt p1 0) rfl rfl (KQ (n:=1) rfl ab Tryz.underlying23 rfl (by kernel_rfl) (by decide) rfl rr) (KG (iv W) rfl rfl (KR rfl rfl Tryz.underlying3 B4 rfl rfl rr) (Lw (R:=fun v_ w_=>v_ = .bool true/\KM (fun _=>False) w2 w_) rfl rfl (LE rfl rfl rfl (fun _ _=>by kernel_rfl) (K2 _) (Lj rfl LP) (PM W  _   ) (fun e_ w_ h_=>⟨_,h_.1,(congrArg Value.bool (decide_eq_true ai)),h_.2⟩)) ?_)))
    rintro _ aU ⟨rfl,aD⟩
    have aE:=B4.all aD id
    refine KG (.bool false) rfl rfl (LT rfl rfl rfl rr) (KG (.bool false) rfl rfl (KN rfl rfl rr) (KO (pt p1 1) 4 false 7 rfl rfl rfl rfl rfl (KQ (n:=1) rfl ab Tryz.underlying23 rfl (by kernel_rfl) (by decide) rfl rr) (KO (iv H) 4 false 7 rfl rfl rfl rfl rfl (KR rfl rfl Tryz.underlying3 aE rfl rfl rr) (Lz (R:=fun v_ w_=>v_ = .bool true/\KM (fun _=>False) aU w_) 4 false 7 rfl rfl rfl rfl rfl (LE rfl rfl rfl (fun _ _=>by kernel_rfl) (K2 _) (Lj rfl LP) (PM H  _   ) (fun e_ w_ h_=>⟨_,h_.1,(congrArg Value.bool (decide_eq_true aj)),h_.2⟩)) ?_))))
    rintro _ aV ⟨rfl,aF⟩
    have aW:=aE.all aF id
    refine KO (.bool false) 4 false 7 rfl rfl rfl rfl rfl (LT rfl rfl rfl rr) (KG (.bool false) rfl rfl (K6 rfl rfl rfl rr) (KG (.bool false) rfl rfl (KN rfl rfl rr) (KO (pt p1 2) 10 false 13 rfl rfl rfl rfl rfl (KQ (n:=1) rfl ab Tryz.underlying23 rfl (by kernel_rfl) (by decide) rfl rr) (KO (iv R) 10 false 13 rfl rfl rfl rfl rfl (KR rfl rfl Tryz.underlying3 aW rfl rfl rr) (Lz (R:=fun v_ w_=>v_ = .bool false/\KM (fun _=>False) aV w_) 10 false 13 rfl rfl rfl rfl rfl (LE rfl rfl rfl (fun _ _=>by kernel_rfl) (K2 _) (Lj rfl (Lj rfl (Lj rfl LP))) (Mz R 1 16777216  _   ) (fun e_ w_ h_=>⟨_,h_.1,(congrArg Value.bool (decide_eq_false ak)),h_.2⟩)) ?_)))))
    rintro _ bj ⟨rfl,aX⟩
    refine KO (.bool true) 10 false 13 rfl rfl rfl rfl rfl (LT rfl rfl rfl rr) (KG (.bool true) rfl rfl (K6 rfl rfl rfl rr) (KG (.bool true) rfl rfl (KN rfl rfl rr) (KI 16 false 19 rfl rfl rfl (Or.inl rfl) rfl (KI 16 false 19 rfl rfl rfl (Or.inl rfl) rfl (KI 16 false 19 rfl rfl rfl (Or.inl rfl) rfl (KI 16 false 19 rfl rfl rfl (Or.inl rfl) rfl (KI 16 false 19 rfl rfl rfl (Or.inl rfl) rfl (KI 16 false 19 rfl rfl rfl (Or.inl rfl) rfl (KG (.bool true) rfl rfl (Ld rfl rfl rfl rr) (KL ?_))))))))))
    have aY:=K4 (.bool true)
    refine KE ?_
    refine K5 (t:=true) aY (fun _=>?_) (fun e=>by cases e)
    refine KH (KF (KG (iv 110) rfl rfl (KT rfl rfl rr) (KL ?_)))
    have aZ:=K4 (iv 110)
    refine KE (La (Ln ?_))
    exact Lq (v:=iv 110) ah rfl rfl aZ ⟨(by first|rw[show OT W H R B=0 from if_pos ⟨by assumption,by assumption,by omega,by omega,by omega,by omega⟩]|rw[show OT W H R B=110 from if_neg (by unfold Pb;rintro ⟨h1,h2,h3,h4,h5,h6⟩;first|(exact absurd h1 (by assumption))|(exact absurd h2 (by assumption))|omega)]),(((K7.tr aD).tr aF).tr aX)⟩
  ·skip
   refine KF (KG (pt p1 0) rfl rfl (KQ (n:=1) rfl ab Tryz.underlying23 rfl (by kernel_rfl) (by decide) rfl rr) (KG (iv W) rfl rfl (KR rfl rfl Tryz.underlying3 B4 rfl rfl rr) (Lw (R:=fun v_ w_=>v_ = .bool true/\KM (fun _=>False) w2 w_) rfl rfl (LE rfl rfl rfl (fun _ _=>by kernel_rfl) (K2 _) (Lj rfl LP) (PM W  _   ) (fun e_ w_ h_=>⟨_,h_.1,(congrArg Value.bool (decide_eq_true ai)),h_.2⟩)) ?_)))
   rintro _ a8 ⟨rfl,aG⟩
   have a9:=B4.all aG id
   refine KG (.bool false) rfl rfl (LT rfl rfl rfl rr) (KG (.bool false) rfl rfl (KN rfl rfl rr) (KO (pt p1 1) 4 false 7 rfl rfl rfl rfl rfl (KQ (n:=1) rfl ab Tryz.underlying23 rfl (by kernel_rfl) (by decide) rfl rr) (KO (iv H) 4 false 7 rfl rfl rfl rfl rfl (KR rfl rfl Tryz.underlying3 a9 rfl rfl rr) (Lz (R:=fun v_ w_=>v_ = .bool false/\KM (fun _=>False) a8 w_) 4 false 7 rfl rfl rfl rfl rfl (LE rfl rfl rfl (fun _ _=>by kernel_rfl) (K2 _) (Lj rfl LP) (PM H  _   ) (fun e_ w_ h_=>⟨_,h_.1,(congrArg Value.bool (decide_eq_false aj)),h_.2⟩)) ?_))))
   rintro _ bl ⟨rfl,ba⟩
   refine KO (.bool true) 4 false 7 rfl rfl rfl rfl rfl (LT rfl rfl rfl rr) (KG (.bool true) rfl rfl (K6 rfl rfl rfl rr) (KG (.bool true) rfl rfl (KN rfl rfl rr) (KI 10 false 13 rfl rfl rfl (Or.inl rfl) rfl (KI 10 false 13 rfl rfl rfl (Or.inl rfl) rfl (KI 10 false 13 rfl rfl rfl (Or.inl rfl) rfl (KI 10 false 13 rfl rfl rfl (Or.inl rfl) rfl (KG (.bool true) rfl rfl (Ld rfl rfl rfl rr) (KG (.bool true) rfl rfl (KN rfl rfl rr) (KI 16 false 19 rfl rfl rfl (Or.inl rfl) rfl (KI 16 false 19 rfl rfl rfl (Or.inl rfl) rfl (KI 16 false 19 rfl rfl rfl (Or.inl rfl) rfl ?_)))))))))))
   refine KI 16 false 19 rfl rfl rfl (Or.inl rfl) rfl (KI 16 false 19 rfl rfl rfl (Or.inl rfl) rfl (KI 16 false 19 rfl rfl rfl (Or.inl rfl) rfl (KG (.bool true) rfl rfl (Ld rfl rfl rfl rr) (KL ?_))))
   have bb:=K4 (.bool true)
   refine KE ?_
   refine K5 (t:=true) bb (fun _=>?_) (fun e=>by cases e)
   refine KH (KF (KG (iv 110) rfl rfl (KT rfl rfl rr) (KL ?_)))
   have bc:=K4 (iv 110)
   refine KE (La (Ln ?_))
   exact Lq (v:=iv 110) ah rfl rfl bc ⟨(by first|rw[show OT W H R B=0 from if_pos ⟨by assumption,by assumption,by omega,by omega,by omega,by omega⟩]|rw[show OT W H R B=110 from if_neg (by unfold Pb;rintro ⟨h1,h2,h3,h4,h5,h6⟩;first|(exact absurd h1 (by assumption))|(exact absurd h2 (by assumption))|omega)]),((K7.tr aG).tr ba)⟩
 ·skip
  refine KF (KG (pt p1 0) rfl rfl (KQ (n:=1) rfl ab Tryz.underlying23 rfl (by kernel_rfl) (by decide) rfl rr) (KG (iv W) rfl rfl (KR rfl rfl Tryz.underlying3 B4 rfl rfl rr) (Lw (R:=fun v_ w_=>v_ = .bool false/\KM (fun _=>False) w2 w_) rfl rfl (LE rfl rfl rfl (fun _ _=>by kernel_rfl) (K2 _) (Lj rfl LP) (PM W  _   ) (fun e_ w_ h_=>⟨_,h_.1,(congrArg Value.bool (decide_eq_false ai)),h_.2⟩)) ?_)))
  rintro _ bm ⟨rfl,bd⟩
  refine KG (.bool true) rfl rfl (LT rfl rfl rfl rr) (KG (.bool true) rfl rfl (KN rfl rfl rr) (KI 4 false 7 rfl rfl rfl (Or.inl rfl) rfl (KI 4 false 7 rfl rfl rfl (Or.inl rfl) rfl (KI 4 false 7 rfl rfl rfl (Or.inl rfl) rfl (KI 4 false 7 rfl rfl rfl (Or.inl rfl) rfl (KG (.bool true) rfl rfl (Ld rfl rfl rfl rr) (KG (.bool true) rfl rfl (KN rfl rfl rr) (KI 10 false 13 rfl rfl rfl (Or.inl rfl) rfl (KI 10 false 13 rfl rfl rfl (Or.inl rfl) rfl (KI 10 false 13 rfl rfl rfl (Or.inl rfl) rfl (KI 10 false 13 rfl rfl rfl (Or.inl rfl) rfl ?_)))))))))))
  refine KG (.bool true) rfl rfl (Ld rfl rfl rfl rr) (KG (.bool true) rfl rfl (KN rfl rfl rr) (KI 16 false 19 rfl rfl rfl (Or.inl rfl) rfl (KI 16 false 19 rfl rfl rfl (Or.inl rfl) rfl (KI 16 false 19 rfl rfl rfl (Or.inl rfl) rfl (KI 16 false 19 rfl rfl rfl (Or.inl rfl) rfl (KI 16 false 19 rfl rfl rfl (Or.inl rfl) rfl (KI 16 false 19 rfl rfl rfl (Or.inl rfl) rfl (KG (.bool true) rfl rfl (Ld rfl rfl rfl rr) (KL ?_)))))))))
  have be:=K4 (.bool true)
  refine KE ?_
  refine K5 (t:=true) be (fun _=>?_) (fun e=>by cases e)
  refine KH (KF (KG (iv 110) rfl rfl (KT rfl rfl rr) (KL ?_)))
  have bf:=K4 (iv 110)
  refine KE (La (Ln ?_))
  exact Lq (v:=iv 110) ah rfl rfl bf ⟨(by first|rw[show OT W H R B=0 from if_pos ⟨by assumption,by assumption,by omega,by omega,by omega,by omega⟩]|rw[show OT W H R B=110 from if_neg (by unfold Pb;rintro ⟨h1,h2,h3,h4,h5,h6⟩;first|(exact absurd h1 (by assumption))|(exact absurd h2 (by assumption))|omega)]),(K7.tr bd)⟩
theorem aBE(K Q D F:Int)(w0:World) :
  Calls Tryz.prog 57 #[.agg #[.int .i64 (K),.int .i64 (Q),.int .i64 (D),.int .i64 (F)]] w0 fun e w'=>e = .returned (.int .i64 (PI K Q D F))/\KM (fun _=>False) w0 w':=by
 refine Lp (args:=[.agg #[iv K,iv Q,iv D,iv F]]) 25 Tryz.func57 rfl rfl (Nat.le_of_ble_eq_true rfl) ?_
 refine KH (KF (Lt (vs:=[iv K,iv Q,iv D,iv F]) rfl rfl rfl rfl fun p1 w2 B4 g5 k3=>?_))
 have K7:=(KM.refl (fun _=>False) w0).tr k3
 refine KG (iv 0) rfl rfl (KT rfl rfl rr) (KL ?_)
 have ah:=K4 (undef)
 have ab:=K4 (pt p1 0)
 refine KE (KH (KH ?_))
 by_cases ai:0<=K/\K<=2
 ·skip
  by_cases aj:0<=Q/\Q<=20
  ·skip
   by_cases ak:0<=D/\D<=16777215
   ·skip
    by_cases am:0<=F/\F<=1073741824
    ·skip
     refine KF (KG (pt p1 0) rfl rfl (KQ (n:=1) rfl ab Tryz.underlying25 rfl (by kernel_rfl) (by decide) rfl rr) (KG (iv K) rfl rfl (KR rfl rfl Tryz.underlying3 B4 rfl rfl rr) (Lw (R:=fun v_ w_=>v_ = .bool true/\KM (fun _=>False) w2 w_) rfl rfl (LE rfl rfl rfl (fun _ _=>by kernel_rfl) (K2 _) (Lj rfl (Lj rfl (Lj rfl LP))) (Mz K 0 2  _   ) (fun e_ w_ h_=>⟨_,h_.1,(congrArg Value.bool (decide_eq_true ai)),h_.2⟩)) ?_)))
     rintro _ aG ⟨rfl,an⟩
     have ao:=B4.all an id
     refine KG (.bool false) rfl rfl (LT rfl rfl rfl rr) (KG (.bool false) rfl rfl (KN rfl rfl rr) (KO (pt p1 1) 4 false 7 rfl rfl rfl rfl rfl (KQ (n:=1) rfl ab Tryz.underlying25 rfl (by kernel_rfl) (by decide) rfl rr) (KO (iv Q) 4 false 7 rfl rfl rfl rfl rfl (KR rfl rfl Tryz.underlying3 ao rfl rfl rr) (Lz (R:=fun v_ w_=>v_ = .bool true/\KM (fun _=>False) aG w_) 4 false 7 rfl rfl rfl rfl rfl (LE rfl rfl rfl (fun _ _=>by kernel_rfl) (K2 _) (Lj rfl (Lj rfl (Lj rfl LP))) (Mz Q 0 20  _   ) (fun e_ w_ h_=>⟨_,h_.1,(congrArg Value.bool (decide_eq_true aj)),h_.2⟩)) ?_))))
     rintro _ aH ⟨rfl,ap⟩
     have aq:=ao.all ap id
     refine KO (.bool false) 4 false 7 rfl rfl rfl rfl rfl (LT rfl rfl rfl rr) (KG (.bool false) rfl rfl (K6 rfl rfl rfl rr) (KG (.bool false) rfl rfl (KN rfl rfl rr) (KO (pt p1 2) 10 false 13 rfl rfl rfl rfl rfl (KQ (n:=1) rfl ab Tryz.underlying25 rfl (by kernel_rfl) (by decide) rfl rr) (KO (iv D) 10 false 13 rfl rfl rfl rfl rfl (KR rfl rfl Tryz.underlying3 aq rfl rfl rr) (Lz (R:=fun v_ w_=>v_ = .bool true/\KM (fun _=>False) aH w_) 10 false 13 rfl rfl rfl rfl rfl (LE rfl rfl rfl (fun _ _=>by kernel_rfl) (K2 _) (Lj rfl (Lj rfl (Lj rfl LP))) (Mz D 0 16777215  _   ) (fun e_ w_ h_=>⟨_,h_.1,(congrArg Value.bool (decide_eq_true ak)),h_.2⟩)) ?_)))))
     rintro _ aI ⟨rfl,ar⟩
     have aJ:=aq.all ar id
     refine KO (.bool false) 10 false 13 rfl rfl rfl rfl rfl (LT rfl rfl rfl rr) (KG (.bool false) rfl rfl (K6 rfl rfl rfl rr) (KG (.bool false) rfl rfl (KN rfl rfl rr) (KO (pt p1 3) 16 false 19 rfl rfl rfl rfl rfl (KQ (n:=1) rfl ab Tryz.underlying25 rfl (by kernel_rfl) (by decide) rfl rr) (KO (iv F) 16 false 19 rfl rfl rfl rfl rfl (KR rfl rfl Tryz.underlying3 aJ rfl rfl rr) (Lz (R:=fun v_ w_=>v_ = .bool true/\KM (fun _=>False) aI w_) 16 false 19 rfl rfl rfl rfl rfl (LE rfl rfl rfl (fun _ _=>by kernel_rfl) (K2 _) (Lj rfl (Lj rfl (Lj rfl LP))) (Mz F 0 1073741824  _   ) (fun e_ w_ h_=>⟨_,h_.1,(congrArg Value.bool (decide_eq_true am)),h_.2⟩)) ?_)))))
     rintro _ bh ⟨rfl,aK⟩
     refine KO (.bool false) 16 false 19 rfl rfl rfl rfl rfl (LT rfl rfl rfl rr) (KG (.bool false) rfl rfl (K6 rfl rfl rfl rr) (KL ?_))
     have aL:=K4 (.bool false)
     refine KE ?_
     refine K5 (t:=false) aL (fun e=>by cases e) (fun _=>?_)
     refine Lf (KE (KH (KF (KG (iv 0) rfl rfl (KT rfl rfl rr) (KL ?_)))))
     have aM:=K4 (iv 0)
     refine KE (La ?_)
     exact Lq (v:=iv 0) ah rfl rfl aM ⟨(by first|rw[show PI K Q D F=0 from if_pos (by unfold Oj;omega)]|rw[show PI K Q D F=110 from if_neg (by unfold Oj;omega)]),((((K7.tr an).tr ap).tr ar).tr aK)⟩
    ·skip
     refine KF (KG (pt p1 0) rfl rfl (KQ (n:=1) rfl ab Tryz.underlying25 rfl (by kernel_rfl) (by decide) rfl rr) (KG (iv K) rfl rfl (KR rfl rfl Tryz.underlying3 B4 rfl rfl rr) (Lw (R:=fun v_ w_=>v_ = .bool true/\KM (fun _=>False) w2 w_) rfl rfl (LE rfl rfl rfl (fun _ _=>by kernel_rfl) (K2 _) (Lj rfl (Lj rfl (Lj rfl LP))) (Mz K 0 2  _   ) (fun e_ w_ h_=>⟨_,h_.1,(congrArg Value.bool (decide_eq_true ai)),h_.2⟩)) ?_)))
     rintro _ aN ⟨rfl,au⟩
     have av:=B4.all au id
     refine KG (.bool false) rfl rfl (LT rfl rfl rfl rr) (KG (.bool false) rfl rfl (KN rfl rfl rr) (KO (pt p1 1) 4 false 7 rfl rfl rfl rfl rfl (KQ (n:=1) rfl ab Tryz.underlying25 rfl (by kernel_rfl) (by decide) rfl rr) (KO (iv Q) 4 false 7 rfl rfl rfl rfl rfl (KR rfl rfl Tryz.underlying3 av rfl rfl rr) (Lz (R:=fun v_ w_=>v_ = .bool true/\KM (fun _=>False) aN w_) 4 false 7 rfl rfl rfl rfl rfl (LE rfl rfl rfl (fun _ _=>by kernel_rfl) (K2 _) (Lj rfl (Lj rfl (Lj rfl LP))) (Mz Q 0 20  _   ) (fun e_ w_ h_=>⟨_,h_.1,(congrArg Value.bool (decide_eq_true aj)),h_.2⟩)) ?_))))
     rintro _ aO ⟨rfl,aw⟩
     have az:=av.all aw id
     refine KO (.bool false) 4 false 7 rfl rfl rfl rfl rfl (LT rfl rfl rfl rr) (KG (.bool false) rfl rfl (K6 rfl rfl rfl rr) (KG (.bool false) rfl rfl (KN rfl rfl rr) (KO (pt p1 2) 10 false 13 rfl rfl rfl rfl rfl (KQ (n:=1) rfl ab Tryz.underlying25 rfl (by kernel_rfl) (by decide) rfl rr) (KO (iv D) 10 false 13 rfl rfl rfl rfl rfl (KR rfl rfl Tryz.underlying3 az rfl rfl rr) (Lz (R:=fun v_ w_=>v_ = .bool true/\KM (fun _=>False) aO w_) 10 false 13 rfl rfl rfl rfl rfl (LE rfl rfl rfl (fun _ _=>by kernel_rfl) (K2 _) (Lj rfl (Lj rfl (Lj rfl LP))) (Mz D 0 16777215  _   ) (fun e_ w_ h_=>⟨_,h_.1,(congrArg Value.bool (decide_eq_true ak)),h_.2⟩)) ?_)))))
     rintro _ aP ⟨rfl,aA⟩
     have aQ:=az.all aA id
     refine KO (.bool false) 10 false 13 rfl rfl rfl rfl rfl (LT rfl rfl rfl rr) (KG (.bool false) rfl rfl (K6 rfl rfl rfl rr) (KG (.bool false) rfl rfl (KN rfl rfl rr) (KO (pt p1 3) 16 false 19 rfl rfl rfl rfl rfl (KQ (n:=1) rfl ab Tryz.underlying25 rfl (by kernel_rfl) (by decide) rfl rr) (KO (iv F) 16 false 19 rfl rfl rfl rfl rfl (KR rfl rfl Tryz.underlying3 aQ rfl rfl rr) (Lz (R:=fun v_ w_=>v_ = .bool false/\KM (fun _=>False) aP w_) 16 false 19 rfl rfl rfl rfl rfl (LE rfl rfl rfl (fun _ _=>by kernel_rfl) (K2 _) (Lj rfl (Lj rfl (Lj rfl LP))) (Mz F 0 1073741824  _   ) (fun e_ w_ h_=>⟨_,h_.1,(congrArg Value.bool (decide_eq_false am)),h_.2⟩)) ?_)))))
     rintro _ bi ⟨rfl,aR⟩
     refine KO (.bool true) 16 false 19 rfl rfl rfl rfl rfl (LT rfl rfl rfl rr) (KG (.bool true) rfl rfl (K6 rfl rfl rfl rr) (KL ?_))
     have aS:=K4 (.bool true)
     refine KE ?_
     refine K5 (t:=true) aS (fun _=>?_) (fun e=>by cases e)
     refine KH (KF (KG (iv 110) rfl rfl (KT rfl rfl rr) (KL ?_)))
     have aT:=K4 (iv 110)
     refine KE (La (Ln ?_))
     exact Lq (v:=iv 110) ah rfl rfl aT ⟨(by first|rw[show PI K Q D F=0 from if_pos (by unfold Oj;omega)]|rw[show PI K Q D F=110 from if_neg (by unfold Oj;omega)]),((((K7.tr au).tr aw).tr aA).tr aR)⟩
   ·skip
    refine KF (KG (pt p1 0) rfl rfl (KQ (n:=1) rfl ab Tryz.underlying25 rfl (by kernel_rfl) (by decide) rfl rr) (KG (iv K) rfl rfl (KR rfl rfl Tryz.underlying3 B4 rfl rfl rr) (Lw (R:=fun v_ w_=>v_ = .bool true/\KM (fun _=>False) w2 w_) rfl rfl (LE rfl rfl rfl (fun _ _=>by kernel_rfl) (K2 _) (Lj rfl (Lj rfl (Lj rfl LP))) (Mz K 0 2  _   ) (fun e_ w_ h_=>⟨_,h_.1,(congrArg Value.bool (decide_eq_true ai)),h_.2⟩)) ?_)))
    rintro _ aU ⟨rfl,aB⟩
    have aC:=B4.all aB id
    refine KG (.bool false) rfl rfl (LT rfl rfl rfl rr) (KG (.bool false) rfl rfl (KN rfl rfl rr) (KO (pt p1 1) 4 false 7 rfl rfl rfl rfl rfl (KQ (n:=1) rfl ab Tryz.underlying25 rfl (by kernel_rfl) (by decide) rfl rr) (KO (iv Q) 4 false 7 rfl rfl rfl rfl rfl (KR rfl rfl Tryz.underlying3 aC rfl rfl rr) (Lz (R:=fun v_ w_=>v_ = .bool true/\KM (fun _=>False) aU w_) 4 false 7 rfl rfl rfl rfl rfl (LE rfl rfl rfl (fun _ _=>by kernel_rfl) (K2 _) (Lj rfl (Lj rfl (Lj rfl LP))) (Mz Q 0 20  _   ) (fun e_ w_ h_=>⟨_,h_.1,(congrArg Value.bool (decide_eq_true aj)),h_.2⟩)) ?_))))
    rintro _ aV ⟨rfl,aD⟩
    have aW:=aC.all aD id
    refine KO (.bool false) 4 false 7 rfl rfl rfl rfl rfl (LT rfl rfl rfl rr) (KG (.bool false) rfl rfl (K6 rfl rfl rfl rr) (KG (.bool false) rfl rfl (KN rfl rfl rr) (KO (pt p1 2) 10 false 13 rfl rfl rfl rfl rfl (KQ (n:=1) rfl ab Tryz.underlying25 rfl (by kernel_rfl) (by decide) rfl rr) (KO (iv D) 10 false 13 rfl rfl rfl rfl rfl (KR rfl rfl Tryz.underlying3 aW rfl rfl rr) (Lz (R:=fun v_ w_=>v_ = .bool false/\KM (fun _=>False) aV w_) 10 false 13 rfl rfl rfl rfl rfl (LE rfl rfl rfl (fun _ _=>by kernel_rfl) (K2 _) (Lj rfl (Lj rfl (Lj rfl LP))) (Mz D 0 16777215  _   ) (fun e_ w_ h_=>⟨_,h_.1,(congrArg Value.bool (decide_eq_false ak)),h_.2⟩)) ?_)))))
    rintro _ bj ⟨rfl,aX⟩
    refine KO (.bool true) 10 false 13 rfl rfl rfl rfl rfl (LT rfl rfl rfl rr) (KG (.bool true) rfl rfl (K6 rfl rfl rfl rr) (KG (.bool true) rfl rfl (KN rfl rfl rr) (KI 16 false 19 rfl rfl rfl (Or.inl rfl) rfl (KI 16 false 19 rfl rfl rfl (Or.inl rfl) rfl (KI 16 false 19 rfl rfl rfl (Or.inl rfl) rfl (KI 16 false 19 rfl rfl rfl (Or.inl rfl) rfl (KG (.bool true) rfl rfl (Ld rfl rfl rfl rr) (KL ?_))))))))
    have aY:=K4 (.bool true)
    refine KE ?_
    refine K5 (t:=true) aY (fun _=>?_) (fun e=>by cases e)
    refine KH (KF (KG (iv 110) rfl rfl (KT rfl rfl rr) (KL ?_)))
    have aZ:=K4 (iv 110)
    refine KE (La (Ln ?_))
    exact Lq (v:=iv 110) ah rfl rfl aZ ⟨(by first|rw[show PI K Q D F=0 from if_pos (by unfold Oj;omega)]|rw[show PI K Q D F=110 from if_neg (by unfold Oj;omega)]),(((K7.tr aB).tr aD).tr aX)⟩
  ·skip
   refine KF (KG (pt p1 0) rfl rfl (KQ (n:=1) rfl ab Tryz.underlying25 rfl (by kernel_rfl) (by decide) rfl rr) (KG (iv K) rfl rfl (KR rfl rfl Tryz.underlying3 B4 rfl rfl rr) (Lw (R:=fun v_ w_=>v_ = .bool true/\KM (fun _=>False) w2 w_) rfl rfl (LE rfl rfl rfl (fun _ _=>by kernel_rfl) (K2 _) (Lj rfl (Lj rfl (Lj rfl LP))) (Mz K 0 2  _   ) (fun e_ w_ h_=>⟨_,h_.1,(congrArg Value.bool (decide_eq_true ai)),h_.2⟩)) ?_)))
   rintro _ a8 ⟨rfl,aE⟩
   have a9:=B4.all aE id
   refine KG (.bool false) rfl rfl (LT rfl rfl rfl rr) (KG (.bool false) rfl rfl (KN rfl rfl rr) (KO (pt p1 1) 4 false 7 rfl rfl rfl rfl rfl (KQ (n:=1) rfl ab Tryz.underlying25 rfl (by kernel_rfl) (by decide) rfl rr) (KO (iv Q) 4 false 7 rfl rfl rfl rfl rfl (KR rfl rfl Tryz.underlying3 a9 rfl rfl rr) (Lz (R:=fun v_ w_=>v_ = .bool false/\KM (fun _=>False) a8 w_) 4 false 7 rfl rfl rfl rfl rfl (LE rfl rfl rfl (fun _ _=>by kernel_rfl) (K2 _) (Lj rfl (Lj rfl (Lj rfl LP))) (Mz Q 0 20  _   ) (fun e_ w_ h_=>⟨_,h_.1,(congrArg Value.bool (decide_eq_false aj)),h_.2⟩)) ?_))))
   rintro _ bl ⟨rfl,ba⟩
   refine KO (.bool true) 4 false 7 rfl rfl rfl rfl rfl (LT rfl rfl rfl rr) (KG (.bool true) rfl rfl (K6 rfl rfl rfl rr) (KG (.bool true) rfl rfl (KN rfl rfl rr) (KI 10 false 13 rfl rfl rfl (Or.inl rfl) rfl (KI 10 false 13 rfl rfl rfl (Or.inl rfl) rfl (KI 10 false 13 rfl rfl rfl (Or.inl rfl) rfl (KI 10 false 13 rfl rfl rfl (Or.inl rfl) rfl (KG (.bool true) rfl rfl (Ld rfl rfl rfl rr) (KG (.bool true) rfl rfl (KN rfl rfl rr) (KI 16 false 19 rfl rfl rfl (Or.inl rfl) rfl (KI 16 false 19 rfl rfl rfl (Or.inl rfl) rfl (KI 16 false 19 rfl rfl rfl (Or.inl rfl) rfl ?_)))))))))))
   refine KI 16 false 19 rfl rfl rfl (Or.inl rfl) rfl (KG (.bool true) rfl rfl (Ld rfl rfl rfl rr) (KL ?_))
   have bb:=K4 (.bool true)
   refine KE ?_
   refine K5 (t:=true) bb (fun _=>?_) (fun e=>by cases e)
   refine KH (KF (KG (iv 110) rfl rfl (KT rfl rfl rr) (KL ?_)))
   have bc:=K4 (iv 110)
   refine KE (La (Ln ?_))
   exact Lq (v:=iv 110) ah rfl rfl bc ⟨(by first|rw[show PI K Q D F=0 from if_pos (by unfold Oj;omega)]|rw[show PI K Q D F=110 from if_neg (by unfold Oj;omega)]),((K7.tr aE).tr ba)⟩
 ·skip
  refine KF (KG (pt p1 0) rfl rfl (KQ (n:=1) rfl ab Tryz.underlying25 rfl (by kernel_rfl) (by decide) rfl rr) (KG (iv K) rfl rfl (KR rfl rfl Tryz.underlying3 B4 rfl rfl rr) (Lw (R:=fun v_ w_=>v_ = .bool false/\KM (fun _=>False) w2 w_) rfl rfl (LE rfl rfl rfl (fun _ _=>by kernel_rfl) (K2 _) (Lj rfl (Lj rfl (Lj rfl LP))) (Mz K 0 2  _   ) (fun e_ w_ h_=>⟨_,h_.1,(congrArg Value.bool (decide_eq_false ai)),h_.2⟩)) ?_)))
  rintro _ bm ⟨rfl,bd⟩
  refine KG (.bool true) rfl rfl (LT rfl rfl rfl rr) (KG (.bool true) rfl rfl (KN rfl rfl rr) (KI 4 false 7 rfl rfl rfl (Or.inl rfl) rfl (KI 4 false 7 rfl rfl rfl (Or.inl rfl) rfl (KI 4 false 7 rfl rfl rfl (Or.inl rfl) rfl (KI 4 false 7 rfl rfl rfl (Or.inl rfl) rfl (KG (.bool true) rfl rfl (Ld rfl rfl rfl rr) (KG (.bool true) rfl rfl (KN rfl rfl rr) (KI 10 false 13 rfl rfl rfl (Or.inl rfl) rfl (KI 10 false 13 rfl rfl rfl (Or.inl rfl) rfl (KI 10 false 13 rfl rfl rfl (Or.inl rfl) rfl (KI 10 false 13 rfl rfl rfl (Or.inl rfl) rfl ?_)))))))))))
  refine KG (.bool true) rfl rfl (Ld rfl rfl rfl rr) (KG (.bool true) rfl rfl (KN rfl rfl rr) (KI 16 false 19 rfl rfl rfl (Or.inl rfl) rfl (KI 16 false 19 rfl rfl rfl (Or.inl rfl) rfl (KI 16 false 19 rfl rfl rfl (Or.inl rfl) rfl (KI 16 false 19 rfl rfl rfl (Or.inl rfl) rfl (KG (.bool true) rfl rfl (Ld rfl rfl rfl rr) (KL ?_)))))))
  have be:=K4 (.bool true)
  refine KE ?_
  refine K5 (t:=true) be (fun _=>?_) (fun e=>by cases e)
  refine KH (KF (KG (iv 110) rfl rfl (KT rfl rfl rr) (KL ?_)))
  have bf:=K4 (iv 110)
  refine KE (La (Ln ?_))
  exact Lq (v:=iv 110) ah rfl rfl bf ⟨(by first|rw[show PI K Q D F=0 from if_pos (by unfold Oj;omega)]|rw[show PI K Q D F=110 from if_neg (by unfold Oj;omega)]),(K7.tr bd)⟩
end Go.Proofs.YtknjpdcpmpfklaaGreatDoor
set_option maxRecDepth 100000
namespace Go.Proofs.YtknjpdcpmpfklaaGreatDoor
open Go.RowKit
theorem PY:Qs Tryz.prog 65 3:=⟨_,Tryz.underlying65,rfl,by kernel_rfl⟩
theorem VD:Qs Tryz.prog 58 2:=⟨_,Tryz.underlying58,rfl,by kernel_rfl⟩
theorem S9:Qs Tryz.prog 59 6:=⟨_,Tryz.underlying59,rfl,by kernel_rfl⟩
theorem aBT{W:Int}(h0:0<=W):Int.tdiv W 2=W/2:=Int.tdiv_eq_ediv_of_nonneg h0
theorem aBZ{W:Int}{p:Nat}(h0:0<=W)(hp:p≠0):Int.tdiv (W/2) 4=((Li W p:Nat):Int):=by
 rw[Int.tdiv_eq_ediv_of_nonneg (by omega)];unfold Li;rw[if_neg hp];omega
theorem Sh(W H R B:Int)(f:FD)(f0 f1 f2:Value)(T_f0:Nat->Prop)(T_f1:Nat->Prop)(T_f2:Nat->Prop)(w0:World)(h_f0:L7 w0 T_f0 f0 ((f).p0))(h_f1:L7 w0 T_f1 f1 ((f).p1))(h_f2:L7 w0 T_f2 f2 ((f).p2)) :
  Calls Tryz.prog 16 #[.agg #[.int .i64 (W),.int .i64 (H),.int .i64 (R),.int .i64 (B)],.agg #[.int .i64 ((f).W),.int .i64 ((f).H),f0,f1,f2]] w0 fun e w'=>e = .returned (.bool (decide (MQ W H R B f)))/\KM (fun _=>False) w0 w':=by
 refine Lp (args:=[.agg #[iv W,iv H,iv R,iv B],.agg #[iv (f.W),iv (f.H),f0,f1,f2]]) 27 Tryz.func16 rfl rfl (Nat.le_of_ble_eq_true rfl) ?_
 have g_f0:=KP.refl w0 T_f0
 have g_f1:=KP.refl w0 T_f1
 have g_f2:=KP.refl w0 T_f2
 refine KH (KF (Lt (vs:=[iv W,iv H,iv R,iv B]) rfl rfl rfl rfl fun p1 w2 B4 g5 k3=>?_))
 obtain⟨aH,aI,aJ⟩:=Nx k3 h_f0 h_f1 h_f2
 refine Lt (vs:=[iv (f.W),iv (f.H),f0,f1,f2]) rfl rfl rfl rfl fun af bh ak bi ar=>?_
 obtain⟨am,an,ao,ab⟩:=OS ar aH aI aJ B4
 have ah:=((KM.refl (fun _=>False) w0).tr k3).tr ar
 refine KG (.bool false) rfl rfl (KT rfl rfl rr) (KL ?_)
 have ai:=K4 (undef)
 have aa:=K4 (pt p1 0)
 have ac:=K4 (pt af 0)
 refine KE (KH ?_)
 by_cases aj:(OT W H R B)=0
 ·skip
  by_cases ap:(Np f)=0
  ·skip
   by_cases au:W=(f.W)
   ·skip
    refine KF (KG (.agg #[iv W,iv H,iv R,iv B]) rfl rfl (KU Mv rfl aa ab rr) (LV rfl rfl rfl rfl rfl (fun _ _=>by kernel_rfl) (Lj rfl LP) (U2 W H R B  _   ) fun aK av=>?_))
    obtain⟨aL,aM,aN,aO,aw⟩:=OR av am an ao ab ak
    refine KG (.bool true) rfl rfl (LZ rfl rfl rfl (decide_eq_true aj) rr) (KG (.bool true) rfl rfl (KN rfl rfl rr) (KO (.agg #[iv (f.W),iv (f.H),f0,f1,f2]) 3 true 8 rfl rfl rfl rfl rfl (KU KZ rfl ac aw rr) (Lz (R:=fun v_ w_=>v_=iv (Np f)/\KM (fun _=>False) aK w_) 3 true 8 rfl rfl rfl rfl rfl (LE rfl rfl rfl (fun _ _=>by kernel_rfl) (K2 _) (Lj rfl LP) (M8 f f0 f1 f2 T_f0 T_f1 T_f2 _  aL aM aN ) (fun e_ w_ h_=>⟨_,h_.1,rfl,h_.2⟩)) ?_)))
    rintro _ bj ⟨rfl,az⟩
    obtain⟨aA,aB⟩:=NL az aO aw
    refine KO (.bool true) 3 true 8 rfl rfl rfl rfl rfl (LZ rfl rfl rfl (decide_eq_true ap) rr) (KG (.bool true) rfl rfl (Ld rfl rfl rfl rr) (KG (.bool true) rfl rfl (KN rfl rfl rr) (KO (pt p1 0) 8 true 13 rfl rfl rfl rfl rfl (KQ (n:=1) rfl aa Tryz.underlying23 rfl (by kernel_rfl) (by decide) rfl rr) (KO (iv W) 8 true 13 rfl rfl rfl rfl rfl (KR rfl rfl Tryz.underlying3 aA rfl rfl rr) (KO (pt af 0) 8 true 13 rfl rfl rfl rfl rfl (KQ (n:=1) rfl ac Tryz.underlying29 rfl (by kernel_rfl) (by decide) rfl rr) (KO (iv (f.W)) 8 true 13 rfl rfl rfl rfl rfl (KR rfl rfl Tryz.underlying3 aB rfl rfl rr) (KO (.bool true) 8 true 13 rfl rfl rfl rfl rfl (LZ rfl rfl rfl (decide_eq_true au) rr) (KG (.bool true) rfl rfl (Ld rfl rfl rfl rr) (KG (.bool true) rfl rfl (KN rfl rfl rr) (KO (pt p1 1) 15 true 20 rfl rfl rfl rfl rfl (KQ (n:=1) rfl aa Tryz.underlying23 rfl (by kernel_rfl) (by decide) rfl rr) (KO (iv H) 15 true 20 rfl rfl rfl rfl rfl (KR rfl rfl Tryz.underlying3 aA rfl rfl rr) ?_)))))))))))
    refine KO (pt af 1) 15 true 20 rfl rfl rfl rfl rfl (KQ (n:=1) rfl ac Tryz.underlying29 rfl (by kernel_rfl) (by decide) rfl rr) (KO (iv (f.H)) 15 true 20 rfl rfl rfl rfl rfl (KR rfl rfl Tryz.underlying3 aB rfl rfl rr) (KO (.bool (decide (H=(f.H)))) 15 true 20 rfl rfl rfl rfl rfl (LZ rfl rfl rfl rfl rr) (KG (.bool (decide (H=(f.H)))) rfl rfl (Ld rfl rfl rfl rr) (KG (.bool (decide (H=(f.H)))) rfl rfl (KT rfl rfl rr) (KL ?_)))))
    have aP:=K4 (.bool (decide (H=(f.H))))
    refine KE (La ?_)
    exact Lq (v:=.bool (decide (H=(f.H)))) ai rfl rfl aP ⟨(O8 (Tc (by simp_all))),((ah.tr av).tr az)⟩
   ·skip
    refine KF (KG (.agg #[iv W,iv H,iv R,iv B]) rfl rfl (KU Mv rfl aa ab rr) (LV rfl rfl rfl rfl rfl (fun _ _=>by kernel_rfl) (Lj rfl LP) (U2 W H R B  _   ) fun aQ aC=>?_))
    obtain⟨aR,aS,aT,aU,aD⟩:=OR aC am an ao ab ak
    refine KG (.bool true) rfl rfl (LZ rfl rfl rfl (decide_eq_true aj) rr) (KG (.bool true) rfl rfl (KN rfl rfl rr) (KO (.agg #[iv (f.W),iv (f.H),f0,f1,f2]) 3 true 8 rfl rfl rfl rfl rfl (KU KZ rfl ac aD rr) (Lz (R:=fun v_ w_=>v_=iv (Np f)/\KM (fun _=>False) aQ w_) 3 true 8 rfl rfl rfl rfl rfl (LE rfl rfl rfl (fun _ _=>by kernel_rfl) (K2 _) (Lj rfl LP) (M8 f f0 f1 f2 T_f0 T_f1 T_f2 _  aR aS aT ) (fun e_ w_ h_=>⟨_,h_.1,rfl,h_.2⟩)) ?_)))
    rintro _ bl ⟨rfl,aE⟩
    obtain⟨aV,aW⟩:=NL aE aU aD
    refine KO (.bool true) 3 true 8 rfl rfl rfl rfl rfl (LZ rfl rfl rfl (decide_eq_true ap) rr) (KG (.bool true) rfl rfl (Ld rfl rfl rfl rr) (KG (.bool true) rfl rfl (KN rfl rfl rr) (KO (pt p1 0) 8 true 13 rfl rfl rfl rfl rfl (KQ (n:=1) rfl aa Tryz.underlying23 rfl (by kernel_rfl) (by decide) rfl rr) (KO (iv W) 8 true 13 rfl rfl rfl rfl rfl (KR rfl rfl Tryz.underlying3 aV rfl rfl rr) (KO (pt af 0) 8 true 13 rfl rfl rfl rfl rfl (KQ (n:=1) rfl ac Tryz.underlying29 rfl (by kernel_rfl) (by decide) rfl rr) (KO (iv (f.W)) 8 true 13 rfl rfl rfl rfl rfl (KR rfl rfl Tryz.underlying3 aW rfl rfl rr) (KO (.bool false) 8 true 13 rfl rfl rfl rfl rfl (LZ rfl rfl rfl (decide_eq_false au) rr) (KG (.bool false) rfl rfl (Ld rfl rfl rfl rr) (KG (.bool false) rfl rfl (KN rfl rfl rr) (KI 15 true 20 rfl rfl rfl (Or.inl rfl) rfl (KI 15 true 20 rfl rfl rfl (Or.inl rfl) rfl ?_)))))))))))
    refine KI 15 true 20 rfl rfl rfl (Or.inl rfl) rfl (KI 15 true 20 rfl rfl rfl (Or.inl rfl) rfl (KI 15 true 20 rfl rfl rfl (Or.inl rfl) rfl (KG (.bool false) rfl rfl (K6 rfl rfl rfl rr) (KG (.bool false) rfl rfl (KT rfl rfl rr) (KL ?_)))))
    have aX:=K4 (.bool false)
    refine KE (La ?_)
    exact Lq (v:=.bool false) ai rfl rfl aX ⟨(O8 (Tc (by simp_all))),((ah.tr aC).tr aE)⟩
  ·skip
   refine KF (KG (.agg #[iv W,iv H,iv R,iv B]) rfl rfl (KU Mv rfl aa ab rr) (LV rfl rfl rfl rfl rfl (fun _ _=>by kernel_rfl) (Lj rfl LP) (U2 W H R B  _   ) fun aY aF=>?_))
   obtain⟨aZ,a8,a9,ba⟩:=OS aF am an ao ak
   refine KG (.bool true) rfl rfl (LZ rfl rfl rfl (decide_eq_true aj) rr) (KG (.bool true) rfl rfl (KN rfl rfl rr) (KO (.agg #[iv (f.W),iv (f.H),f0,f1,f2]) 3 true 8 rfl rfl rfl rfl rfl (KU KZ rfl ac ba rr) (Lz (R:=fun v_ w_=>v_=iv (Np f)/\KM (fun _=>False) aY w_) 3 true 8 rfl rfl rfl rfl rfl (LE rfl rfl rfl (fun _ _=>by kernel_rfl) (K2 _) (Lj rfl LP) (M8 f f0 f1 f2 T_f0 T_f1 T_f2 _  aZ a8 a9 ) (fun e_ w_ h_=>⟨_,h_.1,rfl,h_.2⟩)) ?_)))
   rintro _ bm ⟨rfl,bb⟩
   refine KO (.bool false) 3 true 8 rfl rfl rfl rfl rfl (LZ rfl rfl rfl (decide_eq_false ap) rr) (KG (.bool false) rfl rfl (Ld rfl rfl rfl rr) (KG (.bool false) rfl rfl (KN rfl rfl rr) (KI 8 true 13 rfl rfl rfl (Or.inl rfl) rfl (KI 8 true 13 rfl rfl rfl (Or.inl rfl) rfl (KI 8 true 13 rfl rfl rfl (Or.inl rfl) rfl (KI 8 true 13 rfl rfl rfl (Or.inl rfl) rfl (KI 8 true 13 rfl rfl rfl (Or.inl rfl) rfl (KG (.bool false) rfl rfl (K6 rfl rfl rfl rr) (KG (.bool false) rfl rfl (KN rfl rfl rr) (KI 15 true 20 rfl rfl rfl (Or.inl rfl) rfl (KI 15 true 20 rfl rfl rfl (Or.inl rfl) rfl ?_)))))))))))
   refine KI 15 true 20 rfl rfl rfl (Or.inl rfl) rfl (KI 15 true 20 rfl rfl rfl (Or.inl rfl) rfl (KI 15 true 20 rfl rfl rfl (Or.inl rfl) rfl (KG (.bool false) rfl rfl (K6 rfl rfl rfl rr) (KG (.bool false) rfl rfl (KT rfl rfl rr) (KL ?_)))))
   have bc:=K4 (.bool false)
   refine KE (La ?_)
   exact Lq (v:=.bool false) ai rfl rfl bc ⟨(O8 (Tc (by simp_all))),((ah.tr aF).tr bb)⟩
 ·skip
  refine KF (KG (.agg #[iv W,iv H,iv R,iv B]) rfl rfl (KU Mv rfl aa ab rr) (LV rfl rfl rfl rfl rfl (fun _ _=>by kernel_rfl) (Lj rfl LP) (U2 W H R B  _   ) fun bn bd=>?_))
  refine KG (.bool false) rfl rfl (LZ rfl rfl rfl (decide_eq_false aj) rr) (KG (.bool false) rfl rfl (KN rfl rfl rr) (KI 3 true 8 rfl rfl rfl (Or.inl rfl) rfl (KI 3 true 8 rfl rfl rfl (Or.inl rfl) rfl (KI 3 true 8 rfl rfl rfl (Or.inl rfl) rfl (KG (.bool false) rfl rfl (K6 rfl rfl rfl rr) (KG (.bool false) rfl rfl (KN rfl rfl rr) (KI 8 true 13 rfl rfl rfl (Or.inl rfl) rfl (KI 8 true 13 rfl rfl rfl (Or.inl rfl) rfl (KI 8 true 13 rfl rfl rfl (Or.inl rfl) rfl (KI 8 true 13 rfl rfl rfl (Or.inl rfl) rfl (KI 8 true 13 rfl rfl rfl (Or.inl rfl) rfl ?_)))))))))))
  refine KG (.bool false) rfl rfl (K6 rfl rfl rfl rr) (KG (.bool false) rfl rfl (KN rfl rfl rr) (KI 15 true 20 rfl rfl rfl (Or.inl rfl) rfl (KI 15 true 20 rfl rfl rfl (Or.inl rfl) rfl (KI 15 true 20 rfl rfl rfl (Or.inl rfl) rfl (KI 15 true 20 rfl rfl rfl (Or.inl rfl) rfl (KI 15 true 20 rfl rfl rfl (Or.inl rfl) rfl (KG (.bool false) rfl rfl (K6 rfl rfl rfl rr) (KG (.bool false) rfl rfl (KT rfl rfl rr) (KL ?_)))))))))
  have be:=K4 (.bool false)
  refine KE (La ?_)
  exact Lq (v:=.bool false) ai rfl rfl be ⟨(O8 (Tc (by simp_all))),(ah.tr bd)⟩
def QW(W H R B K Q D F:Int):Int:=if QJ W H R B K Q D F then 0 else 110
theorem NS{W H R B K Q D F:Int}(h:¬ QJ W H R B K Q D F):QW W H R B K Q D F=110:=if_neg h
theorem aAU{W H R B K Q D F:Int}(h:QJ W H R B K Q D F):QW W H R B K Q D F=0:=if_pos h
theorem Y9{W H R B K Q D F:Int}(h:QW W H R B K Q D F=0):QJ W H R B K Q D F:=Decidable.byContradiction fun hn=>by rw[NS hn] at h;cases h
theorem Za{W H R B K Q D F:Int}(h:QW W H R B K Q D F≠0):¬ QJ W H R B K Q D F:=fun hm=>h (aAU hm)
theorem azn{W H R B:Int}(h:OT W H R B≠0):OT W H R B=110:=by unfold OT at h ⊢;split at h <;> first|exact absurd rfl h|(rename_i hn;exact if_neg hn)
theorem XI{W H R B K Q D F:Int}(h:OT W H R B=0):QW W H R B K Q D F=PI K Q D F:=by
 have hs:=aCp h
 unfold QW PI
 by_cases hh:Oj K Q D F
 ·rw[if_pos hh,if_pos ⟨hs,hh⟩]
 ·rw[if_neg hh,if_neg (fun z=>hh z.2)]
theorem Zn{W H R B K Q D F:Int}(h:OT W H R B≠0):QW W H R B K Q D F=OT W H R B:=by
 rw[azn h,NS]
 intro z;exact h (if_pos z.1)
theorem X8(W H R B K Q D F:Int)(w0:World) :
  Calls Tryz.prog 26 #[.agg #[.int .i64 (W),.int .i64 (H),.int .i64 (R),.int .i64 (B)],.agg #[.int .i64 (K),.int .i64 (Q),.int .i64 (D),.int .i64 (F)]] w0 fun e w'=>e = .returned (.int .i64 (QW W H R B K Q D F))/\KM (fun _=>False) w0 w':=by
 refine Lp (args:=[.agg #[iv W,iv H,iv R,iv B],.agg #[iv K,iv Q,iv D,iv F]]) 13 Tryz.func26 rfl rfl (Nat.le_of_ble_eq_true rfl) ?_
 refine KH (KF (Lt (vs:=[iv W,iv H,iv R,iv B]) rfl rfl rfl rfl fun p1 w2 B4 g5 k3=>?_))
 refine Lt (vs:=[iv K,iv Q,iv D,iv F]) rfl rfl rfl rfl fun p8 w9 an aD ab=>?_
 have ao:=B4.all ab id
 refine KG (iv 0) rfl rfl (KT rfl rfl rr) (KL ?_)
 have ac:=K4 (undef)
 have ap:=K4 (pt p1 0)
 have aq:=K4 (pt p8 0)
 refine KE (KH (KH (KF (KG (.agg #[iv W,iv H,iv R,iv B]) rfl rfl (KU Mv rfl ap ao rr) (LV rfl rfl rfl rfl rfl (fun _ _=>by kernel_rfl) (Lj rfl LP) (U2 W H R B  _   ) fun aE ae=>?_)))))
 have ar:=an.all ae id
 have af:=(((KM.refl (fun _=>False) w0).tr k3).tr ab).tr ae
 refine KG (iv (OT W H R B)) rfl rfl (KT rfl rfl rr) (KL ?_)
 have ah:=K4 (iv (OT W H R B))
 refine KE (KH (KF (KS rfl rfl rfl ah (KG (.bool (decide ((OT W H R B)≠0))) rfl rfl (L9 rfl rfl rfl rfl rr) (KL ?_)))))
 have au:=K4 (.bool (decide ((OT W H R B)≠0)))
 refine KE ?_
 refine K5 au (fun aa=>?_) (fun aa=>?_)
 ·replace aa:=of_decide_eq_true aa
  refine KH (KF (KS rfl rfl rfl ah (KG (iv (OT W H R B)) rfl rfl (KT rfl rfl rr) (KL ?_))))
  have av:=K4 (iv (OT W H R B))
  refine KE (La (Ln ?_))
  exact Lq (v:=iv (OT W H R B)) ac rfl rfl av ⟨(by first|rw[Zn (by assumption)]|rw[XI (by first|assumption|(apply Decidable.byContradiction;assumption))]),af⟩
 ·replace aa:=of_decide_eq_false aa
  refine Lf (KE (KH (KF (KG (.agg #[iv K,iv Q,iv D,iv F]) rfl rfl (KU Pj rfl aq ar rr) (LV rfl rfl rfl rfl rfl (fun _ _=>by kernel_rfl) (Lj rfl LP) (aBE K Q D F  _   ) fun aF aw=>?_)))))
  refine KG (iv (PI K Q D F)) rfl rfl (KT rfl rfl rr) (KL ?_)
  have az:=K4 (iv (PI K Q D F))
  refine KE (La ?_)
  exact Lq (v:=iv (PI K Q D F)) ac rfl rfl az ⟨(by first|rw[Zn (by assumption)]|rw[XI (by first|assumption|(apply Decidable.byContradiction;assumption))]),(af.tr aw)⟩
theorem aAu(W H R B K:Int)(g:FD)(g0 g1 g2:Value)(h:FD)(h0 h1 h2:Value)(T_g0:Nat->Prop)(T_g1:Nat->Prop)(T_g2:Nat->Prop)(T_h0:Nat->Prop)(T_h1:Nat->Prop)(T_h2:Nat->Prop)(w0:World)(h_g0:L7 w0 T_g0 g0 ((g).p0))(h_g1:L7 w0 T_g1 g1 ((g).p1))(h_g2:L7 w0 T_g2 g2 ((g).p2))(h_h0:L7 w0 T_h0 h0 ((h).p0))(h_h1:L7 w0 T_h1 h1 ((h).p1))(h_h2:L7 w0 T_h2 h2 ((h).p2)) :
  Calls Tryz.prog 41 #[.agg #[.int .i64 (W),.int .i64 (H),.int .i64 (R),.int .i64 (B)],.int .i64 (K),.agg #[.int .i64 ((g).W),.int .i64 ((g).H),g0,g1,g2],.agg #[.int .i64 ((h).W),.int .i64 ((h).H),h0,h1,h2]] w0 fun e w'=>e = .returned (.bool (decide (¬ ((K≠0/\¬ MQ W H R B g)\/(K=2/\¬ MQ W H R B h)))))/\KM (fun _=>False) w0 w':=by
 refine Lp (args:=[.agg #[iv W,iv H,iv R,iv B],iv K,.agg #[iv (g.W),iv (g.H),g0,g1,g2],.agg #[iv (h.W),iv (h.H),h0,h1,h2]]) 25 Tryz.func41 rfl rfl (Nat.le_of_ble_eq_true rfl) ?_
 have g_g0:=KP.refl w0 T_g0
 have g_g1:=KP.refl w0 T_g1
 have g_g2:=KP.refl w0 T_g2
 have g_h0:=KP.refl w0 T_h0
 have g_h1:=KP.refl w0 T_h1
 have g_h2:=KP.refl w0 T_h2
 refine KH (KF (Lt (vs:=[iv W,iv H,iv R,iv B]) rfl rfl rfl rfl fun p1 w2 B4 g5 k3=>?_))
 obtain⟨aH,aI,aJ,aK,aL,aM⟩:=Qt k3 h_g0 h_g1 h_g2 h_h0 h_h1 h_h2
 refine Lt (vs:=[iv (g.W),iv (g.H),g0,g1,g2]) rfl rfl rfl rfl fun aN bn aO bo ar=>?_
 obtain⟨aP,aQ,aR,aS,aT,aU,aV⟩:=Sl ar aH aI aJ aK aL aM B4
 refine Lt (vs:=[iv (h.W),iv (h.H),h0,h1,h2]) rfl rfl rfl rfl fun aW ai au bp av=>?_
 obtain⟨ak,am,an,aw,az,aA,ab,ao⟩:=Xz av aP aQ aR aS aT aU aV aO
 have ac:=(((KM.refl (fun _=>False) w0).tr k3).tr ar).tr av
 refine KG (.bool false) rfl rfl (KT rfl rfl rr) (KL ?_)
 have aa:=K4 (iv K)
 have ae:=K4 (undef)
 have af:=K4 (pt p1 0)
 have ap:=K4 (pt aN 0)
 have aB:=K4 (pt aW 0)
 refine KE (KH ?_)
 by_cases ah:K=0
 ·skip
  by_cases aC:K≠2
  ·skip
   refine KF (KS rfl rfl rfl aa (KG (.bool true) rfl rfl (LZ rfl rfl rfl (decide_eq_true ah) rr) (KG (.bool true) rfl rfl (KN rfl rfl rr) (KI 2 false 11 rfl rfl rfl (Or.inl rfl) rfl (KI 2 false 11 rfl rfl rfl (Or.inl rfl) rfl (KI 2 false 11 rfl rfl rfl (Or.inl rfl) rfl (KG (.bool true) rfl rfl (Ld rfl rfl rfl rr) (KG (.bool true) rfl rfl (KN rfl rfl rr) (KO (iv K) 7 true 16 rfl rfl rfl rfl rfl (KN rfl aa rr) (KO (.bool true) 7 true 16 rfl rfl rfl rfl rfl (L9 rfl rfl rfl (decide_eq_true aC) rr) (KO (.bool true) 7 true 16 rfl rfl rfl rfl rfl (KN rfl rfl rr) ?_)))))))))))
   refine KI 10 false 19 rfl rfl rfl (Or.inl rfl) rfl (KI 10 false 19 rfl rfl rfl (Or.inl rfl) rfl (KI 10 false 19 rfl rfl rfl (Or.inl rfl) rfl (KO (.bool true) 7 true 16 rfl rfl rfl rfl rfl (Ld rfl rfl rfl rr) (KG (.bool true) rfl rfl (Ld rfl rfl rfl rr) (KG (.bool true) rfl rfl (KT rfl rfl rr) (KL ?_))))))
   have aX:=K4 (.bool true)
   refine KE (La ?_)
   exact Lq (v:=.bool true) ae rfl rfl aX ⟨(O8 (by first|(simp[*];done)|(simp_all;done)|(simp_all;omega))),ac⟩
  ·skip
   refine KF (KS rfl rfl rfl aa (KG (.bool true) rfl rfl (LZ rfl rfl rfl (decide_eq_true ah) rr) (KG (.bool true) rfl rfl (KN rfl rfl rr) (KI 2 false 11 rfl rfl rfl (Or.inl rfl) rfl (KI 2 false 11 rfl rfl rfl (Or.inl rfl) rfl (KI 2 false 11 rfl rfl rfl (Or.inl rfl) rfl (KG (.bool true) rfl rfl (Ld rfl rfl rfl rr) (KG (.bool true) rfl rfl (KN rfl rfl rr) (KO (iv K) 7 true 16 rfl rfl rfl rfl rfl (KN rfl aa rr) (KO (.bool false) 7 true 16 rfl rfl rfl rfl rfl (L9 rfl rfl rfl (decide_eq_false aC) rr) (KO (.bool false) 7 true 16 rfl rfl rfl rfl rfl (KN rfl rfl rr) ?_)))))))))))
   refine KO (.agg #[iv W,iv H,iv R,iv B]) 10 false 19 rfl rfl rfl rfl rfl (KU Mv rfl af ab rr) (KO (.agg #[iv (h.W),iv (h.H),h0,h1,h2]) 10 false 19 rfl rfl rfl rfl rfl (KU KZ rfl aB au rr) (Lz (R:=fun v_ w_=>v_ = .bool (decide (MQ W H R B h))/\KM (fun _=>False) ai w_) 10 false 19 rfl rfl rfl rfl rfl (LE rfl rfl rfl (fun _ _=>by kernel_rfl) (K2 _) (Lj rfl (Lj rfl LP)) (Sh W H R B h h0 h1 h2 T_h0 T_h1 T_h2 _  aw az aA ) (fun e_ w_ h_=>⟨_,h_.1,rfl,h_.2⟩)) ?_))
   rintro _ bq ⟨rfl,aY⟩
   refine KO (.bool (decide (MQ W H R B h))) 7 true 16 rfl rfl rfl rfl rfl (K6 rfl rfl rfl rr) (KG (.bool (decide (MQ W H R B h))) rfl rfl (Ld rfl rfl rfl rr) (KG (.bool (decide (MQ W H R B h))) rfl rfl (KT rfl rfl rr) (KL ?_)))
   have aZ:=K4 (.bool (decide (MQ W H R B h)))
   refine KE (La ?_)
   exact Lq (v:=.bool (decide (MQ W H R B h))) ae rfl rfl aZ ⟨(O8 (by first|(simp[*];done)|(simp_all;done)|(simp_all;omega))),(ac.tr aY)⟩
 ·skip
  rcases Bool.eq_false_or_eq_true (decide (MQ W H R B g)) with aj|aj
  ·skip
   by_cases aD:K≠2
   ·skip
    refine KF (KS rfl rfl rfl aa (KG (.bool false) rfl rfl (LZ rfl rfl rfl (decide_eq_false ah) rr) (KG (.bool false) rfl rfl (KN rfl rfl rr) (KO (.agg #[iv W,iv H,iv R,iv B]) 2 false 11 rfl rfl rfl rfl rfl (KU Mv rfl af ab rr) (KO (.agg #[iv (g.W),iv (g.H),g0,g1,g2]) 2 false 11 rfl rfl rfl rfl rfl (KU KZ rfl ap ao rr) (Lz (R:=fun v_ w_=>v_ = .bool true/\KM (fun _=>False) ai w_) 2 false 11 rfl rfl rfl rfl rfl (LE rfl rfl rfl (fun _ _=>by kernel_rfl) (K2 _) (Lj rfl (Lj rfl LP)) (Sh W H R B g g0 g1 g2 T_g0 T_g1 T_g2 _  ak am an ) (fun e_ w_ h_=>⟨_,h_.1,(congrArg Value.bool aj),h_.2⟩)) ?_))))))
    rintro _ bt ⟨rfl,a8⟩
    refine KG (.bool true) rfl rfl (K6 rfl rfl rfl rr) (KG (.bool true) rfl rfl (KN rfl rfl rr) (KO (iv K) 7 true 16 rfl rfl rfl rfl rfl (KN rfl aa rr) (KO (.bool true) 7 true 16 rfl rfl rfl rfl rfl (L9 rfl rfl rfl (decide_eq_true aD) rr) (KO (.bool true) 7 true 16 rfl rfl rfl rfl rfl (KN rfl rfl rr) (KI 10 false 19 rfl rfl rfl (Or.inl rfl) rfl (KI 10 false 19 rfl rfl rfl (Or.inl rfl) rfl (KI 10 false 19 rfl rfl rfl (Or.inl rfl) rfl (KO (.bool true) 7 true 16 rfl rfl rfl rfl rfl (Ld rfl rfl rfl rr) (KG (.bool true) rfl rfl (Ld rfl rfl rfl rr) (KG (.bool true) rfl rfl (KT rfl rfl rr) (KL ?_)))))))))))
    have a9:=K4 (.bool true)
    refine KE (La ?_)
    exact Lq (v:=.bool true) ae rfl rfl a9 ⟨(O8 (by first|(simp[*];done)|(simp_all;done)|(simp_all;omega))),(ac.tr a8)⟩
   ·skip
    refine KF (KS rfl rfl rfl aa (KG (.bool false) rfl rfl (LZ rfl rfl rfl (decide_eq_false ah) rr) (KG (.bool false) rfl rfl (KN rfl rfl rr) (KO (.agg #[iv W,iv H,iv R,iv B]) 2 false 11 rfl rfl rfl rfl rfl (KU Mv rfl af ab rr) (KO (.agg #[iv (g.W),iv (g.H),g0,g1,g2]) 2 false 11 rfl rfl rfl rfl rfl (KU KZ rfl ap ao rr) (Lz (R:=fun v_ w_=>v_ = .bool true/\KM (fun _=>False) ai w_) 2 false 11 rfl rfl rfl rfl rfl (LE rfl rfl rfl (fun _ _=>by kernel_rfl) (K2 _) (Lj rfl (Lj rfl LP)) (Sh W H R B g g0 g1 g2 T_g0 T_g1 T_g2 _  ak am an ) (fun e_ w_ h_=>⟨_,h_.1,(congrArg Value.bool aj),h_.2⟩)) ?_))))))
    rintro _ ba ⟨rfl,aE⟩
    obtain⟨bb,bc,bd,be,bf⟩:=OR aE aw az aA ab au
    refine KG (.bool true) rfl rfl (K6 rfl rfl rfl rr) (KG (.bool true) rfl rfl (KN rfl rfl rr) (KO (iv K) 7 true 16 rfl rfl rfl rfl rfl (KN rfl aa rr) (KO (.bool false) 7 true 16 rfl rfl rfl rfl rfl (L9 rfl rfl rfl (decide_eq_false aD) rr) (KO (.bool false) 7 true 16 rfl rfl rfl rfl rfl (KN rfl rfl rr) (KO (.agg #[iv W,iv H,iv R,iv B]) 10 false 19 rfl rfl rfl rfl rfl (KU Mv rfl af be rr) (KO (.agg #[iv (h.W),iv (h.H),h0,h1,h2]) 10 false 19 rfl rfl rfl rfl rfl (KU KZ rfl aB bf rr) (Lz (R:=fun v_ w_=>v_ = .bool (decide (MQ W H R B h))/\KM (fun _=>False) ba w_) 10 false 19 rfl rfl rfl rfl rfl (LE rfl rfl rfl (fun _ _=>by kernel_rfl) (K2 _) (Lj rfl (Lj rfl LP)) (Sh W H R B h h0 h1 h2 T_h0 T_h1 T_h2 _  bb bc bd ) (fun e_ w_ h_=>⟨_,h_.1,rfl,h_.2⟩)) ?_)))))))
    rintro _ bu ⟨rfl,bg⟩
    refine KO (.bool (decide (MQ W H R B h))) 7 true 16 rfl rfl rfl rfl rfl (K6 rfl rfl rfl rr) (KG (.bool (decide (MQ W H R B h))) rfl rfl (Ld rfl rfl rfl rr) (KG (.bool (decide (MQ W H R B h))) rfl rfl (KT rfl rfl rr) (KL ?_)))
    have bh:=K4 (.bool (decide (MQ W H R B h)))
    refine KE (La ?_)
    exact Lq (v:=.bool (decide (MQ W H R B h))) ae rfl rfl bh ⟨(O8 (by first|(simp[*];done)|(simp_all;done)|(simp_all;omega))),((ac.tr aE).tr bg)⟩
  ·skip
   refine KF (KS rfl rfl rfl aa (KG (.bool false) rfl rfl (LZ rfl rfl rfl (decide_eq_false ah) rr) (KG (.bool false) rfl rfl (KN rfl rfl rr) (KO (.agg #[iv W,iv H,iv R,iv B]) 2 false 11 rfl rfl rfl rfl rfl (KU Mv rfl af ab rr) (KO (.agg #[iv (g.W),iv (g.H),g0,g1,g2]) 2 false 11 rfl rfl rfl rfl rfl (KU KZ rfl ap ao rr) (Lz (R:=fun v_ w_=>v_ = .bool false/\KM (fun _=>False) ai w_) 2 false 11 rfl rfl rfl rfl rfl (LE rfl rfl rfl (fun _ _=>by kernel_rfl) (K2 _) (Lj rfl (Lj rfl LP)) (Sh W H R B g g0 g1 g2 T_g0 T_g1 T_g2 _  ak am an ) (fun e_ w_ h_=>⟨_,h_.1,(congrArg Value.bool aj),h_.2⟩)) ?_))))))
   rintro _ bv ⟨rfl,bi⟩
   refine KG (.bool false) rfl rfl (K6 rfl rfl rfl rr) (KG (.bool false) rfl rfl (KN rfl rfl rr) (KI 7 true 16 rfl rfl rfl (Or.inl rfl) rfl (KI 7 true 16 rfl rfl rfl (Or.inl rfl) rfl (KI 7 true 16 rfl rfl rfl (Or.inl rfl) rfl (KI 10 false 19 rfl rfl rfl (Or.inr rfl) rfl (KI 10 false 19 rfl rfl rfl (Or.inr rfl) rfl (KI 10 false 19 rfl rfl rfl (Or.inr rfl) rfl (KI 7 true 16 rfl rfl rfl (Or.inl rfl) rfl (KG (.bool false) rfl rfl (K6 rfl rfl rfl rr) (KG (.bool false) rfl rfl (KT rfl rfl rr) (KL ?_)))))))))))
   have bj:=K4 (.bool false)
   refine KE (La ?_)
   exact Lq (v:=.bool false) ae rfl rfl bj ⟨(O8 (by first|(simp[*];done)|(simp_all;done)|(simp_all;omega))),(ac.tr bi)⟩
theorem Sg(W H R B:Int)(p:Nat)(w0:World)(hs:Pb W H R B) :
  Calls Tryz.prog 58 #[.agg #[.int .i64 (W),.int .i64 (H),.int .i64 (R),.int .i64 (B)],.int .i64 (((p:Nat):Int))] w0 fun e w'=>e = .returned (.tuple #[.int .i64 (((Li W p:Nat):Int)),.int .i64 (((Li H p:Nat):Int))])/\KM (fun _=>False) w0 w':=by
 refine Lp (args:=[.agg #[iv W,iv H,iv R,iv B],iv ((p:Nat):Int)]) 22 Tryz.func58 rfl rfl (Nat.le_of_ble_eq_true rfl) ?_
 have hsd:=R5 hs
 have hpw:=Oz (W:=W) (p:=p) hsd.2.1
 have hph:=Oz (W:=H) (p:=p) hsd.2.2.2.2.1
 refine KH (KF (Lt (vs:=[iv W,iv H,iv R,iv B]) rfl rfl rfl rfl fun p1 w2 B4 g5 k3=>?_))
 have K7:=(KM.refl (fun _=>False) w0).tr k3
 refine KG (iv 0) rfl rfl (KT rfl rfl rr) (KG (iv 0) rfl rfl (KT rfl rfl rr) (KL ?_))
 have aq:=K4 (iv ((p:Nat):Int))
 have am:=K4 (undef)
 have ae:=K4 (pt p1 0)
 refine KE (KH (KH (KF (KS rfl rfl rfl aq (KG (.bool (decide (((p:Nat):Int)=0))) rfl rfl (LZ rfl rfl rfl rfl rr) (KL ?_))))))
 have ar:=K4 (.bool (decide (((p:Nat):Int)=0)))
 refine KE ?_
 refine K5 ar (fun ab=>?_) (fun ab=>?_)
 ·replace ab:=of_decide_eq_true ab
  refine KH ?_
  refine Ri [some 8,some 9,some 10,some 11,some 12,some 13,some 4,some 5] [Pd.eq (pt p1 0),Pd.eq (iv W),Pd.eq (iv ((Li W p:Nat):Int)),Pd.eq (pt p1 1),Pd.eq (iv H),Pd.eq (iv ((Li H p:Nat):Int)),Pd.eq (iv ((Li W p:Nat):Int)),Pd.eq (iv ((Li H p:Nat):Int))] (by kernel_rfl) (by kernel_rfl) ?_ ?_
  ·refine KK ?_ ?_
   ·refine Lb.one rfl fun F_ w_ hR hout hD=>?_
    exact(KQ (n:=1) rfl ((hout 2 rfl (by decide)).trans ae) Tryz.underlying23 rfl (by kernel_rfl) (by decide) rfl ⟨rfl,KM.refl _ _⟩)
   refine KK ?_ ?_
   ·refine Lb.one rfl fun F_ w_ hR hout hD=>?_
    have g8:F_ 8=pt p1 0:=(hD.get 0 rfl rfl rfl)
    exact(KR rfl g8 Tryz.underlying3 (B4.all hR id) rfl rfl ⟨rfl,KM.refl _ _⟩)
   refine KK ?_ ?_
   ·refine Lb.one rfl fun F_ w_ hR hout hD=>?_
    have g9:F_ 9=iv W:=(hD.get 0 rfl rfl rfl)
    exact(P7 rfl g9 rfl (by first|decide|omega) (L5 (aBQ (by omega) (by omega)) (by omega)) ⟨rfl,KM.refl _ _⟩)
   refine KK ?_ ?_
   ·refine Lb.one rfl fun F_ w_ hR hout hD=>?_
    exact(KQ (n:=1) rfl ((hout 2 rfl (by decide)).trans ae) Tryz.underlying23 rfl (by kernel_rfl) (by decide) rfl ⟨rfl,KM.refl _ _⟩)
   refine KK ?_ ?_
   ·refine Lb.one rfl fun F_ w_ hR hout hD=>?_
    have aw:F_ 11=pt p1 1:=(hD.get 0 rfl rfl rfl)
    exact(KR rfl aw Tryz.underlying3 (B4.all hR id) rfl rfl ⟨rfl,KM.refl _ _⟩)
   refine KK ?_ ?_
   ·refine Lb.one rfl fun F_ w_ hR hout hD=>?_
    have az:F_ 12=iv H:=(hD.get 0 rfl rfl rfl)
    exact(P7 rfl az rfl (by first|decide|omega) (L5 (aBQ (by omega) (by omega)) (by omega)) ⟨rfl,KM.refl _ _⟩)
   refine KK ?_ ?_
   ·refine Lb.one rfl fun F_ w_ hR hout hD=>?_
    have aA:F_ 10=iv ((Li W p:Nat):Int):=(hD.get 0 rfl rfl rfl)
    exact(KT rfl aA ⟨rfl,KM.refl _ _⟩)
   refine KK ?_ ?_
   ·refine Lb.one rfl fun F_ w_ hR hout hD=>?_
    have aB:F_ 13=iv ((Li H p:Nat):Int):=(hD.get 0 rfl rfl rfl)
    exact(KT rfl aB ⟨rfl,KM.refl _ _⟩)
   exact L0
  intro aU an aV aC ai af
  have aD:=(af 22).trans am
  have aE:an 4=iv ((Li W p:Nat):Int):=(af 4).trans (ai 6 (by decide))
  have aF:an 5=iv ((Li H p:Nat):Int):=(af 5).trans (ai 7 (by decide))
  clear ai af
  refine KE (La (Ln ?_))
  exact L4 aD rfl (Lu (v:=iv ((Li W p:Nat):Int)) rfl aE) (Lu (v:=iv ((Li H p:Nat):Int)) rfl aF) ⟨rfl,(K7.tr aC)⟩
 ·replace ab:=of_decide_eq_false ab
  refine Lf (KE (KH ?_))
  refine Ri [some 14,some 15,some 16,some 17,some 18,some 19,some 20,some 21,some 4,some 5] [Pd.eq (pt p1 0),Pd.eq (iv W),Pd.eq (iv (W/2)),Pd.eq (iv ((Li W p:Nat):Int)),Pd.eq (pt p1 1),Pd.eq (iv H),Pd.eq (iv (H/2)),Pd.eq (iv ((Li H p:Nat):Int)),Pd.eq (iv ((Li W p:Nat):Int)),Pd.eq (iv ((Li H p:Nat):Int))] (by kernel_rfl) (by kernel_rfl) ?_ ?_
  ·refine KK ?_ ?_
   ·refine Lb.one rfl fun F_ w_ hR hout hD=>?_
    exact(KQ (n:=1) rfl ((hout 2 rfl (by decide)).trans ae) Tryz.underlying23 rfl (by kernel_rfl) (by decide) rfl ⟨rfl,KM.refl _ _⟩)
   refine KK ?_ ?_
   ·refine Lb.one rfl fun F_ w_ hR hout hD=>?_
    have aG:F_ 14=pt p1 0:=(hD.get 0 rfl rfl rfl)
    exact(KR rfl aG Tryz.underlying3 (B4.all hR id) rfl rfl ⟨rfl,KM.refl _ _⟩)
   refine KK ?_ ?_
   ·refine Lb.one rfl fun F_ w_ hR hout hD=>?_
    have aH:F_ 15=iv W:=(hD.get 0 rfl rfl rfl)
    exact(P7 rfl aH rfl (by first|decide|omega) (Ma (aBT (by omega)) (by omega)) ⟨rfl,KM.refl _ _⟩)
   refine KK ?_ ?_
   ·refine Lb.one rfl fun F_ w_ hR hout hD=>?_
    have aI:F_ 16=iv (W/2):=(hD.get 0 rfl rfl rfl)
    exact(P7 rfl aI rfl (by first|decide|omega) (L5 (aBZ (by omega) (by omega)) (by omega)) ⟨rfl,KM.refl _ _⟩)
   refine KK ?_ ?_
   ·refine Lb.one rfl fun F_ w_ hR hout hD=>?_
    exact(KQ (n:=1) rfl ((hout 2 rfl (by decide)).trans ae) Tryz.underlying23 rfl (by kernel_rfl) (by decide) rfl ⟨rfl,KM.refl _ _⟩)
   refine KK ?_ ?_
   ·refine Lb.one rfl fun F_ w_ hR hout hD=>?_
    have aJ:F_ 18=pt p1 1:=(hD.get 0 rfl rfl rfl)
    exact(KR rfl aJ Tryz.underlying3 (B4.all hR id) rfl rfl ⟨rfl,KM.refl _ _⟩)
   refine KK ?_ ?_
   ·refine Lb.one rfl fun F_ w_ hR hout hD=>?_
    have aK:F_ 19=iv H:=(hD.get 0 rfl rfl rfl)
    exact(P7 rfl aK rfl (by first|decide|omega) (Ma (aBT (by omega)) (by omega)) ⟨rfl,KM.refl _ _⟩)
   refine KK ?_ ?_
   ·refine Lb.one rfl fun F_ w_ hR hout hD=>?_
    have aL:F_ 20=iv (H/2):=(hD.get 0 rfl rfl rfl)
    exact(P7 rfl aL rfl (by first|decide|omega) (L5 (aBZ (by omega) (by omega)) (by omega)) ⟨rfl,KM.refl _ _⟩)
   refine KK ?_ ?_
   ·refine Lb.one rfl fun F_ w_ hR hout hD=>?_
    have aM:F_ 17=iv ((Li W p:Nat):Int):=(hD.get 0 rfl rfl rfl)
    exact(KT rfl aM ⟨rfl,KM.refl _ _⟩)
   refine KK ?_ ?_
   ·refine Lb.one rfl fun F_ w_ hR hout hD=>?_
    have aN:F_ 21=iv ((Li H p:Nat):Int):=(hD.get 0 rfl rfl rfl)
    exact(KT rfl aN ⟨rfl,KM.refl _ _⟩)
   exact L0
  intro aW ao aX aO aj ah
  have aP:=(ah 22).trans am
  have aQ:ao 4=iv ((Li W p:Nat):Int):=(ah 4).trans (aj 8 (by decide))
  have aR:ao 5=iv ((Li H p:Nat):Int):=(ah 5).trans (aj 9 (by decide))
  clear aj ah
  refine KE (La ?_)
  exact L4 aP rfl (Lu (v:=iv ((Li W p:Nat):Int)) rfl aQ) (Lu (v:=iv ((Li H p:Nat):Int)) rfl aR) ⟨rfl,(K7.tr aO)⟩
def ZF(f g h:FD)(p x y:Int)(c:Ch)(q:Int):Int:=if Tx f g h p (4*x) (4*y) c=0 then Qv q else Tx f g h p (4*x) (4*y) c
def VT(f g h:FD)(p x y:Int)(c:Ch)(q:Int):Nat->Int:=if Tx f g h p (4*x) (4*y) c=0 then buB (Xe f g h p (4*x) (4*y) c) c.b q else fun _=>0
theorem aza{f g h:FD}{p x y:Int}{c:Ch}{q:Int}(e:Tx f g h p (4*x) (4*y) c=0):ZF f g h p x y c q=Qv q/\VT f g h p x y c q=buB (Xe f g h p (4*x) (4*y) c) c.b q:=⟨if_pos e,if_pos e⟩
theorem aDe{f g h:FD}{p x y:Int}{c:Ch}{q:Int}(e:Tx f g h p (4*x) (4*y) c≠0):ZF f g h p x y c q=Tx f g h p (4*x) (4*y) c/\VT f g h p x y c q=fun _=>0:=⟨if_neg e,if_neg e⟩
theorem aBz(p x y q:Int)(c:Ch)(f:FD)(f0 f1 f2:Value)(g:FD)(g0 g1 g2:Value)(h:FD)(h0 h1 h2:Value)(T_f0:Nat->Prop)(T_f1:Nat->Prop)(T_f2:Nat->Prop)(T_g0:Nat->Prop)(T_g1:Nat->Prop)(T_g2:Nat->Prop)(T_h0:Nat->Prop)(T_h1:Nat->Prop)(T_h2:Nat->Prop)(w0:World)(hA:NM w0)(hs:NU w0)(hw:Qr w0)(hx:0<=x/\x<=16)(hy:0<=y/\y<=256)(h_f0:L7 w0 T_f0 f0 ((f).p0))(h_f1:L7 w0 T_f1 f1 ((f).p1))(h_f2:L7 w0 T_f2 f2 ((f).p2))(h_g0:L7 w0 T_g0 g0 ((g).p0))(h_g1:L7 w0 T_g1 g1 ((g).p1))(h_g2:L7 w0 T_g2 g2 ((g).p2))(h_h0:L7 w0 T_h0 h0 ((h).p0))(h_h1:L7 w0 T_h1 h1 ((h).p1))(h_h2:L7 w0 T_h2 h2 ((h).p2)) :
  Calls Tryz.prog 42 #[.agg #[.int .i64 ((f).W),.int .i64 ((f).H),f0,f1,f2],.agg #[.int .i64 ((g).W),.int .i64 ((g).H),g0,g1,g2],.agg #[.int .i64 ((h).W),.int .i64 ((h).H),h0,h1,h2],.agg #[.int .i64 (p),.int .i64 (x),.int .i64 (y)],.agg (OZ (c)).toArray,.int .i64 (q)] w0 fun e w'=>e = .returned (.tuple #[LH (VT f g h p x y c q),.int .i64 (ZF f g h p x y c q)])/\KM (fun _=>False) w0 w':=by
 refine Lp (args:=[.agg #[iv (f.W),iv (f.H),f0,f1,f2],.agg #[iv (g.W),iv (g.H),g0,g1,g2],.agg #[iv (h.W),iv (h.H),h0,h1,h2],.agg #[iv p,iv x,iv y],.agg (OZ c).toArray,iv q]) 42 Tryz.func42 rfl rfl (Nat.le_of_ble_eq_true rfl) ?_
 have g_f0:=KP.refl w0 T_f0
 have g_f1:=KP.refl w0 T_f1
 have g_f2:=KP.refl w0 T_f2
 have g_g0:=KP.refl w0 T_g0
 have g_g1:=KP.refl w0 T_g1
 have g_g2:=KP.refl w0 T_g2
 have g_h0:=KP.refl w0 T_h0
 have g_h1:=KP.refl w0 T_h1
 have g_h2:=KP.refl w0 T_h2
 refine KH (KF (Lt (vs:=[iv (f.W),iv (f.H),f0,f1,f2]) rfl rfl rfl rfl fun p1 w2 B4 g5 k3=>?_))
 obtain⟨aQ,aR,aS,aT,aU,aV,aW,aX,aY⟩:=YM k3 h_f0 h_f1 h_f2 h_g0 h_g1 h_g2 h_h0 h_h1 h_h2
 refine Lt (vs:=[iv (g.W),iv (g.H),g0,g1,g2]) rfl rfl rfl rfl fun aZ cT a8 cU ak=>?_
 obtain⟨a9,ba,bb,bc,bd,be,bf,bg,bh,bi⟩:=RG ak aQ aR aS aT aU aV aW aX aY B4
 refine Lt (vs:=[iv (h.W),iv (h.H),h0,h1,h2]) rfl rfl rfl rfl fun bj cV bl cW am=>?_
 obtain⟨bm,bn,bo,bp,bq,bt,bu,bv,bz,bA,bB⟩:=N5 am a9 ba bb bc bd be bf bg bh bi a8
 refine Lt (vs:=[iv p,iv x,iv y]) rfl rfl rfl rfl fun ab cX bC cY an=>?_
 obtain⟨bD,bE,bF,bG,bH,bI,bJ,bK,bL,bM,bN,bO⟩:=azx an bm bn bo bp bq bt bu bv bz bA bB bl
 refine Lt (vs:=(OZ c)) rfl rfl rfl rfl fun ao cZ bP c5 ap=>?_
 obtain⟨bQ,bR,bS,bT,bU,bV,bW,bX,bY,bZ,b7,b8,b9⟩:=Xx ap bD bE bF bG bH bI bJ bK bL bM bN bO bC
 have aq:=(((((KM.refl (fun _=>False) w0).tr k3).tr ak).tr am).tr an).tr ap
 refine LY rfl rfl rfl KW.2.2 fun ar c6 au cd av=>?_
 have aw:=LS (Nat.le_of_eq au.symm)
 have az:=KP.new aq aw
 clear au aw
 obtain⟨ce,cf,cg,ci,cj,cm,cn,co,cq,cr,ct,cu,af,aA⟩:=OW av bQ bR bS bT bU bV bW bX bY bZ b7 b8 b9 bP
 have aB:=aq.tr av
 refine KG (iv 0) rfl rfl (KT rfl rfl rr) (KL ?_)
 have cv:=K4 (iv q)
 have aC:=K4 (undef)
 have cw:=K4 (pt p1 0)
 have cy:=K4 (pt aZ 0)
 have cz:=K4 (pt bj 0)
 have ah:=K4 (pt ab 0)
 have aD:=K4 (pt ao 0)
 have ac:=K4 (pt ar 0)
 refine KE (KH (KF (KG (.agg #[iv (f.W),iv (f.H),f0,f1,f2]) rfl rfl (KU KZ rfl cw cr rr) (KG (.agg #[iv (g.W),iv (g.H),g0,g1,g2]) rfl rfl (KU KZ rfl cy ct rr) (KG (.agg #[iv (h.W),iv (h.H),h0,h1,h2]) rfl rfl (KU KZ rfl cz cu rr) (KG (pt ab 0) rfl rfl (KQ (n:=1) rfl ah Tryz.underlying65 rfl (by kernel_rfl) (by decide) rfl rr) (KG (iv p) rfl rfl (KR rfl rfl Tryz.underlying3 af rfl rfl rr) (KG (pt ab 1) rfl rfl (KQ (n:=1) rfl ah Tryz.underlying65 rfl (by kernel_rfl) (by decide) rfl rr) (KG (iv x) rfl rfl (KR rfl rfl Tryz.underlying3 af rfl rfl rr) (KG (iv (4*x)) rfl rfl (ND rfl rfl rfl (Ma rfl (by omega)) rr) (KG (pt ab 2) rfl rfl (KQ (n:=1) rfl ah Tryz.underlying65 rfl (by kernel_rfl) (by decide) rfl rr) ?_)))))))))))
 refine KG (iv y) rfl rfl (KR rfl rfl Tryz.underlying3 af rfl rfl rr) (KG (iv (4*y)) rfl rfl (ND rfl rfl rfl (Ma rfl (by omega)) rr) (KG (.agg (OZ c).toArray) rfl rfl (KU LD rfl aD aA rr) (LV rfl rfl rfl rfl rfl (fun _ _=>by kernel_rfl) (Lj rfl (Lj rfl (Lj rfl (Lj rfl (Lj rfl (Lj rfl (Lj rfl LP))))))) (Yl p (4*x) (4*y) c f f0 f1 f2 g g0 g1 g2 h h0 h1 h2 T_f0 T_f1 T_f2 T_g0 T_g1 T_g2 T_h0 T_h1 T_h2 _ (hA.all aB) ce cf cg ci cj cm cn co cq ) fun c7 aE=>?_)))
 obtain⟨aF,aG⟩:=NL aE aA cd
 have aH:=aB.tr aE
 refine KG (.tuple #[LH (Xe f g h p (4*x) (4*y) c),iv (Tx f g h p (4*x) (4*y) c)]) rfl rfl (KN rfl rfl rr) (KG (LH (Xe f g h p (4*x) (4*y) c)) rfl rfl (LI rfl rfl rfl rr) (KG (iv (Tx f g h p (4*x) (4*y) c)) rfl rfl (LI rfl rfl rfl rr) (LY rfl rfl rfl KW.2.2 fun cA c9 aI cB aJ=>?_)))
 have aK:=LS (Nat.le_of_eq aI.symm)
 obtain⟨cC,cD⟩:=TI aK aF aG
 clear aI
 obtain⟨cE,cF⟩:=NL aJ aF aG
 refine Lm KW rfl rfl rfl rfl rfl cB fun da cG ai=>?_
 have cH:=cE.all ai (cC.symm ao rfl)
 have aL:=cF.all ai (cD.symm ar rfl)
 have ae:=(aH.tr aJ).trans ai (KP.ok (S:=fun _=>False) (KP.new aH aK) K3)
 refine KG (iv (Tx f g h p (4*x) (4*y) c)) rfl rfl (KT rfl rfl rr) (KL ?_)
 have cI:=K4 (pt cA 0)
 have aM:=K4 (iv (Tx f g h p (4*x) (4*y) c))
 refine KE (KH (KH (KF (KS rfl rfl rfl aM (KG (.bool (decide ((Tx f g h p (4*x) (4*y) c)≠0))) rfl rfl (L9 rfl rfl rfl rfl rr) (KL ?_))))))
 have cJ:=K4 (.bool (decide ((Tx f g h p (4*x) (4*y) c)≠0)))
 refine KE ?_
 refine K5 cJ (fun aa=>?_) (fun aa=>?_)
 ·replace aa:=of_decide_eq_true aa
  refine KH ?_
  have hR:=aDe (q:=q) (show Tx f g h p (4*x) (4*y) c≠0 from by assumption)
  refine KF (KG (LH (fun _=>0)) rfl rfl (Mt (cells:=(L6 16 (fun _=>0)).toArray) rfl (by kernel_rfl) rfl rr) (KS rfl rfl rfl aM (Lm KW rfl rfl rfl ac rfl aL fun db cK cL=>?_)))
  refine KG (iv (Tx f g h p (4*x) (4*y) c)) rfl rfl (KT rfl rfl rr) (KL ?_)
  have cM:=K4 (iv (Tx f g h p (4*x) (4*y) c))
  refine KE (La (Ln ?_))
  exact L4 aC rfl (Mn KW rfl ac cK) (Lu (v:=iv (Tx f g h p (4*x) (4*y) c)) rfl cM) ⟨(by rw[hR.1,hR.2] <;> rfl),(ae.trans cL (KP.ok (S:=fun _=>False) az K3))⟩
 ·replace aa:=of_decide_eq_false aa
  refine Lf (KE (KH ?_))
  have hR:=aza (q:=q) (show Tx f g h p (4*x) (4*y) c=0 from by first|assumption|(apply Decidable.byContradiction;assumption))
  refine KF (KG (LH (Xe f g h p (4*x) (4*y) c)) rfl rfl (LX KW rfl cI cG rr) (KG (.agg (OZ c).toArray) rfl rfl (KU LD rfl aD cH rr) (KS rfl rfl rfl cv (LV rfl rfl rfl rfl rfl (fun _ _=>by kernel_rfl) (Lj rfl (Lj rfl (Lj rfl LP))) (ay8 (Xe f g h p (4*x) (4*y) c) c q  _ (hs.all ae) (hw.all ae)  ) fun dc aN=>?_))))
  have cN:=aL.all aN id
  refine KG (LH (buB (Xe f g h p (4*x) (4*y) c) c.b q)) rfl rfl (LI rfl rfl rfl rr) (KG (iv (Qv q)) rfl rfl (LI rfl rfl rfl rr) (Lm KW rfl rfl rfl ac rfl cN fun dd cO cP=>?_))
  refine KG (iv (Qv q)) rfl rfl (KT rfl rfl rr) (KL ?_)
  have cQ:=K4 (iv (Qv q))
  refine KE (La ?_)
  exact L4 aC rfl (Mn KW rfl ac cO) (Lu (v:=iv (Qv q)) rfl cQ) ⟨(by rw[hR.1,hR.2] <;> rfl),((ae.tr aN).trans cP (KP.ok (S:=fun _=>False) az K3))⟩
end Go.Proofs.YtknjpdcpmpfklaaGreatDoor
set_option maxRecDepth 100000
namespace Go.Proofs.YtknjpdcpmpfklaaGreatDoor
open Go.RowKit
theorem Ym{lo:Option Nat}{P:Program}{ops:Array Oper}{Q:Exit->Act->World->Prop}{a0:Act}(D:List (Option Tmp))(J:(Nat->Bool)->(Nat->Value)->World->Prop)
  (hpl:plain a0.tmps.size 0 D ops.toList=true) (hsteps:QD ops.toList P D J a0 0 ops.toList)
  (hend:∀ (L:Nat->Bool) (v:Nat->Value) (w:World),J L v w->(∀ i,i<ops.size->L i=true)->Q .normal (Mo v 0 D a0) w) :
  ∀ (fuel:Nat) (listed:Array Bool) (v:Nat->Value) (a:Act) (w:World),ZL ops D J a0 v listed a w->(fuel=0->Region.ready .any ops listed=[]) →
   (List.range ops.size).countP (fun i => !listed.getD i false)<=fuel->wpAnyIn (VV lo) 0 P .any ops Q fuel listed a w:=by
 obtain⟨hDl,hpa⟩:=RW hpl
 have hlen:D.length=ops.size:=by simpa using hDl
 have hback:∀ (k:Nat) (o:Oper),ops[k]? = some o->∀ e∈o.after.toList,Region.binds .any e=true->e.on<k:=by
  intro k o hk e he hb
  have:=(hpa k o (by simpa using hk)).2.2 e he hb
  omega
 have fin:∀ (listed:Array Bool) (v:Nat->Value) (a:Act) (w:World),ZL ops D J a0 v listed a w->Region.ready .any ops listed=[]->Q .normal a w:=by
  intro listed v a w hm hr
  have hall:=Qm hback hr hm.ls
  have hp:=O1 v D 0 a0
  have ha:a=Mo v 0 D a0:=by
   have ht:a.tmps=(Mo v 0 D a0).tmps:=by
    apply Array.ext
    ·rw[hm.size,hp.1]
    ·intro t h1 h2
     have e:a.tmps.getD t undef=(Mo v 0 D a0).tmps.getD t undef:=by
      by_cases hmem:some t∈D
      ·obtain⟨j,hj⟩:=List.mem_iff_getElem?.1 hmem
       have hjs:j<ops.size:=by rw[← hlen];exact(List.getElem?_eq_some_iff.1 hj).1
       obtain⟨g1,g2,_⟩:=hpa j ops[j] (by simp[hjs])
       have hdst:ops[j].dst=some t:=by rw[hj] at g1;exact(Option.some.inj g1).symm
       obtain⟨k1,k2⟩:=g2 t hdst
       rw[hm.here j t (hall j hjs) hj,hp.2.2.2 j t hj k2 k1,Nat.zero_add]
      ·rw[hp.2.2.1 t hmem,hm.out t (fun j _ hj=>hmem (List.mem_of_getElem? hj))]
     simpa [Array.getD_eq_getD_getElem?,h1,h2] using e
   have hd:a.defers=(Mo v 0 D a0).defers:=by rw[hm.defers,hp.2.1]
   cases a
   cases hq:Mo v 0 D a0
   rw[hq] at ht hd
   simp only at ht hd
   rw[ht,hd]
  rw[ha]
  exact hend _ v w hm.good hall
 intro fuel
 induction fuel with
 | zero =>
  intro listed v a w hm h0 _
  exact⟨h0 rfl,fin listed v a w hm (h0 rfl)⟩
 | succ fuel ih =>
  intro listed v a w hm _ hcount
  refine⟨fin listed v a w hm,fun i hi=>?_⟩
  obtain⟨hlt,hnl,o,ho,haft⟩:=M5 hi
  have hlsz:i<listed.size:=by rw[hm.ls];exact hlt
  have hnl':listed.getD i false=false:=by simpa [Array.getD,hlsz] using hnl
  obtain⟨g1,g2,g3⟩:=hpa i o (by simpa using ho)
  have hstep:=hsteps.at i o (by simpa using ho)
  rw[Nat.zero_add] at hstep
  have hout:∀ t,some t∉D->a.eval (.tmp t)=a0.eval (.tmp t):=fun t ht=>hm.out t (fun j _ hj=>ht (List.mem_of_getElem? hj))
  have hlate:∀ t,ay4 ops.toList t i=true->a.eval (.tmp t)=a0.eval (.tmp t):=by
   intro t ht
   refine hm.out t fun j hj hD=>?_
   have hjs:j<ops.size:=by rw[← hlen];exact(List.getElem?_eq_some_iff.1 hD).1
   obtain⟨k1,_,_⟩:=hpa j ops[j] (by simp[hjs])
   have hdst:ops[j].dst=some t:=by rw[hD] at k1;exact(Option.some.inj k1).symm
   unfold ay4 at ht
   have h1:=List.all_eq_true.1 ht ops[j] (by simp)
   simp only[hdst,bne_self_eq_false,Bool.false_or] at h1
   obtain⟨e,he,hb⟩:=List.any_eq_true.1 h1
   simp only[Bool.and_eq_true,beq_iff_eq] at hb
   have h2:=hm.cl j ops[j] (by simp[hjs]) hj e he hb.1
   rw[hb.2,hnl'] at h2
   cases h2
  obtain⟨s1,s2⟩:=hstep (fun j=>listed.getD j false) v a w hm.good hnl' haft hout (fun j d hj hD=>hm.here j d hj hD) hlate
  -- what is left when it answers x in the world w'
  have next:∀ (x:Value) (w':World),J (Ra (fun j=>listed.getD j false) i) (UN v i x) w'->wpAnyIn (VV lo) 0 P .any ops Q fuel (listed.setIfInBounds i true) (a.put o.dst x) w':=by
   intro x w' hJ
   have hcnt:(List.range ops.size).countP (fun j => !(listed.setIfInBounds i true).getD j false)<=fuel:=by
    have h1:(List.range ops.size).countP (fun j => !(listed.setIfInBounds i true).getD j false)<(List.range ops.size).countP (fun j => !listed.getD j false):=by
     have hmemi:i∈List.range ops.size:=by simpa using hlt
     have key:∀ (l:List Nat),i∈l->(∀ j,(!(listed.setIfInBounds i true).getD j false)=true->(!listed.getD j false)=true)->l.countP (fun j => !(listed.setIfInBounds i true).getD j false)<l.countP (fun j => !listed.getD j false):=by
      intro l
      induction l with
      | nil=>intro h;cases h
      | cons y r ihl =>
       intro hy himp
       have hle:r.countP (fun j => !(listed.setIfInBounds i true).getD j false)<=r.countP (fun j => !listed.getD j false):=List.countP_mono_left fun j _ hj=>himp j hj
       by_cases hyi:y=i
       ·subst hyi
        have e1:(!(listed.setIfInBounds y true).getD y false)=false:=by rw[Ls _ _ _ hlsz,if_pos rfl];rfl
        have e2:(!listed.getD y false)=true:=by rw[hnl'];rfl
        rw[List.countP_cons,List.countP_cons]
        simp only[e1,e2,if_true,Bool.false_eq_true,if_false]
        omega
       ·have hir:i∈r:=by
         rcases List.mem_cons.1 hy with h|h
         ·exact absurd h.symm hyi
         ·exact h
        have:=ihl hir himp
        rw[List.countP_cons,List.countP_cons]
        have e3:(listed.setIfInBounds i true).getD y false=listed.getD y false:=by rw[Ls _ _ _ hlsz,if_neg hyi]
        rw[e3];omega
     refine key _ hmemi fun j hj=>?_
     rw[Ls _ _ _ hlsz] at hj
     by_cases hji:j=i
     ·rw[if_pos hji] at hj;cases hj
     ·rwa [if_neg hji] at hj
    omega
   have hmid:ZL ops D J a0 (UN v i x) (listed.setIfInBounds i true) (a.put o.dst x) w':=by
    refine⟨?_,by simpa using hm.ls,?_,?_,?_,?_,?_⟩
    ·rw[← hm.size];cases o.dst <;> simp[Act.put]
    ·rw[← hm.defers];cases o.dst <;> rfl
    ·intro t ht
     have hold:=hm.out t (fun j hj=>ht j (by rw[Ls _ _ _ hlsz];split <;> first|rfl|exact hj))
     have hne:o.dst≠some t:=by
      intro e
      exact ht i (by rw[Ls _ _ _ hlsz,if_pos rfl]) (by rw[g1,e])
     rw[← hold]
     cases hd:o.dst with
     | none=>rfl
     | some d =>
      have:d≠t:=fun e=>hne (by rw[hd,e])
      simp only[Act.put,Array.getD_eq_getD_getElem?,Array.getElem?_setIfInBounds_ne this]
    ·intro j d hj hD
     by_cases hji:j=i
     ·subst hji
      have hd:o.dst=some d:=by rw[g1] at hD;exact Option.some.inj hD
      have hsz:d<a.tmps.size:=by rw[hm.size];exact(g2 d hd).1
      simp[hd,Act.put,Array.getD_eq_getD_getElem?,hsz,UN]
     ·rw[Ls _ _ _ hlsz,if_neg hji] at hj
      have hold:=hm.here j d hj hD
      rw[show UN v i x j=v j from if_neg hji,← hold]
      cases hd:o.dst with
      | none=>rfl
      | some y =>
       have hne:y≠d:=by
        rintro rfl
        rw[hd] at g1
        rcases Nat.lt_or_gt_of_ne hji with hlt2|hgt2
        ·have hjs:j<ops.size:=by rw[← hlen];exact(List.getElem?_eq_some_iff.1 hD).1
         obtain⟨k1,k2,_⟩:=hpa j ops[j] (by simp[hjs])
         have hdst:ops[j].dst=some y:=by rw[hD] at k1;exact(Option.some.inj k1).symm
         exact(k2 y hdst).2 i hlt2 g1
        ·exact(g2 y hd).2 j hgt2 hD
       simp only[Act.put,Array.getD_eq_getD_getElem?,Array.getElem?_setIfInBounds_ne hne]
    ·have e:(fun j=>(listed.setIfInBounds i true).getD j false)=Ra (fun j=>listed.getD j false) i:=by
      funext j;exact Ls _ _ _ hlsz
     rw[e];exact hJ
    ·intro k o' hk hl e he hb
     rw[Ls _ _ _ hlsz] at hl ⊢
     by_cases hee:e.on=i
     ·rw[if_pos hee]
     ·rw[if_neg hee]
      by_cases hki:k=i
      ·subst hki
       rw[ho] at hk
       cases hk
       exact haft e he hb
      ·rw[if_neg hki] at hl
       exact hm.cl k o' hk hl e he hb
   refine ih _ _ _ _ hmid ?_ hcnt
   intro hz
   subst hz
   have hz0:(List.range ops.size).countP (fun j => !(listed.setIfInBounds i true).getD j false)=0:=by omega
   rw[List.countP_eq_zero] at hz0
   cases hr:Region.ready .any ops (listed.setIfInBounds i true) with
   | nil=>rfl
   | cons y r =>
    have hy:y∈Region.ready .any ops (listed.setIfInBounds i true):=by rw[hr];simp
    obtain⟨q1,q2,_⟩:=M5 hy
    have:=hz0 y (by simpa using q1)
    have hys:y<(listed.setIfInBounds i true).size:=by simp[hm.ls];exact q1
    have q3:(listed.setIfInBounds i true).getD y false=false:=by rw[← Pf _ y hys];exact q2
    rw[q3] at this
    exact absurd rfl this
  have hwant:Region.wanted o (yielded ops a.tmps)=PU D o a:=by
   unfold Region.wanted PU
   cases hg:o.guard with
   | none=>rfl
   | some p =>
    obtain⟨j,want⟩:=p
    simp only[yielded]
    by_cases hj:j<ops.size
    ·obtain⟨k1,k2,_⟩:=hpa j ops[j] (by simp[hj])
     have hDj:D.getD j none=ops[j].dst:=by simp[List.getD,k1]
     rw[hDj]
     simp only[Array.getElem?_eq_getElem hj,Option.bind_some]
     cases hd:ops[j].dst with
     | none=>simp
     | some d =>
      have hsz:d<a.tmps.size:=by rw[hm.size];exact(k2 d hd).1
      simp only[Option.bind_some,Array.getElem?_eq_getElem hsz]
      have he:a.eval (.tmp d)=a.tmps[d]:=by simp[Act.eval,Array.getD,hsz]
      rw[he]
      cases a.tmps[d] <;> simp
    ·have hDj:D.getD j none=none:=by simp[List.getD,List.getElem?_eq_none (show D.length<=j by omega)]
     rw[hDj]
     simp[Array.getElem?_eq_none (show ops.size<=j by omega)]
  unfold wpOpIn
  rw[ho]
  simp only[hwant]
  cases hgo:PU D o a with
  | true =>
   simp only[if_true]
   refine Lg.wpIn (l:=lo) ?_
   have:=s1 hgo
   revert this
   unfold Lg
   generalize (execOp a.eval o).run P w=res
   intro h
   cases res with
   | ok n w' =>
    cases n <;> simp only at h ⊢ <;> first
     | exact next _ _ h
     | exact h.elim
     | exact Calls.mono h (fun e w'' ⟨y,he,hk⟩=>⟨y,he,next _ _ hk⟩)
   | halt y w'=>exact h.elim
  | false =>
   simp only[Bool.false_eq_true,if_false]
   exact⟨fun f _=>WU _ f,next undef w (s2 hgo)⟩
theorem Us{lo:Option Nat}{P:Program}{id:Nat}{ops:Array Oper}{Q:Exit->Act->World->Prop}{a0:Act}{w0:World}(D:List (Option Tmp))(J:(Nat->Bool)->(Nat->Value)->World->Prop)
  (hm:P.follows .mixedOrders=true) (hpl:plain a0.tmps.size 0 D ops.toList=true) (h0:J (fun _=>false) (fun _=>undef) w0.drew) (hsteps:QD ops.toList P D J a0 0 ops.toList)
  (hend:∀ (L:Nat->Bool) (v:Nat->Value) (w:World),J L v w->(∀ i,i<ops.size->L i=true)->Q .normal (Mo v 0 D a0) w):(Code.region id ops true).wpIn (VV lo) 0 P Q a0 w0:=by
 refine wpIn_region_any hm ?_
 have hno:∀ j,(Array.replicate ops.size false).getD j false=false:=by
  intro j
  by_cases h:j<ops.size <;> simp[Array.getD,h]
 refine Ym D J hpl hsteps hend ops.size _ (fun _=>undef) a0 _ ⟨rfl,by simp,rfl,fun _ _=>rfl,fun j _ hj=>?_,?_,fun k _ _ hl=>?_⟩ ?_ ?_
 ·rw[hno] at hj;cases hj
 ·have e:(fun j=>(Array.replicate ops.size false).getD j false)=fun _=>false:=funext hno
  rw[e];exact h0
 ·rw[hno] at hl;cases hl
 ·intro h0
  cases hr:Region.ready .any ops (Array.replicate ops.size false) with
  | nil=>rfl
  | cons y r =>
   have hy:y∈Region.ready .any ops (Array.replicate ops.size false):=by rw[hr];simp
   have:=(M5 hy).1
   omega
 ·exact Nat.le_trans (List.countP_le_length) (by simp)
end Go.Proofs.YtknjpdcpmpfklaaGreatDoor
